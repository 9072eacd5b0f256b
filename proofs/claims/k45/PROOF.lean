import PyProof.Rows.All
import Wide.All
import OpenK.AllK
import Wide.FinOn
import HandS.ForMost
import HandS.Wide
import HandS.IsInst
import HandS.TupAny
import HandS.TupMul
import HandS.TryOnly
import HandS.ExcOwn
import HandS.WordsExc
import HandS.RaiseMore
import HandS.Style
import PyProof.ReprRoads
import HandS.ExcValue
import HandS.ExcIs
import HandS.Ends
import PyProof.FactsAll.tuple_2
import KE.KRevSl
import KE.KTupSum
import KE.GoesEnum
import HandS.Zip
import HandS.Walk
import KE.GoesZip
import KE.SortData
import HandS.SortInts
import PyProof.Rows.SeqMore
import PySem.Challenge.RW_floormeet_k45_all_semigroups
section FFmBase
set_option Elab.async false
set_option maxRecDepth 100000
namespace Fm
open PySem PySem.Spec PyProof.Rows L2
/-- a def of the top, by its name -/
structure Df (K : PySem.W.Frag) (mg : Str → Option Value) (x : Str) (st : Stmt) (ps : List Str) : Prop where
  ex : ∃ f fd, Fun K x x st f fd ∧ mg x = some (.ref f) ∧ Binds K fd ps []
/-- a def that keeps a promise, as whoever calls it wants it -/
def CallOk (P : Program) (w : World) (K : PySem.W.Frag) (mg : Str → Option Value) (base : Heap) (CX : CXT) (k : Nat) (x : Str) (ps : List Str) (sp : Sp) : Prop :=
  ∃ f fd, FnOk P w K mg base CX k f fd ps sp ∧ mg x = some (.ref f) ∧ PySem.W.keepIn K (.ref f) = true ∧ Binds K fd ps []
/-- the built-in names that stand for themselves -/
structure Nms (mg : Str → Option Value) : Prop where
  n_len : mg "len" = none
  n_range : mg "range" = none
  n_min : mg "min" = none
  n_max : mg "max" = none
  n_tuple : mg "tuple" = none
  n_list : mg "list" = none
  n_isinstance : mg "isinstance" = none
  n_repr : mg "repr" = none
  n_int : mg "int" = none
  n_bool : mg "bool" = none
  n_sum : mg "sum" = none
  n_str : mg "str" = none
  n_enumerate : mg "enumerate" = none
  n_zip : mg "zip" = none
section
variable {P : Program} {w : World} {K : PySem.W.Frag} {mg : Str → Option Value} {base : Heap}
theorem df_ok {x : Str} {st : Stmt} {N ps : List Str} {k : Nat} {sp : Sp} (D : Df K mg x st ps) (S : FnScope N ps (defScope st)) (hl : ∀ vs H Q E, sp vs H Q E → vs.length = ps.length)
    (b : ∀ (f : Addr) (cdv : Value) (A : Around) (outer : List Env) (s : Shared) (H : Hp) (vs : List V) (Q : VK) (E : XK), Room k (A.deeper (envOfC x (defScope st) s.heap.objs.size f cdv)) → sp vs H Q E →
      ∃ t, PSs (cxOf CX0 P w K mg base N x (defScope st) f cdv A outer s H E).nox (defBody st) t ∧ t { nx := fun _ H' => Q .non H', rt := Q } (start N vs) H) :
    CallOk P w K mg base CX0 (k + 1) x ps sp := by
  obtain ⟨f, fd, F, hm, hb⟩ := D.ex
  exact ⟨f, fd, F.ok S hl (b f), hm, F.kp, hb⟩
theorem df_okX {x : Str} {st : Stmt} {N ps : List Str} {k : Nat} {sp : Sp} (D : Df K mg x st ps) (S : FnScope N ps (defScope st)) (hl : ∀ vs H Q E, sp vs H Q E → vs.length = ps.length)
    (b : ∀ (f : Addr) (cdv : Value) (A : Around) (outer : List Env) (s : Shared) (H : Hp) (vs : List V) (Q : VK) (E : XK), Room k (A.deeper (envOfC x (defScope st) s.heap.objs.size f cdv)) → sp vs H Q E →
      ∃ t, PSs (cxOf (L2.CX P w) P w K mg base N x (defScope st) f cdv A outer s H E) (defBody st) t ∧ t { nx := fun _ H' => Q .non H', rt := Q } (start N vs) H) :
    CallOk P w K mg base (L2.CX P w) (k + 1) x ps sp := by
  obtain ⟨f, fd, F, hm, hb⟩ := D.ex
  exact ⟨f, fd, F.okX S hl (b f), hm, F.kp, hb⟩
theorem CallOk.mono {CX : CXT} {i k : Nat} {x : Str} {ps : List Str} {sp : Sp} (c : CallOk P w K mg base CX i x ps sp) (h : i ≤ k) : CallOk P w K mg base CX k x ps sp := by
  obtain ⟨f, fd, F, r⟩ := c
  exact ⟨f, fd, F.mono h, r⟩
theorem CallOk.imp {CX : CXT} {k : Nat} {x : Str} {ps : List Str} {sp sq : Sp} (c : CallOk P w K mg base CX k x ps sp) (h : ∀ vs H Q E, sq vs H Q E → sp vs H Q E) : CallOk P w K mg base CX k x ps sq := by
  obtain ⟨f, fd, F, r⟩ := c
  exact ⟨f, fd, F.imp h, r⟩
end
section
variable {X : Cx} {k : Nat} {x : Str} {ps : List Str} {sp : Sp} {p pos : Pos} {e : Expr} {es : List Expr} {t : TA} {E : XK}
theorem pe_cc (c : CallOk X.prog X.w X.K X.mg X.base CX0 k x ps sp) (hr : Room k X.A) (ha : PA X (e :: es) t) (hg : Gl X x := by rfl) (hd : (x == ("__debug__" : Str)) = false := by decide)
    (he : starEach (e :: es) X.env = (false, eval e X.env) :: starEach es X.env := by rfl) (hp : (backTo pos (starEach es X.env)).any (·.1) = false := by rfl) :
    PE X (.Call (.Name x p) (e :: es) [] pos) (tCall sp [] E0 t) := by
  obtain ⟨f, fd, F, hm, hk, hb⟩ := c
  exact pe_call F hr hg hm hk hb .nil pass0 ha hd he hp
/-- of a def that may raise, where it doesn't -/
theorem pe_cx (c : CallOk X.prog X.w X.K X.mg X.base (L2.CX X.prog X.w) k x ps sp) (hr : Room k X.A) (ha : PA X (e :: es) t) (hg : Gl X x := by rfl) (hd : (x == ("__debug__" : Str)) = false := by decide)
    (he : starEach (e :: es) X.env = (false, eval e X.env) :: starEach es X.env := by rfl) (hp : (backTo pos (starEach es X.env)).any (·.1) = false := by rfl) :
    PE X (.Call (.Name x p) (e :: es) [] pos) (tCall sp [] E0 t) := by
  obtain ⟨f, fd, F, hm, hk, hb⟩ := c
  exact pe_call F hr hg hm hk hb .nil passL ha hd he hp
/-- a call that may raise, under a wish -/
theorem pe_cs {W : WX} (c : CallOk X.prog X.w X.K X.mg X.base (L2.CX X.prog X.w) k x ps sp) (tk : Takes X W) (hr : Room k X.A) (ha : PA X (e :: es) t) (hg : Gl X x := by rfl) (hd : (x == ("__debug__" : Str)) = false := by decide)
    (he : starEach (e :: es) X.env = (false, eval e X.env) :: starEach es X.env := by rfl) (hp : (backTo pos (starEach es X.env)).any (·.1) = false := by rfl) :
    PE X (.Call (.Name x p) (e :: es) [] pos) (tCallS sp (fun σ => WE W σ) t) := by
  obtain ⟨f, fd, F, hm, hk, hb⟩ := c
  exact pe_callS F hr hg hm hk hb (fun σ => passAt tk σ) ha hd he hp
end
/-- all that was tracked but p is as it was -/
def Ext (p : Addr) (H H' : Hp) : Prop := ∀ b o, H b = some o → b ≠ p → H' b = some o
theorem Ext.refl (p : Addr) (H : Hp) : Ext p H H := fun _ _ h _ => h
theorem Ext.trans {p : Addr} {H H1 H2 : Hp} (a : Ext p H H1) (b : Ext p H1 H2) : Ext p H H2 := fun c o h n => b c o (a c o h n) n
theorem Same.ext {H H' : Hp} (s : Same H H') (p : Addr) : Ext p H H' := fun b o h _ => s b o h
theorem same_new {H : Hp} {q : Addr} {o : HO} (h : H q = none) : Same H (upd H q o) := fun b u e => by
  rw [upd_ne (ne_of_none e h)]
  exact e
theorem ext_at {H : Hp} {p : Addr} {o : HO} : Ext p H (upd H p o) := fun b u e n => by
  rw [upd_ne n]
  exact e
/-- the bag of draws at p -/
def Bag (H : Hp) (p : Addr) : Prop := ∃ x y c : Int, H p = some (.lst [.int x, .int y, .int c])
def spPick : Sp := fun vs H Q _ => ∃ (p : Addr) (m : Int), vs = [.ref p, .int m] ∧ 0 < m ∧ m.natAbs.log2 < 9000 ∧ Bag H p ∧ ∀ (k : Int) (H' : Hp), 0 ≤ k → k < m → Bag H' p → Ext p H H' → Q (.int k) H'
def spBag : Sp := fun vs H Q _ => ∃ c : Int, vs = [.int c] ∧ ∀ (p : Addr) (H' : Hp), H p = none → Bag H' p → Same H H' → Q (.ref p) H'
end Fm
end FFmBase
section FFmDat
set_option Elab.async false
set_option maxRecDepth 100000
namespace Fm
open PySem PySem.Spec PyProof.Rows L2
/-- the data that a value stands for: tuples, lists, the empty dict, flat things; no list or dict of it stands at p -/
inductive Dat (H : Hp) (p : Addr) : V → PyData → Prop
  | non : Dat H p .non .none
  | bl (b : Bool) : Dat H p (.bl b) (.bool b)
  | int (i : Int) : Dat H p (.int i) (.int i)
  | str (x : Str) : Dat H p (.str x) (.str x)
  | tup {a : Addr} {xs : List V} {ds : List PyData} : H a = some (.tup xs) → a ≠ p → xs.length = ds.length → (∀ (i : Nat) (x : V) (d : PyData), xs[i]? = some x → ds[i]? = some d → Dat H p x d) → Dat H p (.ref a) (.tuple ds)
  | lst {a : Addr} {xs : List V} {ds : List PyData} : H a = some (.lst xs) → a ≠ p → xs.length = ds.length → (∀ (i : Nat) (x : V) (d : PyData), xs[i]? = some x → ds[i]? = some d → Dat H p x d) → Dat H p (.ref a) (.list ds)
  | dct {a : Addr} : H a = some (.dK []) → a ≠ p → Dat H p (.ref a) (.dict [])
theorem Dat.ext {H H' : Hp} {p : Addr} {v : V} {d : PyData} (e : Ext p H H') (h : Dat H p v d) : Dat H' p v d := by
  induction h with
  | non => exact .non
  | bl b => exact .bl b
  | int i => exact .int i
  | str x => exact .str x
  | tup h1 h2 h3 _ ih => exact .tup (e _ _ h1 h2) h2 h3 ih
  | lst h1 h2 h3 _ ih => exact .lst (e _ _ h1 h2) h2 h3 ih
  | dct h1 h2 => exact .dct (e _ _ h1 h2) h2
theorem Dat.same {H H' : Hp} {p : Addr} {v : V} {d : PyData} (e : Same H H') (h : Dat H p v d) : Dat H' p v d := h.ext (Same.ext e p)
/-- rows of data -/
abbrev Dats (H : Hp) (p : Addr) (xs : List V) (ds : List PyData) : Prop := xs.length = ds.length ∧ ∀ (i : Nat) (x : V) (d : PyData), xs[i]? = some x → ds[i]? = some d → Dat H p x d
theorem Dats.ext {H H' : Hp} {p : Addr} {xs : List V} {ds : List PyData} (e : Ext p H H') (h : Dats H p xs ds) : Dats H' p xs ds := ⟨h.1, fun i x d a b => (h.2 i x d a b).ext e⟩
theorem Dats.nil {H : Hp} {p : Addr} : Dats H p [] [] := ⟨rfl, fun _ _ _ a _ => by simp at a⟩
theorem Dats.snoc {H : Hp} {p : Addr} {xs : List V} {ds : List PyData} {v : V} {d : PyData} (h : Dats H p xs ds) (k : Dat H p v d) : Dats H p (xs ++ [v]) (ds ++ [d]) := by
  refine ⟨by simp [h.1], fun i x e a b => ?_⟩
  by_cases hi : i < xs.length
  · rw [List.getElem?_append_left hi] at a
    rw [List.getElem?_append_left (by rw [← h.1]; exact hi)] at b
    exact h.2 i x e a b
  · rw [List.getElem?_append_right (by omega)] at a
    rw [List.getElem?_append_right (by rw [← h.1]; omega)] at b
    rw [h.1] at a
    cases e0 : i - ds.length with
    | zero =>
      rw [e0] at a b
      simp at a b
      subst a b
      exact k
    | succ j =>
      rw [e0] at a
      simp at a
theorem Dats.cons {H : Hp} {p : Addr} {xs : List V} {ds : List PyData} {v : V} {d : PyData} (k : Dat H p v d) (h : Dats H p xs ds) : Dats H p (v :: xs) (d :: ds) := by
  refine ⟨by simp [h.1], fun i x e a b => ?_⟩
  cases i with
  | zero =>
    simp at a b
    subst a b
    exact k
  | succ j =>
    simp at a b
    exact h.2 j x e a b
theorem Dats.ints {H : Hp} {p : Addr} (ns : List Int) : Dats H p (ns.map V.int) (ns.map PyData.int) := by
  refine ⟨by simp, fun i x d a b => ?_⟩
  rw [List.getElem?_map] at a b
  cases e : ns[i]? with
  | none => rw [e] at a; cases a
  | some n =>
    rw [e] at a b
    simp at a b
    subst a b
    exact .int n
theorem Dats.at {H : Hp} {p : Addr} {xs : List V} {ds : List PyData} (h : Dats H p xs ds) {i : Nat} {x : V} (e : xs[i]? = some x) : ∃ d, ds[i]? = some d ∧ Dat H p x d := by
  have hi : i < xs.length := (List.getElem?_eq_some_iff.mp e).1
  have hj : i < ds.length := by rw [← h.1]; exact hi
  exact ⟨ds[i], List.getElem?_eq_getElem hj, h.2 i x _ e (List.getElem?_eq_getElem hj)⟩
theorem Dats.back {H : Hp} {p : Addr} {xs : List V} {ds : List PyData} (h : Dats H p xs ds) {i : Nat} {d : PyData} (e : ds[i]? = some d) : ∃ x, xs[i]? = some x ∧ Dat H p x d := by
  have hi : i < ds.length := (List.getElem?_eq_some_iff.mp e).1
  have hj : i < xs.length := by rw [h.1]; exact hi
  exact ⟨xs[i], List.getElem?_eq_getElem hj, h.2 i _ d (List.getElem?_eq_getElem hj) e⟩
/-- a new tuple of data -/
theorem Dat.new {H : Hp} {p q : Addr} {xs : List V} {ds : List PyData} (hq : H q = none) (hp : q ≠ p) (h : Dats H p xs ds) : Dat (upd H q (.tup xs)) p (.ref q) (.tuple ds) :=
  .tup upd_same hp h.1 fun i x d a b => (h.2 i x d a b).same (same_new hq)
theorem Dat.newL {H : Hp} {p q : Addr} {xs : List V} {ds : List PyData} (hq : H q = none) (hp : q ≠ p) (h : Dats H p xs ds) : Dat (upd H q (.lst xs)) p (.ref q) (.list ds) :=
  .lst upd_same hp h.1 fun i x d a b => (h.2 i x d a b).same (same_new hq)
theorem Dat.isTup {H : Hp} {p : Addr} {v : V} {ds : List PyData} (h : Dat H p v (.tuple ds)) : ∃ a xs, v = .ref a ∧ H a = some (.tup xs) ∧ a ≠ p ∧ Dats H p xs ds := by
  cases h with
  | tup h1 h2 h3 h4 => exact ⟨_, _, rfl, h1, h2, h3, h4⟩
theorem Dat.isInt {H : Hp} {p : Addr} {v : V} {i : Int} (h : Dat H p v (.int i)) : v = .int i := by
  cases h with
  | int i => rfl
/-! ### types -/
def tyName : PyData → String
  | .none => "NoneType"
  | .bool _ => "bool"
  | .int _ => "int"
  | .str _ => "str"
  | .list _ => "list"
  | .tuple _ => "tuple"
  | .dict _ => "dict"
theorem Dat.ty {K : PySem.W.Frag} {H : Hp} {p : Addr} {v : V} {d : PyData} (h : Dat H p v d) : TyX K H v (.type (tyName d)) := by
  cases h with
  | non => exact .base .non
  | bl b => exact .base (.bl b)
  | int i => exact .base (.int i)
  | str x => exact .base (.str x)
  | tup h1 => exact .base (.tup h1)
  | lst h1 => exact .base (.lst h1)
  | dct h1 => exact .base (.dK h1)
def isI : PyData → Bool
  | .int _ => true
  | .bool _ => true
  | _ => false
def isB : PyData → Bool
  | .bool _ => true
  | _ => false
def isTu : PyData → Bool
  | .tuple _ => true
  | _ => false
theorem kit_int : ∀ d : PyData, kitB (tyName d) "int" = some (isI d)
  | .none => (by decide +kernel : kitB "NoneType" "int" = some false)
  | .bool _ => (by decide +kernel : kitB "bool" "int" = some true)
  | .int _ => (by decide +kernel : kitB "int" "int" = some true)
  | .str _ => (by decide +kernel : kitB "str" "int" = some false)
  | .list _ => (by decide +kernel : kitB "list" "int" = some false)
  | .tuple _ => (by decide +kernel : kitB "tuple" "int" = some false)
  | .dict _ => (by decide +kernel : kitB "dict" "int" = some false)
theorem kit_bool : ∀ d : PyData, kitB (tyName d) "bool" = some (isB d)
  | .none => (by decide +kernel : kitB "NoneType" "bool" = some false)
  | .bool _ => (by decide +kernel : kitB "bool" "bool" = some true)
  | .int _ => (by decide +kernel : kitB "int" "bool" = some false)
  | .str _ => (by decide +kernel : kitB "str" "bool" = some false)
  | .list _ => (by decide +kernel : kitB "list" "bool" = some false)
  | .tuple _ => (by decide +kernel : kitB "tuple" "bool" = some false)
  | .dict _ => (by decide +kernel : kitB "dict" "bool" = some false)
theorem kit_tuple : ∀ d : PyData, kitB (tyName d) "tuple" = some (isTu d)
  | .none => (by decide +kernel : kitB "NoneType" "tuple" = some false)
  | .bool _ => (by decide +kernel : kitB "bool" "tuple" = some false)
  | .int _ => (by decide +kernel : kitB "int" "tuple" = some false)
  | .str _ => (by decide +kernel : kitB "str" "tuple" = some false)
  | .list _ => (by decide +kernel : kitB "list" "tuple" = some false)
  | .tuple _ => (by decide +kernel : kitB "tuple" "tuple" = some true)
  | .dict _ => (by decide +kernel : kitB "dict" "tuple" = some false)
theorem isTu_iff {d : PyData} : isTu d = true ↔ ∃ ds, d = .tuple ds := by
  cases d <;> simp [isTu]
/-! ### texts -/
def noList : PyData → Bool
  | .list _ => false
  | .tuple xs => xs.attach.all fun ⟨x, _⟩ => noList x
  | _ => true
theorem noList_tup {ds : List PyData} (h : noList (.tuple ds) = true) : ∀ d ∈ ds, noList d = true := by
  intro d hd
  unfold noList at h
  rw [List.all_eq_true] at h
  exact h ⟨d, hd⟩ (List.mem_attach _ _)
theorem noList_of {ds : List PyData} (h : ∀ d ∈ ds, noList d = true) : noList (.tuple ds) = true := by
  unfold noList
  rw [List.all_eq_true]
  exact fun ⟨d, hd⟩ _ => h d hd
theorem readsAll_of {h : Heap} : ∀ {xs : List V} {us : List Value} {ds : List PyData}, Vals xs us → xs.length = ds.length →
    (∀ (i : Nat) (x : V) (d : PyData), xs[i]? = some x → ds[i]? = some d → ∀ u, RelV x u → ∃ as, Reads h u d as ∧ (noList d = true → sysModules ∉ as)) →
    ∃ as, ReadsAll h us ds as ∧ ((∀ d ∈ ds, noList d = true) → sysModules ∉ as)
  | [], _, ds, r, hl, _ => by
    cases r
    cases ds with
    | nil => exact ⟨[], .nil, fun _ => by simp⟩
    | cons d r => simp at hl
  | x :: xs, _, ds, r, hl, hr => by
    cases r with
    | cons r1 r2 =>
      cases ds with
      | nil => simp at hl
      | cons d ds =>
        obtain ⟨a1, h1, n1⟩ := hr 0 x d rfl rfl _ r1
        obtain ⟨a2, h2, n2⟩ := readsAll_of r2 (by simpa using hl) fun i y e q1 q2 => hr (i + 1) y e (by simpa using q1) (by simpa using q2)
        exact ⟨a1 ++ a2, .cons h1 h2, fun hn hm => by
          rcases List.mem_append.mp hm with hm | hm
          · exact n1 (hn d List.mem_cons_self) hm
          · exact n2 (fun e he => hn e (List.mem_cons_of_mem _ he)) hm⟩
theorem Dat.reads {X : Cx} {pins : List (Addr × Obj)} {σ : L2.St} {H : Hp} {s : Shared} {p : Addr} {v : V} {d : PyData} (I : Inv X pins σ H s) (h : Dat H p v d) :
    ∀ u, RelV v u → ∃ as, Reads s.heap u d as ∧ (noList d = true → sysModules ∉ as) := by
  induction h with
  | non => intro u r; cases r; exact ⟨[], .none, fun _ => by simp⟩
  | bl b => intro u r; cases r; exact ⟨[], .bool b, fun _ => by simp⟩
  | int i => intro u r; obtain ⟨t, rfl⟩ := r; exact ⟨[], .int i t, fun _ => by simp⟩
  | str x => intro u r; obtain ⟨t, rfl⟩ := r; exact ⟨[], .str x t, fun _ => by simp⟩
  | tup h1 h2 h3 _ ih =>
    intro u r
    cases r
    obtain ⟨its, rv, ⟨o, e, hc, n, hd⟩, _⟩ := I.tuple (SqT.of h1)
    obtain ⟨as, ha, hn⟩ := readsAll_of rv h3 ih
    exact ⟨as, .tuple e hc hd (by simpa using ha), fun z => hn (noList_tup z)⟩
  | lst h1 h2 h3 _ ih =>
    intro u r
    cases r
    obtain ⟨its, rv, ⟨o, n, e, hc, _, hd⟩, _⟩ := I.list (SqL.of h1)
    obtain ⟨as, ha, hn⟩ := readsAll_of rv h3 ih
    exact ⟨_, .list e hc hd (by simpa using ha), fun z => by unfold noList at z; cases z⟩
  | @dct a h1 h2 =>
    intro u r
    cases r
    obtain ⟨_, hs, vs, kv, o, es, ep, e, hx, hd, he⟩ := (show ObjOk X.prog X.w H s.heap a (.dK []) from I.hok a _ h1)
    cases kv
    have e0 : es.toList = [] := by
      have q := he.2.1
      cases z : es.toList with
      | nil => rfl
      | cons x r =>
        rw [z] at q
        exact absurd q (by intro w; cases w)
    refine ⟨_, .dict (as := []) (bs := []) e hx.1 hd (by rw [e0]; exact .nil) (by rw [e0]; exact .nil), fun _ hm => ?_⟩
    simp at hm
    rw [hm] at hs
    simp at hs
/-- a bound of what is shown -/
structure Fit (n k : Nat) (d : PyData) : Prop where
  len : d.shown.length ≤ n
  dep : d.depth ≤ k
  sh : d.showable = true
  ok : d.hasDict = false ∨ noList d = true
theorem fit_int {i : Int} (h : i.natAbs < 10 ^ 40) : Fit 41 0 (.int i) := by
  refine ⟨?_, ?_, ?_, ?_⟩
  · have q := int_text_length_le10 (a := i) (k := 40) (by decide) h
    simp only [PyData.shown]
    show (Str.ofString (toString i)).length ≤ 41
    rw [PySem.ofString_length]
    omega
  · simp only [PyData.depth]; omega
  · simp only [PyData.showable]
    have l : i.natAbs < 2 ^ 133 := Nat.lt_of_lt_of_le h (by decide)
    have l2 := PySem.Flt.log2_lt_of (by decide : 0 < 133) l
    exact decide_eq_true (by omega)
  · exact .inl (by simp only [PyData.hasDict])
theorem fit_bool (b : Bool) : Fit 5 0 (.bool b) := by
  refine ⟨?_, ?_, ?_, ?_⟩
  · simp only [PyData.shown]
    cases b <;> decide
  · simp only [PyData.depth]; omega
  · simp only [PyData.showable]
  · exact .inl (by simp only [PyData.hasDict])
theorem fit_none : Fit 5 0 .none := by
  refine ⟨?_, ?_, ?_, ?_⟩
  · simp only [PyData.shown]
    decide
  · simp only [PyData.depth]; omega
  · simp only [PyData.showable]
  · exact .inl (by simp only [PyData.hasDict])
theorem fit_str {x : Str} (h : (reprText x).length ≤ 41) : Fit 41 0 (.str x) := by
  refine ⟨?_, ?_, ?_, ?_⟩
  · simpa only [PyData.shown] using h
  · simp only [PyData.depth]; omega
  · simp only [PyData.showable]
  · exact .inl (by simp only [PyData.hasDict])
theorem Fit.mono {n k n' k' : Nat} {d : PyData} (F : Fit n k d) (h : n ≤ n') (h' : k ≤ k') : Fit n' k' d := ⟨Nat.le_trans F.len h, Nat.le_trans F.dep h', F.sh, F.ok⟩
theorem all_fit {n k : Nat} : ∀ {ds : List PyData}, (∀ d ∈ ds, Fit n k d) → piled (PyData.shownAll ds) ≤ (n + 2) * ds.length ∧ PyData.depthAll ds ≤ k ∧ PyData.showableAll ds = true ∧ (PyData.shownAll ds).length = ds.length
  | [], _ => by simp [PyData.shownAll, PyData.depthAll, PyData.showableAll, piled]
  | d :: r, h => by
    obtain ⟨h1, h2, h3, h4⟩ := all_fit fun e he => h e (List.mem_cons_of_mem _ he)
    have F := h d List.mem_cons_self
    have l := F.len
    have e := F.dep
    refine ⟨?_, ?_, ?_, ?_⟩
    · simp only [PyData.shownAll, piled_cons, List.length_cons]
      rw [Nat.mul_add]
      omega
    · simp only [PyData.depthAll]
      omega
    · simp only [PyData.showableAll, F.sh, h3, Bool.and_self]
    · simp only [PyData.shownAll, List.length_cons, h4]
theorem hasDict_all : ∀ {ds : List PyData}, (∀ d ∈ ds, d.hasDict = false) → PyData.hasDictAll ds = false
  | [], _ => by simp only [PyData.hasDictAll]
  | d :: r, h => by
    simp only [PyData.hasDictAll, h d List.mem_cons_self, hasDict_all fun e he => h e (List.mem_cons_of_mem _ he), Bool.or_self]
theorem tupleText_len (ts : List Str) : (tupleText ts).length ≤ piled ts + 3 := by
  unfold tupleText
  rw [strLen_append, strLen_append]
  have e : (Str.ofString (if ts.length == 1 then ",)" else ")" : String)).length ≤ 2 := by split <;> decide
  have e1 : ("(" : Str).length = 1 := rfl
  by_cases h : ts = []
  · subst h
    have : (Str.join ", " []).length = 0 := rfl
    omega
  · have := join_length_add ts h
    omega
theorem listText_len (ts : List Str) : (listText ts).length ≤ piled ts + 3 := by
  cases ts with
  | nil => decide
  | cons t r =>
    have h := textFrom_length_pos r 1 (("[" : Str) ++ (if (0 : Nat) > 0 then ", " else "" : String) ++ t) (Nat.succ_pos 0)
    have e : (("[" : Str) ++ (if (0 : Nat) > 0 then ", " else "" : String) ++ t).length = 1 + t.length := by rw [strLen_append, strLen_append]; rfl
    show (textFrom 1 (("[" : Str) ++ (if (0 : Nat) > 0 then ", " else "" : String) ++ t) r ++ "]").length ≤ _
    rw [strLen_append, h, e, piled_cons]
    have e2 : ("]" : Str).length = 1 := rfl
    omega
theorem fit_tup {n k : Nat} {ds : List PyData} (h : ∀ d ∈ ds, Fit n k d) (hn : ∀ d ∈ ds, noList d = true) : Fit ((n + 2) * ds.length + 3) (k + 1) (.tuple ds) := by
  obtain ⟨h1, h2, h3, h4⟩ := all_fit h
  refine ⟨?_, ?_, ?_, ?_⟩
  · simp only [PyData.shown]
    exact Nat.le_trans (tupleText_len _) (by omega)
  · simp only [PyData.depth]; omega
  · simpa only [PyData.showable] using h3
  · exact .inr (noList_of hn)
/-- tuples and lists without a dict -/
theorem fit_tupD {n k : Nat} {ds : List PyData} (h : ∀ d ∈ ds, Fit n k d) (hn : ∀ d ∈ ds, d.hasDict = false) : Fit ((n + 2) * ds.length + 3) (k + 1) (.tuple ds) := by
  obtain ⟨h1, h2, h3, h4⟩ := all_fit h
  refine ⟨?_, ?_, ?_, ?_⟩
  · simp only [PyData.shown]
    exact Nat.le_trans (tupleText_len _) (by omega)
  · simp only [PyData.depth]; omega
  · simpa only [PyData.showable] using h3
  · exact .inl (by simp only [PyData.hasDict]; exact hasDict_all hn)
theorem fit_lst {n k : Nat} {ds : List PyData} (h : ∀ d ∈ ds, Fit n k d) (hn : ∀ d ∈ ds, d.hasDict = false) : Fit ((n + 2) * ds.length + 3) (k + 1) (.list ds) := by
  obtain ⟨h1, h2, h3, h4⟩ := all_fit h
  refine ⟨?_, ?_, ?_, ?_⟩
  · simp only [PyData.shown]
    exact Nat.le_trans (listText_len _) (by omega)
  · simp only [PyData.depth]; omega
  · simpa only [PyData.showable] using h3
  · exact .inl (by simp only [PyData.hasDict]; exact hasDict_all hn)
theorem call_repr {X : Cx} (hg : X.A.guards = some []) (hu : X.A.units + 64 < cLine) : CallR X (.builtin "repr") (fun xs H Q => ∃ (v : V) (p : Addr) (d : PyData) (n k : Nat), xs = [v] ∧ Dat H p v d ∧ Fit n k d ∧ n ≤ sizeLine ∧ k ≤ 60 ∧ Q (.str d.shown) H) := by
  intro pins s σ H xs us Q I r h
  obtain ⟨v, p, d, n, k, rfl, hd, F, hn, hk, q⟩ := h
  obtain ⟨u, rfl, ru⟩ := vals1 r
  obtain ⟨as, R, hm⟩ := hd.reads I u ru
  have hz : d.shown.length ≤ sizeLine := Nat.le_trans F.len hn
  have fin : ∀ tk t, EP X pins σ Q (.str d.shown t) { s with toks := tk } := fun tk t => ⟨.str d.shown, H, I.tok tk, ⟨t, rfl⟩, q⟩
  cases hd with
  | non => cases ru; exact PySem.P.repr_of_none (by simpa only [PyData.shown] using fin _ _)
  | bl b => cases ru; exact PySem.P.repr_of_bool (by simpa only [PyData.shown] using fin _ _)
  | int i => obtain ⟨t, rfl⟩ := ru; exact PySem.P.repr_of_int (by simpa only [PyData.showable, decide_eq_true_eq] using F.sh) (by simpa only [PyData.shown] using fin _ _)
  | str x => obtain ⟨t, rfl⟩ := ru; exact PySem.P.repr_of_str (by simpa only [PyData.shown] using fin _ _) (by simpa only [PyData.shown] using hz)
  | tup h1 h2 h3 h4 =>
    cases ru
    exact repr_of_reads' R F.sh (fun hd => hm (F.ok.resolve_left (by rw [hd]; exact Bool.noConfusion))) hg (by have := F.dep; omega) (fun _ _ e => e) (fun h' u tk hk' => ⟨.str _, H, I.kept (t' := tk) hk', ⟨u, rfl⟩, q⟩) hz
  | lst h1 h2 h3 h4 =>
    cases ru
    exact repr_of_reads' R F.sh (fun hd => hm (F.ok.resolve_left (by rw [hd]; exact Bool.noConfusion))) hg (by have := F.dep; omega) (fun _ _ e => e) (fun h' u tk hk' => ⟨.str _, H, I.kept (t' := tk) hk', ⟨u, rfl⟩, q⟩) hz
  | dct h1 h2 =>
    cases ru
    exact repr_of_reads' R F.sh (fun hd => hm (F.ok.resolve_left (by rw [hd]; exact Bool.noConfusion))) hg (by have := F.dep; omega) (fun _ _ e => e) (fun h' u tk hk' => ⟨.str _, H, I.kept (t' := tk) hk', ⟨u, rfl⟩, q⟩) hz
end Fm
end FFmDat
section FFmLoop
set_option Elab.async false
set_option maxRecDepth 100000
namespace Fm
open PySem PySem.Spec PyProof.Rows L2
/-- a loop over what J yields -/
def ForB (J : It) (g : TG) (tb : TS) (D : Ends) (σ : L2.St) (H : Hp) : Prop := ∃ W : Nat → Nat → L2.St → Hp → Prop, (∃ m, W 0 m σ H) ∧ ∀ i m σ H, W i m σ H →
  (J.stop i H ∧ D.nx σ H) ∨ (J.go i H ∧ ∃ N : L2.St → Hp → Prop, (∀ σ' H', N σ' H' → ∃ m', m' < m ∧ W (i + 1) m' σ' H') ∧ ∀ x H', J.yld i H x H' → g x σ H' fun σ2 H2 => tb { D with nx := N, ct := N, bk := D.nx } σ2 H2)
theorem tFor_eq {wi : TI} {g : TG} {tb : TS} {D : Ends} {σ : L2.St} {H : Hp} : tFor wi g tb D σ H = wi σ H fun J H1 => ForB J g tb D σ H1 := rfl
/-- a comprehension over what J yields, its list at D -/
def LcB (J : It) (g : TG) (tt : TT) (te : TE) (vs : List Nat) (σ : L2.St) (H1 : Hp) (D : Addr) (Qd : Hp → Prop) : Prop := ∃ W : Nat → Nat → Hp → Prop, (∃ m, W 0 m (upd H1 D (.lst []))) ∧ ∀ i m H, W i m H →
  (J.stop i H ∧ Qd H) ∨ (J.go i H ∧ ∃ Nx : Hp → Prop, (∀ H', Nx H' → ∃ m', m' < m ∧ W (i + 1) m' H') ∧ ∀ x H', J.yld i H x H' → g x (wipe σ vs) H' fun σ2 H2 => wipe σ2 vs = wipe σ vs ∧ tt σ2 H2 fun b H3 =>
    if b = true then te σ2 H3 fun y H4 => ∃ acc, H4 D = some (.lst acc) ∧ acc.length < sizeLine ∧ Nx (upd H4 D (.lst (acc ++ [y]))) else Nx H3)
theorem tLc_eq {wi : TI} {g : TG} {tt : TT} {te : TE} {vs : List Nat} {σ : L2.St} {H : Hp} {Q : VK} : tLc wi g tt te vs σ H Q = wi σ H fun J H1 => ∀ A, H1 A = none → LcB J g tt te vs σ H1 A (fun H => Q (.ref A) H) := rfl
section
variable {K : PySem.W.Frag} {a : Addr} {xs : List V} {g : TG} {tb : TS} {D : Ends} {σ : L2.St} {H : Hp}
theorem fT (Pv : Nat → L2.St → Hp → Prop) (h0 : Pv 0 σ H) (hl : ∀ i σ H, i ≤ xs.length → Pv i σ H → SqT K H a xs)
    (hs : ∀ i x σ H, xs[i]? = some x → Pv i σ H → g x σ H fun σ2 H2 => tb { D with nx := Pv (i + 1), ct := Pv (i + 1), bk := D.nx } σ2 H2) (hd : ∀ σ H, Pv xs.length σ H → D.nx σ H) : ForB (Itt K a) g tb D σ H := for_tup Pv h0 hl hs hd
theorem fL (Pv : Nat → L2.St → Hp → Prop) (h0 : Pv 0 σ H) (hl : ∀ i σ H, i ≤ xs.length → Pv i σ H → SqL K H a xs)
    (hs : ∀ i x σ H, xs[i]? = some x → Pv i σ H → g x σ H fun σ2 H2 => tb { D with nx := Pv (i + 1), ct := Pv (i + 1), bk := D.nx } σ2 H2) (hd : ∀ σ H, Pv xs.length σ H → D.nx σ H) : ForB (Itl K a) g tb D σ H := for_list Pv h0 hl hs hd
theorem fR {lo : Int} {n : Nat} (Pv : Nat → L2.St → Hp → Prop) (h0 : Pv 0 σ H)
    (hs : ∀ i σ H, i < n → Pv i σ H → g (.int (lo + i)) σ H fun σ2 H2 => tb { D with nx := Pv (i + 1), ct := Pv (i + 1), bk := D.nx } σ2 H2) (hd : ∀ σ H, Pv n σ H → D.nx σ H) : ForB (Itr lo n) g tb D σ H := for_range Pv h0 hs hd
end
section
variable {K : PySem.W.Frag} {a : Addr} {xs : List V} {g : TG} {tt : TT} {te : TE} {vs : List Nat} {σ : L2.St} {H1 : Hp} {D : Addr} {Qd : Hp → Prop}
theorem lR {lo : Int} {n : Nat} (Pv : Nat → Hp → Prop) (h0 : Pv 0 (upd H1 D (.lst [])))
    (hs : ∀ i H, i < n → Pv i H → g (.int (lo + i)) (wipe σ vs) H fun σ2 H2 => wipe σ2 vs = wipe σ vs ∧ tt σ2 H2 fun b H3 =>
      if b = true then te σ2 H3 fun y H4 => ∃ acc, H4 D = some (.lst acc) ∧ acc.length < sizeLine ∧ Pv (i + 1) (upd H4 D (.lst (acc ++ [y]))) else Pv (i + 1) H3) (hd : ∀ H, Pv n H → Qd H) : LcB (Itr lo n) g tt te vs σ H1 D Qd := lc_range Pv h0 hs hd
theorem lL (Pv : Nat → Hp → Prop) (h0 : Pv 0 (upd H1 D (.lst []))) (hl : ∀ i H, i ≤ xs.length → Pv i H → SqL K H a xs)
    (hs : ∀ i x H, xs[i]? = some x → Pv i H → g x (wipe σ vs) H fun σ2 H2 => wipe σ2 vs = wipe σ vs ∧ tt σ2 H2 fun b H3 =>
      if b = true then te σ2 H3 fun y H4 => ∃ acc, H4 D = some (.lst acc) ∧ acc.length < sizeLine ∧ Pv (i + 1) (upd H4 D (.lst (acc ++ [y]))) else Pv (i + 1) H3) (hd : ∀ H, Pv xs.length H → Qd H) : LcB (Itl K a) g tt te vs σ H1 D Qd := lc_list Pv h0 hl hs hd
theorem lT (Pv : Nat → Hp → Prop) (h0 : Pv 0 (upd H1 D (.lst []))) (hl : ∀ i H, i ≤ xs.length → Pv i H → SqT K H a xs)
    (hs : ∀ i x H, xs[i]? = some x → Pv i H → g x (wipe σ vs) H fun σ2 H2 => wipe σ2 vs = wipe σ vs ∧ tt σ2 H2 fun b H3 =>
      if b = true then te σ2 H3 fun y H4 => ∃ acc, H4 D = some (.lst acc) ∧ acc.length < sizeLine ∧ Pv (i + 1) (upd H4 D (.lst (acc ++ [y]))) else Pv (i + 1) H3) (hd : ∀ H, Pv xs.length H → Qd H) : LcB (Itt K a) g tt te vs σ H1 D Qd := lc_tup Pv h0 hl hs hd
end
/-! ### what a house is, as data -/
def UpTo (mv : V) (d : PyData) : Prop := ∃ i : Int, d = .int i ∧ 0 ≤ i ∧ ∀ M, mv = .int M → i ≤ M
def RowD (m : Nat) (d : PyData) : Prop := ∃ ds, d = .tuple ds ∧ ds.length = m ∧ ∀ e ∈ ds, ∃ i : Int, e = .int i ∧ 0 ≤ i ∧ i < m
def cellD (rs : List PyData) (a b : Nat) : PyData := match rs[a]? with
  | some (.tuple r) => r[b]?.getD .none
  | _ => .none
def TabD (m : Nat) (d : PyData) : Prop := ∃ rs, d = .tuple rs ∧ rs.length = m ∧ (∀ r ∈ rs, RowD m r) ∧ ∀ a b, a < m → b < m → cellD rs a b = cellD rs b a
def FloorD (m : Nat) (d : PyData) : Prop := ∃ s u, d = .tuple [s, u] ∧ TabD m s ∧ TabD m u
def HouseN (m n : Nat) (d : PyData) : Prop := ∃ fs, d = .tuple fs ∧ fs.length = n ∧ 1 ≤ n ∧ n ≤ 4 ∧ 1 ≤ m ∧ m ≤ 6 ∧ ∀ f ∈ fs, FloorD m f
def HouseD (d : PyData) : Prop := ∃ m n, HouseN m n d
/-! ### promises of the program's looks -/
def spWhole : Sp := fun vs H Q _ => ∃ (v : V) (p : Addr) (d : PyData), vs = [v] ∧ Dat H p v d ∧ ∀ b : Bool, (b = true ↔ ∃ i, d = .int i) → Q (.bl b) H
def spUpTo : Sp := fun vs H Q _ => ∃ (v mv : V) (p : Addr) (d : PyData), vs = [v, mv] ∧ Dat H p v d ∧ (mv = .non ∨ ∃ M, mv = .int M) ∧ ∀ b : Bool, (b = true ↔ UpTo mv d) → Q (.bl b) H
def spTupOf : Sp := fun vs H Q _ => ∃ (v : V) (n : Int) (p : Addr) (d : PyData), vs = [v, .int n] ∧ Dat H p v d ∧ ∀ b : Bool, (b = true ↔ ∃ ds, d = .tuple ds ∧ (ds.length : Int) = n) → Q (.bl b) H
def spAre : Sp := fun vs H Q _ => ∃ (v mv : V) (n : Int) (p : Addr) (d : PyData), vs = [v, .int n, mv] ∧ Dat H p v d ∧ (mv = .non ∨ ∃ M, mv = .int M) ∧
  ∀ b : Bool, (b = true ↔ ∃ ds, d = .tuple ds ∧ (ds.length : Int) = n ∧ ∀ e ∈ ds, UpTo mv e) → Q (.bl b) H
def spTable : Sp := fun vs H Q _ => ∃ (v : V) (m : Nat) (p : Addr) (d : PyData), vs = [v, .int m] ∧ m ≤ 1000 ∧ Dat H p v d ∧ ∀ b : Bool, (b = true ↔ TabD m d) → Q (.bl b) H
def spHouse : Sp := fun vs H Q _ => ∃ (v : V) (p : Addr) (d : PyData), vs = [v] ∧ Dat H p v d ∧ ∀ b : Bool, (b = true ↔ HouseD d) → Q (.bl b) H
end Fm
end FFmLoop
section FFmTry
set_option Elab.async false
set_option linter.all false
set_option maxRecDepth 100000
set_option maxHeartbeats 2000000
namespace Fm
open PySem PySem.Spec PyProof.Rows L2
/-- an exception of the class cls, caught and kept at a -/
def ExK (cls : Value) (d : Option Addr) (a : Addr) : HO := .ext fun h => ∃ (oe : Obj) (vs : Array Value), h.get? a = some oe ∧ Zc cls d oe ∧ oe.data = .fields vs
section
variable {X : Cx} {pins : List (Addr × Obj)} {σ : L2.St} {H : Hp} {s sI : Shared}
/-- what is pinned, and is new since the entry, may be tracked -/
theorem track {a : Addr} {oe : Obj} {vs : Array Value} {cls : Value} {d : Option Addr} (I : Inv X ((a, oe) :: pins) σ H s) (hz : Zc cls d oe) (hv : oe.data = .fields vs)
    (h0 : X.s_0.heap.get? a = none) (hp : ∀ q ∈ X.pn ++ pins, q.1 ≠ a) : Inv X pins σ (upd H a (ExK cls d a)) s := by
  obtain ⟨ga, na, nl, nf, nc⟩ := I.pin (a, oe) (List.mem_append_right _ List.mem_cons_self)
  dsimp only at ga na nl nf nc
  have nb : ∀ {b o}, X.s_0.heap.get? b = some o → b ≠ a := fun {b o} e z => by
    rw [z, h0] at e
    cases e
  have hne : ∀ {b u}, H b = some u → b ≠ a := fun {b u} e => ne_of_none e na
  refine ⟨I.ok, I.os, I.bare, ⟨fun b o e n x y => ?_, fun b o e n x y => ?_, fun b o e n x => ?_, fun b o e x => ?_, fun b xs e => ?_, fun b o u e => ?_, fun b ps e => ?_⟩, I.loc, I.cell, ?_, fun x c e => ?_, fun q hq => ?_, fun b u e => ?_, I.len⟩
  · exact I.base.keep b o e n x y
  · exact I.base.slot b o e n x y
  · rw [upd_ne (nb e)]
    exact I.base.free b o e n x
  · exact I.base.there b o e x
  · have q := I.base.tups b xs e
    rw [upd_ne (hne q)]
    exact q
  · have q := I.base.frzs b o u e
    rw [upd_ne (hne q)]
    exact q
  · obtain ⟨m, q⟩ := I.base.tbls b ps e
    exact ⟨m, by rw [upd_ne (hne q)]; exact q⟩
  · rw [upd_ne (Ne.symm nl)]
    exact I.free
  · have hca : c ≠ a := fun z => by
      obtain ⟨v, o, ho, hd⟩ := I.cell x c e
      rw [z, ga] at ho
      cases ho
      exact nc v hd
    rw [upd_ne hca]
    exact I.freeC x c e
  · have hq2 : q ∈ X.pn ++ (a, oe) :: pins := by
      rcases List.mem_append.mp hq with z | z
      · exact List.mem_append_left _ z
      · exact List.mem_append_right _ (List.mem_cons_of_mem _ z)
    obtain ⟨e1, e2, e3⟩ := I.pin q hq2
    exact ⟨e1, by rw [upd_ne (hp q hq)]; exact e2, e3⟩
  · by_cases hb : b = a
    · subst hb
      rw [upd_same] at e
      cases e
      exact ⟨⟨oe, vs, ga, hz, hv⟩, ⟨oe, ga⟩, fun h1 h2 ⟨o, v, q, r⟩ k => ⟨o, v, k o q, r⟩⟩
    · rw [upd_ne hb] at e
      exact (I.hok b u e).stay (fun c w _ q => q) (fun c q => by rw [upd_ne (hne q)]; exact q) fun c xs q => by rw [upd_ne (hne q)]; exact q
end
/-- what the clause wishes that keeps its exception in a name: i the clause's own name, j the name that keeps it -/
def wKeep (K : PySem.W.Frag) (c : Value) (i j : Nat) (D : Ends) : WX := fun cls d σ H =>
  PySem.W.exmOne K cls c = some true ∧ ∀ a, H a = none → D.nx (((σ.set i (some (.ref a))).set j (some (.ref a))).set i none) (upd H a (ExK cls d a))
section
variable {X : Cx} {x n y : Str} {c : Value} {i j : Nat} {body : List Stmt} {np pos pos' py pn sp : Pos} {tb : WX → TS}
theorem ps_try_keep (hs : X.stack = X.env :: X.outer) (hf : X.env.frame = some X.env.locals) (hex : X.ex = []) (hN : X.N.Nodup) (hi : X.N[i]? = some n) (hln : X.env.kindOf n = some .local) (hj : X.N[j]? = some y) (hly : X.env.kindOf y = some .local) (hc : Names X x c)
    (hd1 : (n == ("__debug__" : Str)) = false) (hd2 : (n == ("__classdict__" : Str)) = false) (hsw : swapsWith (.Name n pn) (some (.Name y py)) sp.line X.env = pure false) (hil : i < X.N.length)
    (hb : ∀ (W : WX) (pn : List (Addr × Obj)) (xe : Value → Shared → Prop), Takes (X.tr pn xe) W → PassesOwn (model X.prog X.w) X.A X.env xe → PSs (X.tr pn xe) body (tb W)) :
    PS X (.Try body [.ExceptHandler (some (.Name x np)) (some n) [.Assign [.Name y py] (.Name n pn) sp] pos'] [] [] pos) (fun D σ H => tb (wKeep X.K c i j D) D σ H) := by
  refine ⟨fun pins s σ H D I h => ?_⟩
  have ok := I.ok
  have fr1 : X.A.frames = some (X.env :: X.outer) := by rw [ok.frames, hs]
  have lc1 : Loc X.env.scope n := .inl hln
  refine wpAny_Try_except ?_
  refine wpAny_mono ((hb (wKeep X.K c i j D) (X.pn ++ pins) (fun e t1 => wpAny (model X.prog X.w) X.A (noteFrame e X.env) (fun _ t2 => wpAny (model X.prog X.w) X.A (setFlight e none) (fun _ t3 =>
    wpAny (model X.prog X.w) X.A (handleBy e X.env [.ExceptHandler (some (.Name x np)) (some n) [.Assign [.Name y py] (.Name n pn) sp] pos']) (SP X pins D) X.xe t3) X.xe t2) X.xe t1) (fun u s' xx => ?_) PassesOwn.looking).run [] s σ H D (I.toTry _) h) (fun f s1 hsp => ?_) (fun e s1 he => he)
  · obtain ⟨a, B, sI, pins', σ1, H1, cls, d, rfl, J0, nb, up, sky, na, os, ag, hx1, hyes⟩ := xx
    have J : Inv X pins σ1 H1 sI := J0.ofTry ok
    have sk : Sky B (X.env :: X.outer) a (Zc cls d) X.env.locals s'.heap := hs ▸ sky
    show wpAny (model X.prog X.w) X.A (noteFrame (.ref a) X.env) _ _ _
    refine Sky.land Zc.steady fr1 hf sk fun g3 f3 u3 => ?_
    have K3 : Inv X pins σ1 H1 { s' with heap := g3 } := J.landed nb f3.1 (up.trans u3) os ag
    obtain ⟨o3, v3, e3, z3, d3⟩ := f3.there
    have off : a ∉ frs (X.env :: X.outer) := fun hm => by
      obtain ⟨_, o', e', hq⟩ := (show g3.FunFrames B (X.env :: X.outer) from f3.2.2.1).mem hm
      rw [e3] at e'
      cases e'
      exact hq _ d3
    have offL : a ≠ X.env.locals := fun z => off (List.mem_filterMap.mpr ⟨X.env, List.mem_cons_self, by rw [hf, z]⟩)
    have offF : a ∉ X.fs := fun hm => by
      obtain ⟨e, he, q⟩ := List.mem_filterMap.mp hm
      exact off (List.mem_filterMap.mpr ⟨e, List.mem_cons_of_mem _ he, q⟩)
    have newI : sI.heap.get? a = none := by
      cases q : sI.heap.get? a with
      | none => rfl
      | some o =>
        have z := nb a o q (by rw [hs]; exact off)
        rw [f3.2.1] at z
        cases z
    have new0 : X.s_0.heap.get? a = none := by
      cases q : X.s_0.heap.get? a with
      | none => rfl
      | some o =>
        obtain ⟨o', z⟩ := J.base.there a o q (by rw [hex]; exact fun z => nomatch z)
        rw [newI] at z
        cases z
    have S3 := K3.suite e3 d3 na offL offF
    refine wpAny_handleBy_cons (codeAny_handlers_test ?_) (by intro q; cases q)
    have LT : PySem.W.Looks (model X.prog X.w) g3 (typeOf (.ref a)) cls := fun A Q E s k q => wpAny_typeOf_ref (k _ _ e3) (by rw [z3.1]; exact q)
    have LM := PySem.W.exm_one (M := model X.prog X.w) K3.kIn LT hx1
    have tst : ∀ {Q : Value → Shared → Prop} {E : Value → Shared → Prop}, Q c { s' with heap := g3 } → wpAny (model X.prog X.w) (X.A.mark (some (.ref a))) (eval (.Name x np) X.env) Q E { s' with heap := g3 } := fun {Q E} q => by
      obtain ⟨hg, hdb, hm | ⟨hm, hv, hnn⟩⟩ := hc
      · exact ld_glob (X := X.suite a ((a, o3) :: (X.pn ++ pins))) S3 hg hm q hdb
      · exact ld_blt (X := X.suite a ((a, o3) :: (X.pn ++ pins))) S3 hg hm hv q hnn hdb
    refine tst (LM.here ?_)
    refine codeAny_handlers_suite_as ?_
    refine HandSPX.lands_againZ f3 fun g4 f4 u4 => ?_
    have K4 : Inv X pins σ1 H1 { s' with heap := g4 } := J.landed nb f4.1 ((up.trans u3).trans u4) os ag
    obtain ⟨o4, v4, e4, z4, d4⟩ := f4.there
    have S4 := K4.suite e4 d4 na offL offF
    refine store_ok (X := X.suite a ((a, o4) :: (X.pn ++ pins))) (v := .ref a) S4 hN hi lc1 rfl (fun s5 S5 => ?_) (.inr hln)
    have step : PSs (X.suite a ((a, o4) :: (X.pn ++ pins))) [.Assign [.Name y py] (.Name n pn) sp] (tSeq (tAsg (tVar i) (gName j)) tNext) :=
      pss_cons (ps_set (i := j) hN hj (.inl hly) (pe_var (i := i) hi (.inl hln) hd1 hd2) hsw (.inr hly)) pss_nil
    have hlen : i < σ1.length := by rw [J.len]; exact hil
    refine wpAny_mono (step.run [] s5 _ H1 { nx := fun σ6 H6 => σ6 = (σ1.set i (some (.ref a))).set j (some (.ref a)) ∧ H6 = H1, rt := fun _ _ => False } S5 ⟨.ref a, by rw [List.getElem?_set_self hlen], rfl, rfl⟩) (fun f s6 hsp => ?_) (fun _ _ z => False.elim z)
    cases f with
    | next =>
      obtain ⟨σ6, H6, S6, rfl, rfl⟩ := hsp
      have U : Inv X ((a, o4) :: pins) ((σ1.set i (some (.ref a))).set j (some (.ref a))) H6 s6 := ⟨ok, S6.os, S6.bare, S6.base, S6.loc, S6.cell, S6.free, S6.freeC, fun q hq => S6.pin q (List.mem_append_left _ (by
        rcases List.mem_append.mp hq with z | z
        · exact List.mem_cons_of_mem _ (List.mem_append_left _ z)
        · rcases List.mem_cons.mp z with z | z
          · rw [z]; exact List.mem_cons_self
          · exact List.mem_cons_of_mem _ (List.mem_append_right _ z))), S6.hok, S6.len⟩
      refine gone_ok U hN hi hln fun s7 J7 => ?_
      refine ⟨_, _, track J7 z4 d4 new0 (fun q hq z => ?_), hyes a na⟩
      have e := (J.pin q hq).1
      rw [z, newI] at e
      cases e
    | brk =>
      obtain ⟨_, _, _, q⟩ := hsp
      exact False.elim q
    | cont =>
      obtain ⟨_, _, _, q⟩ := hsp
      exact False.elim q
    | ret u =>
      obtain ⟨_, _, _, _, _, q⟩ := hsp
      exact False.elim q
  · cases f with
    | next =>
      obtain ⟨σ', H', J', q⟩ := hsp
      exact wpAny_execs_nil ⟨σ', H', J'.ofTry ok, q⟩
    | brk =>
      obtain ⟨σ', H', J', q⟩ := hsp
      exact ⟨σ', H', J'.ofTry ok, q⟩
    | cont =>
      obtain ⟨σ', H', J', q⟩ := hsp
      exact ⟨σ', H', J'.ofTry ok, q⟩
    | ret u =>
      obtain ⟨v, σ', H', J', r, q⟩ := hsp
      exact ⟨v, σ', H', J'.ofTry ok, r, q⟩
end
end Fm
end FFmTry
section FFmExc
set_option Elab.async false
set_option linter.all false
set_option maxRecDepth 100000
set_option maxHeartbeats 2000000
namespace Fm
open PySem PySem.Spec PyProof.Rows L2
/-- an error class of the program, straight under MeetError at M -/
structure Exn (K : PySem.W.Frag) (mg : Str → Option Value) (x : Str) (C M : Addr) : Prop where
  g : mg x = some (.ref C)
  e : PySem.W.excIn K C [.type "ValueError", .type "Exception", .type "BaseException", .type "object"] "ValueError.__new__" = true
  k : PySem.W.keepIn K (.ref C) = true
  b : PySem.W.subIn K (.ref C) (.type "BaseException") = some true
  t : PySem.W.typeIn K (.ref C) = some (.type "type")
  c : ExcC K C
  m : PySem.W.exmOne K (.ref C) (.ref M) = some true
/-- isinstance(e, c), e a kept error -/
def rIsK (K : PySem.W.Frag) (D : Addr) : List V → Hp → VK → Prop := fun xs H Q => ∃ (a : Addr) (c : V) (u : Value) (b : Bool), xs = [.ref a, c] ∧ H a = some (ExK (.ref D) none a) ∧ ClsV c u ∧ PySem.W.kitOne K (.ref D) u = some b ∧ Q (.bl b) H
def rIsKT (K : PySem.W.Frag) (D : Addr) : List V → Hp → VK → Prop := fun xs H Q => ∃ (a tp : Addr) (cs : List V) (us : List Value) (b : Bool), xs = [.ref a, .ref tp] ∧ H a = some (ExK (.ref D) none a) ∧ H tp = some (.tup cs) ∧ Paired ClsV cs us ∧ PySem.W.kitAny K (.ref D) us = some b ∧ Q (.bl b) H
section
variable {X : Cx} {D : Addr}
theorem kept_inst {pins : List (Addr × Obj)} {σ : L2.St} {H : Hp} {s : Shared} {a : Addr} (I : Inv X pins σ H s) (h : H a = some (ExK (.ref D) none a)) : ∃ oe, PySem.W.InstAt s.heap a oe D none := by
  obtain ⟨⟨oe, vs, hg, hz, hv⟩, _, _⟩ := I.hok a _ h
  obtain ⟨oc, od, oda, osl⟩ := oe
  obtain ⟨h1, h2⟩ := hz
  dsimp only at h1 h2 hv
  subst h1 h2 hv
  exact ⟨_, hg, rfl, rfl, trivial⟩
theorem call_isK (C : ExcC X.K D) : CallR X (.builtin "isinstance") (rIsK X.K D) := by
  intro pins s σ H xs us Q I r h
  obtain ⟨a, c, u, b, rfl, ha, hc, e, q⟩ := h
  obtain ⟨u1, u2, rfl, r1, r2⟩ := vals2 r
  cases r1
  have e2 := hc.eq r2
  subst e2
  obtain ⟨oe, J⟩ := kept_inst I ha
  exact PySem.W.kia_one (PySem.W.handS_kitx_exc C.hg C.hk C.hs C.hd C.ha C.hn C.ht C.hm) I.kIn J e (fun z => nomatch z) fun tk => ⟨.bl b, H, I.tok tk, rfl, q⟩
theorem call_isKT (C : ExcC X.K D) : CallR X (.builtin "isinstance") (rIsKT X.K D) := by
  intro pins s σ H xs us Q I r h
  obtain ⟨a, tp, cs, ws, b, rfl, ha, hT, hc, e, q⟩ := h
  obtain ⟨u1, u2, rfl, r1, r2⟩ := vals2 r
  cases r1
  cases (show u2 = Value.ref tp from r2)
  obtain ⟨oe, J⟩ := kept_inst I ha
  obtain ⟨_, its, rv, o, h1, h2, n, h3⟩ := (show ObjOk X.prog X.w H s.heap tp (.tup cs) from I.hok tp _ hT)
  have e3 := ClsV.all hc rv
  subst e3
  obtain ⟨oc, od, dt, sl⟩ := o
  simp only at h2 h3
  subst h2 h3
  exact PySem.W.kia_tup (PySem.W.handS_kitx_exc C.hg C.hk C.hs C.hd C.ha C.hn C.ht C.hm) I.kIn J h1 e (fun z => nomatch z) fun tk => ⟨.bl b, H, I.tok tk, rfl, q⟩
end
/-- raise C('..') of such a class -/
theorem ps_raiseE {X : Cx} {W : WX} {x m : Str} {C M : Addr} {j : Nat} {p p2 p3 pos : Pos} (hc : X.calm = true) (tk : Takes X W) (E : Exn X.K X.mg x C M) (hg : Gl X x) (hd : (x == ("__debug__" : Str)) = false := by decide) :
    PS X (.Raise (some (.Call (.Name x p) [.Constant (.str m) j p2] [] p3)) none pos) (fun _ σ H => W (.ref C) none σ H) :=
  ps_raise hc tk (pmk_own PySem.F.excBase_ValueError E.e E.g E.k (raises_own E.b E.t) hg hd)
/-- size's promise: C is NoHouse -/
def spSize (C : Addr) : Sp := fun vs H Q E => ∃ (v : V) (p : Addr) (d : PyData), vs = [v] ∧ Dat H p v d ∧ (∀ m n, HouseN m n d → ∀ q H', H q = none → H' q = some (.tup [.int m, .int n]) → Same H H' → Q (.ref q) H') ∧ (¬ HouseD d → E (.ref C) none H)
end Fm
end FFmExc
section FFmEnd
set_option Elab.async false
set_option linter.all false
set_option maxRecDepth 100000
set_option maxHeartbeats 2000000
namespace Fm
open PySem PySem.Spec PyProof.Rows L2
/-- a def's promise where no text is being made of anything around it, and nothing is raised -/
def RunG (P : Program) (w : World) (K : PySem.W.Frag) (mg : Str → Option Value) (base : Heap) (k : Nat) (f : Addr) (fd : FuncData) (ps : List Str) (sp : Sp) : Prop :=
  ∀ (A : Around) (outer : List Env) (s : Shared) (H : Hp) (args : Args) (us : List Value) (vs : List V) (Q : VK), A.guards = some [] → Room k A → Env0 P w K mg base A outer s H → BindsTo s fd args (ps.zip us) → Vals vs us → vs.length = ps.length → sp vs H Q E0 →
    codeAny (model P w) A (.call (.ref f) args) (fun r s' => ∃ u, r = .ok (.ret u) ∧ CE outer P w H s Q u s') s
theorem run_g {P : Program} {w : World} {K : PySem.W.Frag} {mg : Str → Option Value} {base : Heap} {x : Str} {st : Stmt} {f : Addr} {fd : FuncData} {N ps : List Str} {k : Nat} {sp : Sp} (F : Fun K x x st f fd) (S : FnScope N ps (defScope st))
    (b : ∀ (cdv : Value) (A : Around) (outer : List Env) (s : Shared) (H : Hp) (vs : List V) (Q : VK), (A.deeper (envOfC x (defScope st) s.heap.objs.size f cdv)).guards = some [] → Room k (A.deeper (envOfC x (defScope st) s.heap.objs.size f cdv)) → sp vs H Q E0 →
      ∃ t, PSs (cxOf CX0 P w K mg base N x (defScope st) f cdv A outer s H E0).nox (defBody st) t ∧ t { nx := fun _ H' => Q .non H', rt := Q } (start N vs) H) : RunG P w K mg base (k + 1) f fd ps sp := by
  obtain ⟨oc, od, kV, doc, pm, an, cdv, ct, osl, rfl, lk, hcd⟩ := F.ex
  intro A outer s H args us vs Q hg hr e0 hb r hl hsp
  have KX : K.In s.heap := e0.mod.kin.keeps fun c o e => (e0.bs c o e).1
  have nl : s.heap.NoLimit := e0.mod.nolimit.keeps fun c o e => (e0.bs c o e).1
  have kinds : ∀ z ∈ ps.zip us, (defScope st).names.lookup z.1 = some .local ∨ ((defScope st).names.lookup z.1 = some .cell ∧ ((cellsFrom (s.heap.objs.size + 1) (defScope st).names []).lookup z.1).isSome = true) := fun ⟨n, v⟩ hz => by
    rcases S.par n (List.of_mem_zip hz).1 with q | q
    · exact .inl q
    · exact .inr ⟨q, PySem.W.cellsFrom_some _ _ _ (.inl q)⟩
  refine codeAny_call_function hr.depth (KX _ _ lk) rfl S.co S.gen rfl (PySem.W.codeRec_of KX hcd) (hb _ _ _ _ ?_)
  refine wpAny_newFunctionEnv_cells S.kind kinds fun env he s1 y => ?_
  subst he
  refine ⟨nl.keeps y.toInCall.keep, codeAny_func ?_⟩
  obtain ⟨t, ht, hq⟩ := b cdv A outer s H vs Q hg (hr.deeper _) hsp
  have I := inv_start (CX := CX0) (P := P) (w := w) (qual := x) (f := f) (cd := cdv) (E := E0) S hr.hd e0 hl r y
  refine wpAny_mono (ht.nox.run [] s1 (start N vs) H _ I hq) (fun fl s' hs => ?_) (fun e s' hs => ?_)
  · cases fl with
    | ret u =>
      obtain ⟨v, σ', H', J, rv, q⟩ := hs
      exact ⟨u, rfl, v, H', J.os, J.bare, J.base, J.hok, rv, q⟩
    | next =>
      obtain ⟨σ', H', J, q⟩ := hs
      exact ⟨.none, rfl, .non, H', J.os, J.bare, J.base, J.hok, rfl, q⟩
    | brk =>
      obtain ⟨_, _, _, q⟩ := hs
      exact False.elim q
    | cont =>
      obtain ⟨_, _, _, q⟩ := hs
      exact False.elim q
  · exact wpAny_mono hs (fun _ _ z => False.elim z) fun _ _ z => False.elim z
/-- the law's call, at what the top has left -/
theorem end_g {P : Program} {w : World} {K : PySem.W.Frag} {mg mb : Str → Option Value} {k : Nat} {fa a : Addr} {fd : FuncData} {x : Str} {sp : Sp} {t : Shared} {vs : List Value} {ns : List Int}
    (KX : K.In t.heap) (g1 : t.heap.Ns mainGlobals mg) (g2 : t.heap.Ns builtinsNs mb) (g3 : ∀ y : Str, y ≠ "__name__" → mb y = bootBuiltins y) (g4 : t.heap.NoLimit) (g5 : t.gens = #[])
    (ha : t.heap.get? a = some { cls := .type "list", data := .seq vs.toArray }) (hi : IntsAre vs ns) (hl : ns.length ≤ sizeLine) (hr : Room k callerA)
    (F : ∀ base : Heap, K.In base → base.Ns mainGlobals mg → RunG P w K mg base k fa fd [x] sp) (hb : ∀ (s : Shared) (u : Value), BindsTo s fd ⟨[u], []⟩ [(x, u)])
    (hs : ∀ H : Hp, SqL K H a (ns.map V.int) → (∀ b, H b = none ∨ b = a) → sp [.ref a] H (fun v _ => v = .bl true) E0) :
    codeAny (model P w) callerA (.call (.ref fa) ⟨[.ref a], []⟩) (fun r s' => r = .ok (.ret (.bool true)) ∧ OldK t.heap s'.heap ∧ s'.os = t.os ∧ AllBare s'.gens) t := by
  have rv := vals_ints hi
  have lv := hi.length
  suffices core : ∀ H : Hp, SqL K H a (ns.map V.int) → HOk P w H t.heap → (∀ b, H b = none ∨ (b = a ∧ ∃ o us, H b = some (.frz o (.lst us)))) → (H a ≠ none → K.lookup a = none) →
      codeAny (model P w) callerA (.call (.ref fa) ⟨[.ref a], []⟩) (fun r s' => r = .ok (.ret (.bool true)) ∧ OldK t.heap s'.heap ∧ s'.os = t.os ∧ AllBare s'.gens) t by
    cases hk : K.lookup a with
    | some o =>
      have e := KX a o hk
      rw [ha] at e
      cases e
      exact core (fun _ => none) (.inr ⟨_, vs.toArray, _, hk, rfl, rfl, rfl, by rw [List.size_toArray, lv]; exact hl, by simpa using rv⟩) (fun b u z => by cases (show (none : Option HO) = some u from z)) (fun b => .inl rfl) fun z => absurd rfl z
    | none =>
      have at1 : ∀ b u, (if b = a then some (HO.frz { cls := .type "list", data := .seq vs.toArray } (.lst (ns.map V.int))) else none) = some u → b = a ∧ u = .frz { cls := .type "list", data := .seq vs.toArray } (.lst (ns.map V.int)) := fun b u z => by
        by_cases hba : b = a
        · rw [if_pos hba] at z
          exact ⟨hba, (Option.some.inj z).symm⟩
        · rw [if_neg hba] at z
          cases z
      refine core (fun b => if b = a then some (.frz { cls := .type "list", data := .seq vs.toArray } (.lst (ns.map V.int))) else none) (.inl (.inr ⟨{ cls := .type "list", data := .seq vs.toArray }, if_pos rfl⟩)) (fun b u z => ?_) (fun b => ?_) fun _ => hk
      · obtain ⟨rfl, rfl⟩ := at1 b u z
        exact ⟨ha, by rw [List.length_map]; exact hl, vs, _, rv, ha⟩
      · by_cases hba : b = a
        · exact .inr ⟨hba, _, _, if_pos hba⟩
        · exact .inl (if_neg hba)
  intro H hS hok hA hK
  have ex : ∀ {b : Addr} {u : HO}, H b = some u → b = a := fun {b u} e => by
    rcases hA b with z | ⟨z, _⟩
    · rw [e] at z
      cases z
    · exact z
  have off : ∀ {b : Addr} {o : Obj} {es : Array DictEntry} {ep : Nat}, t.heap.get? b = some o → o.data = .dict es ep → H b = none := fun {b o es ep} e d => by
    cases q : H b with
    | none => rfl
    | some u =>
      rw [ex q, ha] at e
      cases e
      cases (show Data.seq vs.toArray _ = Data.dict es ep from d)
  have ns : ∀ {b : Addr} {m : Str → Option Value}, t.heap.Ns b m → (hidT t.heap H).Ns b m := fun {b m} ⟨o, es, ep, e, d, r⟩ => ⟨o, es, ep, hidT_get e (off e d), d, r⟩
  have kin : K.In (hidT t.heap H) := fun b o e => hidT_get (KX b o e) (by
    cases q : H b with
    | none => rfl
    | some u =>
      have z := ex q
      subst z
      rw [hK (by rw [q]; exact fun y => by cases y)] at e
      cases e)
  have md : Mod K mg (hidT t.heap H) := ⟨kin, ns g1, ⟨mb, ns g2, g3⟩, let ⟨mc, y1, y2⟩ := g4; ⟨mc, ns y1, y2⟩⟩
  have e0 : Env0 P w K mg (hidT t.heap H) callerA [] t H := ⟨rfl, md, fun b o e => of_hidT e, Nat.le_of_eq (hidT_size _ _), trivial, fun b z => (by cases z), hok, .of_eq g5⟩
  refine codeAny_mono (F _ kin (ns g1) callerA [] t H ⟨[.ref a], []⟩ [.ref a] [.ref a] _ rfl hr e0 (hb t (.ref a)) (.cons rfl .nil) rfl (hs H hS fun b => (hA b).imp id fun z => z.1)) fun r s' h => ?_
  obtain ⟨u, rfl, v, H', os, bare, un, hok', r', q⟩ := h
  have q' : v = .bl true := q
  subst q'
  obtain rfl : u = Value.bool true := r'
  refine ⟨rfl, OldK.of_keep fun b o e => ?_, os, bare⟩
  rcases hA b with q | ⟨_, ob, us, q⟩
  · exact un.keep b o e q (by intro z; cases z) (by intro z; cases z)
  · obtain ⟨d1, _⟩ := hok b _ q
    obtain ⟨d2, _⟩ := hok' b _ (un.frzs b ob _ q)
    rw [e] at d1
    cases d1
    exact d2
/-- the goal that k_head leaves -/
theorem walk_g {l : PySem.W.OpenLaw} {n k : Nat} {q : Program} {loose : List Str} {XP : (Str → Option Value) → Heap → Prop} {YP : World → Heap → Prop} {d : DefRec} {K : Params → PySem.W.Frag} {sp : PySem.W.Frag → Sp} {x : Str}
    (hn : l.most = some n) (hn2 : n ≤ sizeLine) (hdf : d.params.defaults = []) (hr : Room k callerA) (hY : ∀ (w : World) (h : Heap), YP w h → (K w.params).In h)
    (F : ∀ (w : World) (mg : Str → Option Value) (fa : Addr) (h : Heap), (K w.params).In h → h.Ns mainGlobals mg → mg d.name = some (.ref fa) →
      ∃ fd : FuncData, (∀ (s : Shared) (u : Value), BindsTo s fd ⟨[u], []⟩ [(x, u)]) ∧ ∀ base : Heap, (K w.params).In base → base.Ns mainGlobals mg → RunG l.prog w (K w.params) mg base k fa fd [x] (sp (K w.params)))
    (hs : ∀ (K : PySem.W.Frag) (H : Hp) (a : Addr) (ns : List Int), ns.length ≤ n → SqL K H a (ns.map V.int) → (∀ b, H b = none ∨ b = a) → sp K [.ref a] H (fun v _ => v = .bl true) E0) :
    PySem.W.WalkO q loose XP YP l.row.toRowW d [] (fun f vs => PySem.call f vs) := by
  refine Att.attach_call hn hdf fun w s0 t mg mb fa o pm cd doc a vs ns G Y ho hd hcd hmg hobj hints hlen hg => ?_
  have KX := hY w _ Y
  obtain ⟨fd, hb, hF⟩ := F w mg fa _ KX G.T.g hmg
  exact end_g KX G.T.g G.T.b G.T.builtins G.T.nolimit hg hobj hints (Nat.le_trans hlen hn2) hr hF hb fun H h1 h2 => hs _ H a ns hlen h1 h2
end Fm
end FFmEnd
section FFmSeq
set_option Elab.async false
set_option linter.all false
set_option maxRecDepth 100000
set_option maxHeartbeats 4000000
namespace Fm
open PySem PySem.Spec PyProof.Rows L2 HT
theorem rev_adjust (n : Nat) : Builtin.Slice.sliceAdjust none none (-1) (n : Int) = ((n : Int) - 1, -1) := by
  unfold Builtin.Slice.sliceAdjust
  simp
theorem rev_places (n : Nat) : Builtin.Slice.slicePlaces ((n : Int) - 1) (-1) (-1) = n := by
  unfold Builtin.Slice.slicePlaces
  have h1 : ¬ ((-1 : Int) > 0) := by decide
  simp only [h1, if_false]
  have e : ((n : Int) - 1 - -1 - 1) / (- -1) = (n : Int) - 1 := by
    rw [show (- -1 : Int) = 1 by decide, Int.ediv_one]
    omega
  rw [e]
  split <;> omega
theorem fm_congr {α β : Type} {f g : α → Option β} : ∀ {l : List α}, (∀ x ∈ l, f x = g x) → l.filterMap f = l.filterMap g
  | [], _ => rfl
  | x :: r, h => by
    rw [List.filterMap_cons, List.filterMap_cons, h x List.mem_cons_self, fm_congr fun y hy => h y (List.mem_cons_of_mem _ hy)]
theorem rev_pick (xs : Array Value) : ((List.range xs.size).filterMap fun (m : Nat) => xs[((xs.size : Int) - 1 + (m : Int) * -1).toNat]?).toArray = xs.toList.reverse.toArray := by
  congr 1
  have h := PySem.W.krv_all xs
  rw [← h, ← List.filterMap_reverse, ← PySem.W.krv_range, List.filterMap_map]
  apply fm_congr
  intro m hm
  have := List.mem_range.mp hm
  have e : ((xs.size : Int) - 1 + (m : Int) * -1).toNat = xs.size - 1 - m := by omega
  rw [e]
  rfl
section
variable {prog : Program} {w : World} {A : Around} {E : Value → Shared → Prop} {s : Shared}
theorem rev_applied {sl : Addr} {vs : Value} {n : Nat} {Q : Int × Int × Nat → Shared → Prop} (hs : s.heap.IsSliceOf sl .none .none vs) (ps : IsPart vs (some (-1))) (h : Q ((n : Int) - 1, -1, n) s) :
    wpAny (model prog w) A (Builtin.Slice.sliceApplied (.ref sl) (pure (n : Int))) Q E s := by
  obtain ⟨os, hos, hcs, hds⟩ := id hs
  unfold Builtin.Slice.sliceApplied Builtin.Slice.sliceFields
  refine wpAny_bind (wpAny_bind (wpAny_field hos hds (x := .none) rfl (wpAny_bind (wpAny_field hos hds (x := .none) rfl (wpAny_bind (wpAny_field hos hds (x := vs) rfl (wpAny_pure ?_)))))))
  refine wpAny_bind (slicePart_ ps ?_)
  show wpAny _ _ (if ((-1 : Int) == 0) = true then _ else _) _ _ s
  rw [if_neg (by decide)]
  refine wpAny_bind (slicePart_none (wpAny_bind (slicePart_none (wpAny_bind (wpAny_pure ?_)))))
  show wpAny _ _ (match Builtin.Slice.sliceAdjust none none (-1) (n : Int) with | (lo, hi) => pure (lo, (-1 : Int), Builtin.Slice.slicePlaces lo hi (-1))) _ _ s
  rw [rev_adjust]
  show wpAny _ _ (pure ((n : Int) - 1, (-1 : Int), Builtin.Slice.slicePlaces ((n : Int) - 1) (-1) (-1))) _ _ s
  rw [rev_places]
  exact wpAny_pure h
theorem rev_item {t sl : Addr} {items : Array Value} {vs : Value} {Q : Value → Shared → Prop} (ht : IsTup s.heap t items) (hs : s.heap.IsSliceOf sl .none .none vs) (ps : IsPart vs (some (-1)))
    (h : Q (.ref s.heap.objs.size) { s with heap := s.heap.push { cls := .type "tuple", data := .seq items.toList.reverse.toArray } }) (hsz : items.size ≤ sizeLine) : wpAny (model prog w) A (getItem (.ref t) (.ref sl)) Q E s := by
  have ok : sizeOk (.seq items.toList.reverse.toArray) := by
    show items.toList.reverse.toArray.size ≤ sizeLine
    rw [List.size_toArray, List.length_reverse, Array.length_toList]
    exact hsz
  obtain ⟨os, hos, hcs, hds⟩ := id hs
  have tS : s.TypeIs (.ref sl) "slice" := ⟨os, hos, hcs⟩
  unfold getItem
  try with_reducible refine wpAny_holding ?_
  first | refine wpAny_bind (wpAny_pure ?_) | skip
  refine wpAny_bind (wpAny_sequenceKey ht.typeIs (by decide) ?_)
  refine wpAny_bind (wpAny_callSpecial?_slot (name := Str.ofString "__getitem__") ht.typeIs PyProof.Rows.slot_tuple_getitem
    (wpAny_call_entry PyProof.Rows.slot_tuple_getitem ht.typeIs entry_tuple_getitem ?_ (args_tuple_getitem _ _)))
  show wpAny _ _ (Builtin.Tuple.tupleItemsOf (.ref t) >>= _) _ _ s
  refine wpAny_bind (tupleItemsOf_ ht (wpAny_bind (wpAny_typeOf tS ?_)))
  rw [if_pos (by decide)]
  refine wpAny_bind (rev_applied hs ps ?_)
  have no : ¬ ((((items.size : Int) - 1) == 0 && (-1 : Int) == 1 && items.size == items.size) = true) := by
    rw [show ((-1 : Int) == 1) = false by decide, Bool.and_false, Bool.false_and]
    exact Bool.false_ne_true
  show wpAny _ _ (if (((items.size : Int) - 1) == 0 && (-1 : Int) == 1 && items.size == items.size) = true then _ else _) _ _ s
  rw [if_neg no, rev_pick]
  first
    | exact wpAny_bind (m := Builtin.Tuple.tupleExact _) (wpAny_newObj_type (wpAny_pure ⟨_, rfl, wpAny_pure h⟩) ok)
    | exact wpAny_bind (m := Builtin.Tuple.tupleExact _) (wpAny_newObj_type (wpAny_bind (wpAny_pure (wpAny_pure ⟨_, rfl, wpAny_pure h⟩))) ok)
    | exact wpAny_bind (wpAny_bind (m := Builtin.Tuple.tupleExact _) (wpAny_newObj_type (wpAny_pure (wpAny_pure ⟨_, rfl, wpAny_pure h⟩)) ok))
    | exact wpAny_bind (wpAny_bind (m := Builtin.Tuple.tupleExact _) (wpAny_newObj_type (wpAny_pure ⟨_, rfl, wpAny_pure h⟩) ok))
end
/-- t[::-1], a tuple -/
def tRevT (K : PySem.W.Frag) (te : TE) : TE := fun σ H Q => te σ H fun x H1 => ∃ a xs, x = .ref a ∧ SqT K H1 a xs ∧ ∀ p, H1 p = none → Q (.ref p) (upd H1 p (.tup xs.reverse))
theorem pe_REV {X : Cx} {e : Expr} {te : TE} {k : Nat} {p1 p2 p3 pos : Pos} (he : PE X e te) : PE X (.Subscript e (.Slice none none (some (.UnaryOp .USub (.Constant (.int 1) k p1) p2)) p3) pos) (tRevT X.K te) := by
  refine ⟨fun pins s σ H Q I h => ?_⟩
  refine Subscript_ (thn (he.run pins s σ H _ I h) fun v s1 ⟨x, H1, I1, r1, q1⟩ => ?_)
  obtain ⟨a, xs, ex, hx, q⟩ := q1
  subst ex
  cases r1
  have st : PO X (some (.UnaryOp .USub (.Constant (.int 1) k p1) p2)) (tPart (tUn (rU fun i => .int (-i)) (tC (.int 1)))) := po_some (pe_un un_neg pe_int)
  refine wpAny_Slice (thn (po_none.run pins s1 σ H1 (fun o H2 => o = none ∧ H2 = H1) I1 ⟨rfl, rfl⟩) fun vl s2 ⟨l, H2, I2, pl, el, e2⟩ => ?_)
  subst el e2
  refine thn (po_none.run pins s2 σ H2 (fun o H3 => o = none ∧ H3 = H2) I2 ⟨rfl, rfl⟩) fun vu s3 ⟨u, H3, I3, pu, eu, e3⟩ => ?_
  subst eu e3
  refine thn (st.run pins s3 σ H3 (fun o H4 => o = some (-1) ∧ H4 = H3) I3 ⟨1, rfl, -1, rfl, rfl, rfl⟩) fun vs s4 ⟨o, H4, I4, ps, eo, e4⟩ => ?_
  subst eo e4
  have I5 : Inv X pins σ H4 { s4 with heap := s4.heap.push { cls := .type "slice", data := .fields #[vl, vu, vs] } } := I4.kept (t' := s4.toks) fun b ob q => Heap.get?_push_of_some _ q
  obtain ⟨its, r, ht, hz⟩ := I5.tuple hx
  cases pl
  cases pu
  show wpAny (model X.prog X.w) X.A (subscriptTail e (.Slice none none (some (.UnaryOp .USub (.Constant (.int 1) k p1) p2)) p3) (.ref a) (.ref s4.heap.objs.size)) (EP X pins σ Q) X.xe { s4 with heap := s4.heap.push { cls := .type "slice", data := .fields #[.none, .none, vs] } }
  refine tail_any (ops := [.ref a, .ref s4.heap.objs.size]) ht.typeIs (PyProof.Rows.slot_tuple_getitem.lookup) ?_ (by with_unfolding_all rfl)
  refine rev_item ht (Heap.IsSliceOf.new _ .none .none vs) ps ?_ (by rw [List.size_toArray, ← r.length]; exact hz)
  refine ⟨.ref _, _, I5.laid (t' := s4.toks) (o := .tup xs.reverse) (fun b ob q => Heap.get?_push_of_some _ q) (Nat.le_refl _) ?_, rfl, q _ (I5.hok.fresh (Nat.le_refl _))⟩
  exact ⟨by rw [List.length_reverse]; exact hz, _, r.reverse, IsTup.new _ _⟩
/-- a tuple once -/
theorem once_meets (l : Addr) (items : Array Value) (n : Nat) (dd : Option Addr) (sl : Array (Option Value)) (u : Tok) :
    Meets (Builtin.«tuple.__mul__» ⟨[.ref l, .int 1 u], []⟩) (fun _ R s => s.heap.get? l = some { cls := .type "tuple", dict := dd, data := .seq items n, slots := sl } ∧ R (.ok (.ret (.ref l))) s) :=
  .of_wp fun prog w A R s h => by
    obtain ⟨hp, g, d, tk, os⟩ := s
    obtain ⟨hl, h⟩ := h
    have f1 := AutoSeq1.idx_int
    have c1 : (items.isEmpty || (1 : Int) == 1) = true := by simp
    wp_walk using wpAny_loadPart' hl
    repeat (first
      | (refine wpAny_ite_true (decide_eq_true c1) ?_; wp_walk using wpAny_loadPart' hl)
      | (refine wpAny_ite_true c1 ?_; wp_walk using wpAny_loadPart' hl))
    exact ⟨_, rfl, h⟩
def rOnce (K : PySem.W.Frag) : R2 := fun x y H Q => ∃ l xs, x = .ref l ∧ y = .int 1 ∧ SqT K H l xs ∧ Q (.ref l) H
theorem op_once {X : Cx} : OpR X (binaryOp .Mult) (rOnce X.K) := by
  intro pins s σ H x y v u Q I rx ry h
  obtain ⟨l, xs, rfl, rfl, hT, q⟩ := h
  cases rx
  obtain ⟨t, rfl⟩ := ry
  obtain ⟨its, r, ⟨⟨cls, dd, data, sl⟩, ho, hc, n, hd⟩, hs⟩ := I.tuple hT
  simp only at hc hd
  subst hc hd
  refine wpAny_binaryOp_repeat_ref (T := "tuple") (U := "int") (by decide) ⟨_, ho, rfl⟩ (fun s' => typeIs_int s' 1 t) noFill_tuple_mul F.fills_int_mul F.slot_int_rmul repeat_tuple F.slot_int_index.lookup
    (call_meets F.slot_int_rmul (typeIs_int s 1 t) F.entry_int_rmul (F.args_int_rmul_2 _ _) (int_rmul_tuple 1 t l its.toArray n dd sl)
      ⟨ho, rfl, ⟨_, ho, rfl⟩, call_meets F.slot_tuple_mul ⟨_, ho, rfl⟩ F.entry_tuple_mul (F.args_tuple_mul_2 _ _) (once_meets l its.toArray n dd sl t) ⟨ho, ⟨.ref l, H, I, rfl, q⟩⟩⟩)
/-- t * k, k one or more -/
def rTimes (K : PySem.W.Frag) : R2 := fun x y H Q => rOnce K x y H Q ∨ rRepT K x y H Q
theorem op_times {X : Cx} : OpR X (binaryOp .Mult) (rTimes X.K) := op_once.or op_repT
def rLenS (K : PySem.W.Frag) : List V → Hp → VK → Prop := fun xs H Q => ∃ p ys, xs = [.ref p] ∧ (SqL K H p ys ∨ SqT K H p ys) ∧ Q (.int ys.length) H
theorem call_lenS {X : Cx} : CallR X (.builtin "len") (rLenS X.K) := call_len_seq
def rTupOf (K : PySem.W.Frag) : List V → Hp → VK → Prop := fun xs H Q => ∃ p ys, xs = [.ref p] ∧ ((SqL K H p ys ∧ ∀ l, H l = none → Q (.ref l) (upd H l (.tup ys))) ∨ (SqT K H p ys ∧ Q (.ref p) H))
theorem call_tupOf {X : Cx} : CallR X (.type "tuple") (rTupOf X.K) := call_tuple_of
def rLstOf (K : PySem.W.Frag) : List V → Hp → VK → Prop := fun xs H Q => ∃ p ys, xs = [.ref p] ∧ (SqL K H p ys ∨ SqT K H p ys) ∧ ∀ l, H l = none → Q (.ref l) (upd H l (.lst ys))
theorem call_lstOf {X : Cx} : CallR X (.type "list") (rLstOf X.K) := call_list_of
end Fm
end FFmSeq
section FFmMore
set_option Elab.async false
set_option linter.all false
set_option maxRecDepth 100000
set_option maxHeartbeats 4000000
namespace Fm
open PySem PySem.Spec PyProof.Rows L2
/-- the sum of a tuple's ints -/
def rSumT (K : PySem.W.Frag) : List V → Hp → VK → Prop := fun vs H Q => ∃ (a : Addr) (ns : List Int), vs = [V.ref a] ∧ SqT K H a (ns.map V.int) ∧ Q (.int ns.sum) H
theorem cr_sumT {X : Cx} (hc : X.calm = true) : CallR X (.builtin "sum") (rSumT X.K) := by
  intro pins s σ H vs us Q I r h
  obtain ⟨a, ns, rfl, hs, q⟩ := h
  obtain ⟨its, rv, ⟨o, ho, hcl, n, hd⟩, _⟩ := I.tuple hs
  obtain rfl := Vals.ref1 r
  have hi := rv.ints
  obtain ⟨xs, e⟩ := hi.allInts.items
  have hn : numsOf (PySem.intItems xs).toList = ns := by rw [← e]; exact hi.numsOf
  rw [nums_intItems] at hn
  rw [e] at hd
  refine PySem.W.ktm_sumG (I.ok.hd hc) ⟨o, ho, hcl, n, hd⟩ fun h' tk t' hk => ?_
  rw [preSum_eq, List.take_of_length_le (by simp), hn]
  exact ⟨.int _, H, I.kept hk, ⟨_, rfl⟩, q⟩
def rSumI (K : PySem.W.Frag) : List V → Hp → VK → Prop := fun vs H Q => rSum K vs H Q ∨ rSumT K vs H Q
theorem cr_sumI {X : Cx} (hc : X.calm = true) : CallR X (.builtin "sum") (rSumI X.K) := (cr_sum hc).or (cr_sumT hc)
/-- xs[i], read by xs[i] += e -/
def rGetL (K : PySem.W.Frag) : V → V → Hp → VK → Prop := fun x y H Q => ∃ (p : Addr) (xs : List V) (i : Nat) (v : V), x = .ref p ∧ y = .int i ∧ SqL K H p xs ∧ xs[i]? = some v ∧ Q v H
theorem get_list {X : Cx} : PGet X (rGetL X.K) := by
  intro pins s σ H o i ov iv Q I ro ri h
  obtain ⟨p, xs, i, z, rfl, rfl, hq, he, q⟩ := h
  cases ro
  obtain ⟨t, rfl⟩ := ri
  obtain ⟨its, r, pl, hz⟩ := I.list hq
  obtain ⟨u, eu, ru⟩ := r.get he
  have hi : i < xs.length := (List.getElem?_eq_some_iff.mp he).1
  have hn := line63
  refine wpAny_getItem_list pl.isList (by omega) (by omega) (x := u) (by simpa using eu) ?_
  exact ⟨z, H, I, ru, q⟩
/-- a tuple at a, its items counted -/
def IteT (K : PySem.W.Frag) (a : Addr) : It where
  go := fun i H => ∃ (xs : List V) (x : V), SqT K H a xs ∧ xs[i]? = some x
  yld := fun i H v H' => ∃ T x, v = .ref T ∧ H T = none ∧ H' = upd H T (.tup [.int (i : Nat), x]) ∧ ∀ xs, SqT K H a xs → xs[i]? = some x
  stop := fun i H => ∃ xs : List V, SqT K H a xs ∧ xs.length ≤ i
end Fm
end FFmMore
section FFmMore2
set_option Elab.async false
set_option linter.all false
set_option maxRecDepth 100000
set_option maxHeartbeats 4000000
namespace Fm
open PySem PySem.Spec PyProof.Rows L2
/-- the enumerate object e over the tuple at a, its iterator at it, i turns on -/
def EnT (a e it : Addr) (its : Array Value) (i : Nat) (h : Heap) : Prop := (∃ old, IsEnum h e it ((i : Nat) : Int) old) ∧ (h.IsTupleIter it a i ∧ h.IsTuple a its) ∧ e ≠ it ∧ a ≠ it ∧ e ≠ a
theorem turn_enumT {P : Program} {w : World} {K : PySem.W.Frag} {elts : List Expr} {kk : Nat} {tpos : Pos} (a e it : Addr) (hei : e ≠ it) (hai : a ≠ it) (hea : e ≠ a) :
    Turn P w K (.Tuple elts kk tpos) (IteT K a) [e, it] e (fun i h => (∃ old, IsEnum h e it ((i : Nat) : Int) old) ∧ h.IsTupleIter it a i) where
  mem := List.mem_cons_self
  obj := fun i h st b hb => by
    obtain ⟨⟨old, he⟩, o, ho, _, hd⟩ := st
    rcases List.mem_cons.mp hb with z | z
    · subst z
      exact ⟨_, he, fun v q => nomatch q⟩
    · obtain rfl := List.mem_singleton.mp z
      exact ⟨o, ho, fun v q => by rw [hd] at q; cases q⟩
  keep := fun i h h' st k => by
    obtain ⟨⟨old, he⟩, hi⟩ := st
    exact ⟨⟨old, k e List.mem_cons_self _ he⟩, hi.at fun o q => k it (List.mem_cons_of_mem _ List.mem_cons_self) o q⟩
  item := by
    intro X hP hw hK hc i pins s σ H E I hf st hg
    subst hP hw hK
    obtain ⟨⟨old, he⟩, hit⟩ := st
    obtain ⟨xs, x, hq, hx⟩ := hg
    obtain ⟨its, rv, ⟨o, ho, hoc, no, hod⟩, hz⟩ := I.tuple hq
    have ht : s.heap.IsTuple a its.toArray := ⟨o, ho, hoc, no, hod⟩
    obtain ⟨u, hu, ru⟩ := rv.get hx
    have hlt : i < its.toArray.size := by
      rw [List.size_toArray, ← rv.length]
      exact (List.getElem?_eq_some_iff.mp hx).1
    have hel : e < s.heap.objs.size := Heap.lt_size he
    have hil : it < s.heap.objs.size := by
      obtain ⟨_, q, _⟩ := hit
      exact Heap.lt_size q
    have hef : e ∉ [it, a] := by
      intro z
      rcases List.mem_cons.mp z with z | z
      · exact hei z
      · exact hea (List.mem_singleton.mp z)
    refine wpAny_pyNext_enum_itemD (Draws.tuple (prog := X.prog) (w := X.w) (A := X.A.in1) (show X.A.in1.handled = none from I.ok.hd hc) it a hai its.toArray) he ⟨hit, ht⟩ hlt hei hef fun y h' tk hy ho' st' hT hsz hk => ?_
    have ey : y = u := by
      have q : its.toArray[i]? = some u := by simpa using hu
      rw [q] at hy
      exact (Option.some.inj hy).symm
    subst ey
    refine ⟨_, rfl, wpAny_letOwnedTupleGo_enum (s := { s with heap := h', toks := tk + 1 }) ho' fun h2 he2 sb => ?_⟩
    have hT2 : h2.get? s.heap.objs.size = some { cls := .type "tuple", data := .seq #[.int i tk, y] } := (sb.2 _ (Nat.ne_of_gt hel)).trans hT
    have new : ObjOk X.prog X.w (upd H s.heap.objs.size (.tup [.int (i : Nat), x])) h2 s.heap.objs.size (.tup [.int (i : Nat), x]) := by
      refine ⟨by show 2 ≤ sizeLine; decide, [.int i tk, y], .cons ⟨_, rfl⟩ (.cons ru .nil), _, hT2, rfl, _, rfl⟩
    have old2 : ∀ b ob, b ∉ [e, it] → s.heap.get? b = some ob → h2.get? b = some ob := fun b ob hb q => by
      have n1 : b ≠ e := fun z => hb (z ▸ List.mem_cons_self)
      have n2 : b ≠ it := fun z => hb (z ▸ List.mem_cons_of_mem _ List.mem_cons_self)
      exact (sb.2 b n1).trans (hk b ob n1 n2 q)
    have I1 := I.turnedNew (t' := tk + 1) (ch := [e, it]) old2 hf (Nat.le_refl _) new
    refine ⟨.ref s.heap.objs.size, _, I1, rfl, ⟨_, x, rfl, I.hok.fresh (Nat.le_refl _), rfl, fun ys hy => ?_⟩, ⟨⟨y, ?_⟩, ?_⟩, fun b hb => ?_⟩
    · rw [I.tuple_inj hy hq]
      exact hx
    · have e1 : ((i + 1 : Nat) : Int) = (i : Int) + 1 := by omega
      rw [e1]
      exact he2
    · exact st'.1.at fun ob q => (sb.2 it (Ne.symm hei)).trans q
    · have hb' : b < s.heap.objs.size := by
        rcases List.mem_cons.mp hb with z | z
        · rw [z]; exact hel
        · rw [List.mem_singleton.mp z]; exact hil
      rw [upd_ne (Nat.ne_of_lt hb')]
      exact (hf b hb).1
  done := by
    intro X hP hw hK hc i pins s σ H E I hf st hg
    subst hP hw hK
    obtain ⟨⟨old, he⟩, hit⟩ := st
    obtain ⟨xs, hq, hx⟩ := hg
    obtain ⟨its, rv, ⟨o, ho, hoc, no, hod⟩, hz⟩ := I.tuple hq
    have ht : s.heap.IsTuple a its.toArray := ⟨o, ho, hoc, no, hod⟩
    obtain ⟨f0, f1, f2, f3, f4, f5⟩ := hf it (List.mem_cons_of_mem _ List.mem_cons_self)
    have hl : its.toArray.size ≤ i := by
      rw [List.size_toArray, ← rv.length]
      exact hx
    have D : Draws X.prog X.w X.A.in1 it [it, a] i (fun _ _ => False) (fun j h => j = i ∧ h.IsTupleIter it a i ∧ h.IsTuple a its.toArray) := {
      live := fun _ _ st => by
        obtain ⟨o, ho, _⟩ := st.2.1
        exact ⟨o, ho⟩
      frame := fun j h h' st hk => ⟨st.1, st.2.1.at fun o e => hk it List.mem_cons_self o e, st.2.2.at fun o e => hk a (List.mem_cons_of_mem _ List.mem_cons_self) o e⟩
      item := fun j s Q E hj st hQ => absurd st.1 (Nat.ne_of_lt hj)
      done := fun s Q E st hE => wpAny_nextOf_tuple_end (show X.A.in1.handled = none from I.ok.hd hc) st.2.1 st.2.2 (Array.getElem?_eq_none hl) hE }
    exact wpAny_pyNext_enum_endD D he ⟨rfl, hit, ht⟩ fun h' eb => ⟨rfl, I.turned (t' := s.toks) (fun b o hb q => eb b o hb q) f0 f1 f3 f4 f5⟩
  self := fun A i s Q E st h => by
    obtain ⟨⟨_, he⟩, _⟩ := st
    exact wpAny_pyIter_enum he h
end Fm
end FFmMore2
section FFmMore3
set_option Elab.async false
set_option linter.all false
set_option maxRecDepth 100000
set_option maxHeartbeats 4000000
namespace Fm
open PySem PySem.Spec PyProof.Rows L2
theorem meets_enumT (a : Addr) (its : Array Value) :
    Meets (Builtin.«enumerate.__new__» ⟨[.type "enumerate", .ref a], []⟩) (fun _ R s => s.heap.IsTuple a its ∧
      R (.ok (.ret (.ref (s.heap.push { cls := .type "tuple_iterator", data := .fields #[.ref a, .int 0 0] }).objs.size)))
        { s with heap := (s.heap.push { cls := .type "tuple_iterator", data := .fields #[.ref a, .int 0 0] }).push { cls := .type "enumerate", data := .fields #[.none, .bool false, .ref s.heap.objs.size, rawInt 0, .none, .none] } }) :=
  .of_wp fun prog w A R s hh => by
    obtain ⟨hp, g, d, tk, os⟩ := s
    obtain ⟨hT, hh⟩ := hh
    have hsub := PySem.sub_enumerate
    have it1 : ∀ {A' : Around} {E : Value → Shared → Prop} {Q : Value → Shared → Prop}, Q (.ref hp.objs.size) ⟨hp.push { cls := .type "tuple_iterator", data := .fields #[.ref a, .int 0 0] }, g, d, tk, os⟩ → wpAny (model prog w) A' (pyIter (.ref a)) Q E ⟨hp, g, d, tk, os⟩ :=
      fun q => wpAny_pyIter_tuple (s := ⟨hp, g, d, tk, os⟩) hT q
    wp_walk using it1
    refine wpAny_stack_any fun st => wpAny_pure ?_
    split
    · rename_i cc _ _ _ _ _
      cases (cc == Value.type "enumerate") <;> (wp_walk using it1; exact ⟨_, rfl, hh⟩)
    · wp_walk using it1
      exact ⟨_, rfl, hh⟩
theorem call_enumT {prog : Program} {w : World} {A : Around} {E : Value → Shared → Prop} {s : Shared} {a : Addr} {its : Array Value} {Q : Value → Shared → Prop} (hT : s.heap.IsTuple a its)
    (h : ∀ h', IsEnum h' (s.heap.objs.size + 1) s.heap.objs.size 0 .none → h'.IsTupleIter s.heap.objs.size a 0 → (∀ b o, s.heap.get? b = some o → h'.get? b = some o) → Q (.ref (s.heap.objs.size + 1)) { s with heap := h' }) :
    wpAny (model prog w) A (call (.type "enumerate") [.ref a]) Q E s := by
  refine callType_new F.called_enumerate (by decide) (F.typeCall_enumerate_1 _) (F.newCall_enumerate_1 _) (fun obj => F.args_object_init_2 obj _) F.entry_enumerate_new (meets_enumT a its) ⟨hT, ?_⟩
  let h1 := s.heap.push { cls := .type "tuple_iterator", data := .fields #[.ref a, .int 0 0] }
  have hz : h1.objs.size = s.heap.objs.size + 1 := Heap.size_push ..
  show _ ∧ _
  rw [hz]
  let h2 := h1.push { cls := .type "enumerate", data := .fields #[.none, .bool false, .ref s.heap.objs.size, rawInt 0, .none, .none] }
  have he : IsEnum h2 (s.heap.objs.size + 1) s.heap.objs.size 0 .none := by
    have q := Heap.get?_push_size h1 (o := { cls := .type "enumerate", data := .fields #[.none, .bool false, .ref s.heap.objs.size, rawInt 0, .none, .none] }) rfl
    rw [hz] at q
    exact q
  refine ⟨⟨_, he, rfl⟩, h h2 he ⟨_, Heap.get?_push_of_some _ (Heap.get?_push_size _ rfl), rfl, rfl⟩ fun b o x => Heap.get?_push_of_some _ (Heap.get?_push_of_some _ x)⟩
def iEnumT (K : PySem.W.Frag) (ta : TA) : TI := fun σ H R => ta σ H fun vs H1 => ∃ a xs, vs = [.ref a] ∧ SqT K H1 a xs ∧ R (IteT K a) H1
theorem pi_enumT {X : Cx} {e : Expr} {ta : TA} {p pos tpos : Pos} {elts : List Expr} {kk : Nat} (hg : Gl X "enumerate") (hm : X.mg "enumerate" = none) (ha : PA X [e] ta) (hs : starEach [e] X.env = [(false, eval e X.env)] := by rfl) :
    PI X (.Tuple elts kk tpos) (.Call (.Name "enumerate" p) [e] [] pos) (iEnumT X.K ta) := by
  refine ⟨fun pins s σ H R I h => ?_⟩
  refine Call_ (ld_blt I hg hm boot_enumerate (PyProof.Rows.callWith_type1 (thn (ha.run pos pins s σ H _ I h) fun us s1 ⟨vs, H1, I1, r1, q1⟩ => ?_) hs rfl))
  obtain ⟨a, xs, rfl, hq, q⟩ := q1
  obtain rfl := Vals.ref1 r1
  obtain ⟨its, rv, ⟨o, ho, hoc, no, hod⟩, hz⟩ := I1.tuple hq
  have hal : a < s1.heap.objs.size := Heap.lt_size ho
  refine call_enumT (its := its.toArray) ⟨o, ho, hoc, no, hod⟩ fun h' he hit hk => wpAny_pyIter_enum he ?_
  have I2 : Inv X pins σ H1 { s1 with heap := h' } := I1.kept (t' := s1.toks) hk
  refine ⟨s1.heap.objs.size + 1, [s1.heap.objs.size + 1, s1.heap.objs.size], _, _, H1, rfl, I2, turn_enumT a (s1.heap.objs.size + 1) s1.heap.objs.size (Nat.succ_ne_self _) (Nat.ne_of_lt hal) (Nat.ne_of_gt (Nat.lt_succ_of_lt hal)), ⟨⟨.none, he⟩, hit⟩, fun b hb => ?_, q⟩
  have hle : s1.heap.objs.size ≤ b := by
    rcases List.mem_cons.mp hb with z | z
    · rw [z]; exact Nat.le_succ _
    · rw [List.mem_singleton.mp z]; exact Nat.le_refl _
  exact I1.fpOk hle (I1.hok.fresh hle)
theorem walk_enumT {K : PySem.W.Frag} {a : Addr} {xs : List V} : Walk (IteT K a) xs.length (fun H => SqT K H a xs) (YPair (fun i => some (.int (i : Nat))) (fun i => xs[i]?)) where
  goes := fun i _ hi q => ⟨xs, xs[i], q, List.getElem?_eq_getElem hi⟩
  stops := fun _ q => ⟨xs, q, Nat.le_refl _⟩
  yields := fun i H v H' _ q y => by
    obtain ⟨T, x, h1, h2, h3, h4⟩ := y
    exact ⟨T, _, x, h1, h2, h3, rfl, h4 xs q⟩
theorem walk_zipT {K : PySem.W.Frag} {a b : Addr} {xs ys : List V} (hn : xs.length = ys.length) : Walk (RZ.ItzT K a b) xs.length (fun H => SqT K H a xs ∧ SqT K H b ys) (YPair (fun i => xs[i]?) (fun i => ys[i]?)) where
  goes := fun i _ hi q => ⟨xs, ys, xs[i], ys[i]'(by omega), q.1, q.2, List.getElem?_eq_getElem hi, List.getElem?_eq_getElem (by omega)⟩
  stops := fun _ q => ⟨xs, ys, q.1, q.2, .inl (Nat.le_refl _)⟩
  yields := fun i H v H' _ q y => by
    obtain ⟨T, x, z, h1, h2, h3, h4, h5⟩ := y
    exact ⟨T, x, z, h1, h2, h3, h4 xs q.1, h5 ys q.2⟩
section
variable {J : It} {n : Nat} {G : Hp → Prop} {Y : Nat → Hp → V → Hp → Prop}
theorem fI (w : Walk J n G Y) {g : TG} {tb : TS} {D : Ends} {σ : L2.St} {H : Hp} (Pv : Nat → L2.St → Hp → Prop) (h0 : Pv 0 σ H) (hG : ∀ i σ H, i ≤ n → Pv i σ H → G H)
    (hs : ∀ i x σ H H', i < n → Pv i σ H → Y i H x H' → g x σ H' fun σ2 H2 => tb { D with nx := Pv (i + 1), ct := Pv (i + 1), bk := D.nx } σ2 H2) (hd : ∀ σ H, Pv n σ H → D.nx σ H) : ForB J g tb D σ H := for_it w Pv h0 hG hs hd
theorem lI (w : Walk J n G Y) {g : TG} {tt : TT} {te : TE} {vs : List Nat} {σ : L2.St} {H1 : Hp} {D : Addr} {Qd : Hp → Prop} (Pv : Nat → Hp → Prop) (h0 : Pv 0 (upd H1 D (.lst []))) (hG : ∀ i H, i ≤ n → Pv i H → G H)
    (hs : ∀ i x H H', i < n → Pv i H → Y i H x H' → g x (wipe σ vs) H' fun σ2 H2 => wipe σ2 vs = wipe σ vs ∧ tt σ2 H2 fun b H3 =>
      if b = true then te σ2 H3 fun y H4 => ∃ acc, H4 D = some (.lst acc) ∧ acc.length < sizeLine ∧ Pv (i + 1) (upd H4 D (.lst (acc ++ [y]))) else Pv (i + 1) H3) (hd : ∀ H, Pv n H → Qd H) : LcB J g tt te vs σ H1 D Qd := lc_it w Pv h0 hG hs hd
end
end Fm
end FFmMore3
section FFmLc2
set_option Elab.async false
set_option linter.all false
set_option maxRecDepth 100000
set_option maxHeartbeats 4000000
namespace Fm
open PySem PySem.Spec PyProof.Rows L2
/-- the inner walk of a comprehension with two for, its list at D, within one turn of the outer one -/
def LcI (J1 : It) (g1 : TG) (tt1 : TT) (te : TE) (vs1 : List Nat) (σ2 : L2.St) (H4 : Hp) (D : Addr) (Nx : Hp → Prop) : Prop := ∃ W1 : Nat → Nat → Hp → Prop, (∃ m, W1 0 m H4) ∧ ∀ j k H, W1 j k H →
  (J1.stop j H ∧ Nx H) ∨ (J1.go j H ∧ ∃ Nx1 : Hp → Prop, (∀ H', Nx1 H' → ∃ k', k' < k ∧ W1 (j + 1) k' H') ∧ ∀ x H', J1.yld j H x H' → g1 x (wipe σ2 vs1) H' fun σ3 H5 => wipe σ3 vs1 = wipe σ2 vs1 ∧ tt1 σ3 H5 fun b H6 =>
    if b = true then te σ3 H6 fun y H7 => ∃ acc, H7 D = some (.lst acc) ∧ acc.length < sizeLine ∧ Nx1 (upd H7 D (.lst (acc ++ [y]))) else Nx1 H6)
def Lc2B (J : It) (g : TG) (tt : TT) (wi1 : TI) (g1 : TG) (tt1 : TT) (te : TE) (vs vs1 : List Nat) (σ : L2.St) (H1 : Hp) (D : Addr) (Qd : Hp → Prop) : Prop := ∃ W : Nat → Nat → Hp → Prop, (∃ m, W 0 m (upd H1 D (.lst []))) ∧ ∀ i m H, W i m H →
  (J.stop i H ∧ Qd H) ∨ (J.go i H ∧ ∃ Nx : Hp → Prop, (∀ H', Nx H' → ∃ m', m' < m ∧ W (i + 1) m' H') ∧ ∀ x H', J.yld i H x H' → g x (wipe σ vs) H' fun σ2 H2 => wipe σ2 vs = wipe σ vs ∧ tt σ2 H2 fun b H3 =>
    if b = true then wi1 σ2 H3 fun J1 H4 => LcI J1 g1 tt1 te vs1 σ2 H4 D Nx else Nx H3)
theorem tLc2_eq {wi wi1 : TI} {g g1 : TG} {tt tt1 : TT} {te : TE} {vs vs1 : List Nat} {σ : L2.St} {H : Hp} {Q : VK} : tLc2 wi g tt wi1 g1 tt1 te vs vs1 σ H Q = wi σ H fun J H1 => ∀ A, H1 A = none → Lc2B J g tt wi1 g1 tt1 te vs vs1 σ H1 A (fun H => Q (.ref A) H) := rfl
section
variable {J : It} {n : Nat} {G : Hp → Prop} {Y : Nat → Hp → V → Hp → Prop}
theorem l2I (w : Walk J n G Y) {g : TG} {tt : TT} {wi1 : TI} {g1 : TG} {tt1 : TT} {te : TE} {vs vs1 : List Nat} {σ : L2.St} {H1 : Hp} {D : Addr} {Qd : Hp → Prop} (Pv : Nat → Hp → Prop) (h0 : Pv 0 (upd H1 D (.lst []))) (hG : ∀ i H, i ≤ n → Pv i H → G H)
    (hs : ∀ i x H H', i < n → Pv i H → Y i H x H' → g x (wipe σ vs) H' fun σ2 H2 => wipe σ2 vs = wipe σ vs ∧ tt σ2 H2 fun b H3 =>
      if b = true then wi1 σ2 H3 fun J1 H4 => LcI J1 g1 tt1 te vs1 σ2 H4 D (Pv (i + 1)) else Pv (i + 1) H3) (hd : ∀ H, Pv n H → Qd H) : Lc2B J g tt wi1 g1 tt1 te vs vs1 σ H1 D Qd := by
  refine ⟨fun i m H => m = n - i ∧ i ≤ n ∧ Pv i H, ⟨n, by simp, Nat.zero_le _, h0⟩, ?_⟩
  rintro i m H ⟨rfl, hi, p⟩
  have q := hG i H hi p
  by_cases hlt : i < n
  · exact .inr ⟨w.goes i H hlt q, Pv (i + 1), fun H' p' => ⟨n - (i + 1), by omega, rfl, hlt, p'⟩, fun x H' y => hs i x H H' hlt p (w.yields i H x H' hlt q y)⟩
  · have e : i = n := by omega
    subst e
    exact .inl ⟨w.stops H q, hd H p⟩
theorem liI (w : Walk J n G Y) {g1 : TG} {tt1 : TT} {te : TE} {vs1 : List Nat} {σ2 : L2.St} {H4 : Hp} {D : Addr} {Nx : Hp → Prop} (Pv : Nat → Hp → Prop) (h0 : Pv 0 H4) (hG : ∀ i H, i ≤ n → Pv i H → G H)
    (hs : ∀ i x H H', i < n → Pv i H → Y i H x H' → g1 x (wipe σ2 vs1) H' fun σ3 H5 => wipe σ3 vs1 = wipe σ2 vs1 ∧ tt1 σ3 H5 fun b H6 =>
      if b = true then te σ3 H6 fun y H7 => ∃ acc, H7 D = some (.lst acc) ∧ acc.length < sizeLine ∧ Pv (i + 1) (upd H7 D (.lst (acc ++ [y]))) else Pv (i + 1) H6) (hd : ∀ H, Pv n H → Nx H) : LcI J g1 tt1 te vs1 σ2 H4 D Nx := by
  refine ⟨fun i m H => m = n - i ∧ i ≤ n ∧ Pv i H, ⟨n, by simp, Nat.zero_le _, h0⟩, ?_⟩
  rintro i m H ⟨rfl, hi, p⟩
  have q := hG i H hi p
  by_cases hlt : i < n
  · exact .inr ⟨w.goes i H hlt q, Pv (i + 1), fun H' p' => ⟨n - (i + 1), by omega, rfl, hlt, p'⟩, fun x H' y => hs i x H H' hlt p (w.yields i H x H' hlt q y)⟩
  · have e : i = n := by omega
    subst e
    exact .inl ⟨w.stops H q, hd H p⟩
end
theorem pi_listK {X : Cx} {K : PySem.W.Frag} {tg l : Expr} {tl : TE} (e : X.K = K) (hl : PE X l tl) : PI X tg l (iList K tl) := by
  subst e
  exact pi_list hl
theorem pt_truthK {X : Cx} {K : PySem.W.Frag} {a : Expr} {ta : TE} (e : X.K = K) (ha : PE X a ta) (he : ∀ whole, isTrue a X.env whole = (do let v ← whole; standAt a.pos; holding [v] (truthy v))) :
    PT X a (fun σ H Q => ta σ H fun x H' => ∃ k, TruV K x H' k ∧ Q k H') := by
  subst e
  exact pt_truth ha he
end Fm
end FFmLc2
section FFmLcN
set_option Elab.async false
set_option linter.all false
set_option maxRecDepth 100000
set_option maxHeartbeats 4000000
namespace Fm
open PySem PySem.Spec PyProof.Rows L2
/-! ### list comprehensions of any number of clauses without tests, clause by clause from the last one -/
/-- the turn of clause k; code: what stands behind the store -/
def TurnIs (L : Expr) (k : Nat) (tg ik : Expr) (env : Env) (acc : Value) (code : Sem Fin → Sem Fin) : Prop := ∀ it : Value, compTurn L k it acc env = (do
  standAt ik.pos
  match ← pyNext it with
  | none => pure (.done .next)
  | some v => do
    letOwnedTupleGo tg it v
    assign tg env v
    code (again (.compLoop L k it acc env)))
/-- a further clause's start -/
def stepIn (L : Expr) (k : Nat) (ik : Expr) (env : Env) (acc : Value) (next : Sem Fin) : Sem Fin := do
  let x ← eval ik env
  standAt ik.pos
  let x ← foldedSetIterable ik env x
  let _ ← runOwn (.compStart L k (← holding [x] (pyIter x)) acc env) env
  next
/-- the item's end -/
def stepLeaf (elt : Expr) (env : Env) (acc : Value) (next : Sem Fin) : Sem Fin := do
  (do let _ ← call (.builtin "list.append") [acc, ← eval elt env])
  next
abbrev LvT := Addr → L2.St → Hp → (Hp → Prop) → Prop
def bLeaf (te : TE) : LvT := fun D σ H Nx => te σ H fun y H1 => ∃ acc, H1 D = some (.lst acc) ∧ acc.length < sizeLine ∧ Nx (upd H1 D (.lst (acc ++ [y])))
def bIn (wi : TI) (g : TG) (vs : List Nat) (b : LvT) : LvT := fun D σ H Nx => wi σ H fun J H1 => ∃ W : Nat → Nat → Hp → Prop, (∃ m, W 0 m H1) ∧ ∀ j m G, W j m G →
  (J.stop j G ∧ Nx G) ∨ (J.go j G ∧ ∃ Nx1 : Hp → Prop, (∀ G', Nx1 G' → ∃ m', m' < m ∧ W (j + 1) m' G') ∧ ∀ x G', J.yld j G x G' → g x (wipe σ vs) G' fun σ2 G2 => wipe σ2 vs = wipe σ vs ∧ b D σ2 G2 Nx1)
def tLcN (wi : TI) (g : TG) (vs : List Nat) (b : LvT) : TE := fun σ H Q => wi σ H fun J H1 => ∀ D, H1 D = none → ∃ W : Nat → Nat → Hp → Prop, (∃ m, W 0 m (upd H1 D (.lst []))) ∧ ∀ j m G, W j m G →
  (J.stop j G ∧ Q (.ref D) G) ∨ (J.go j G ∧ ∃ Nx1 : Hp → Prop, (∀ G', Nx1 G' → ∃ m', m' < m ∧ W (j + 1) m' G') ∧ ∀ x G', J.yld j G x G' → g x (wipe σ vs) G' fun σ2 G2 => wipe σ2 vs = wipe σ vs ∧ b D σ2 G2 Nx1)
section
variable {prog : Program} {w : World} {A : Around} {R : Result → Shared → Prop} {elt : Expr} {gens : List Comprehension} {scope : Scope} {pos : Pos} {k : Nat} {tg ik : Expr} {env : Env} {acc it : Value} {code : Sem Fin → Sem Fin}
theorem loop_by (T : TurnIs (.ListComp elt gens scope pos) k tg ik env acc code) (W : Nat → Shared → Prop)
    (turn : ∀ n s, W n s → wpAny (model prog w) A (pyNext it) (fun r s1 => match r with
      | none => R (.ok .next) s1
      | some v => wpAny (model prog w) A (letOwnedTupleGo tg it v) (fun _ s2 => wpAny (model prog w) A (assign tg env v) (fun _ s3 => wpAny (model prog w) A (code (again (.compLoop (.ListComp elt gens scope pos) k it acc env))) (fun f s4 => f = .again (.compLoop (.ListComp elt gens scope pos) k it acc env) ∧ ∃ m, m < n ∧ W m s4) (fun _ _ => False) s3) (fun _ _ => False) s2) (fun _ _ => False) s1) (fun _ _ => False) s)
    (n : Nat) {s : Shared} (h : W n s) : codeAny (model prog w) A (.compLoop (.ListComp elt gens scope pos) k it acc env) R s := by
  refine codeAny_loop rfl W (fun n s hW => ?_) n h
  show wpAny _ A ((compTurn (.ListComp elt gens scope pos) k it acc env).onRaise _) _ _ s
  refine wpAny_noted ?_
  rw [T it]
  refine wpAny_bind (wpAny_standAt (wpAny_bind (thnF (turn n s hW) fun r s1 q1 => ?_)))
  cases r with
  | none => exact wpAny_pure q1
  | some v => exact wpAny_bind (thnF q1 fun _ s2 q2 => wpAny_bind (thnF q2 fun _ s3 q3 => thnF q3 fun f s4 ⟨e, q4⟩ => by subst e; exact ⟨rfl, q4⟩))
/-- a clause's loop is started: the iterator is its own -/
theorem start_by (h0 : codeAny (model prog w) A (.compLoop (.ListComp elt gens scope pos) k it acc env) R s) (ha : ((clausesOf (.ListComp elt gens scope pos))[k]?).elim false (·.is_async != 0) = false)
    (h1 : wpAny (model prog w) A (pyIter it) (fun v s1 => v = it ∧ codeAny (model prog w) A (.compLoop (.ListComp elt gens scope pos) k it acc env) R s1) (fun _ _ => False) s) : codeAny (model prog w) A (.compStart (.ListComp elt gens scope pos) k it acc env) R s := by
  refine codeAny_of_tree ?_
  show wpAny _ _ ((compStart (.ListComp elt gens scope pos) k it acc env).onRaise _) _ _ s
  refine wpAny_notedAt ?_
  unfold compStart
  rw [ha]
  show wpAny _ _ (ask >>= _) _ _ s
  have fin : ∀ s', wpAny (model prog w) A (pyIter it) (fun v s1 => v = it ∧ codeAny (model prog w) A (.compLoop (.ListComp elt gens scope pos) k it acc env) R s1) (fun _ _ => False) s' →
      wpAny (model prog w) A (do let v ← pyIter it; again (.compLoop (.ListComp elt gens scope pos) k v acc env)) (fun fin s' => match fin with | .done f => R (.ok f) s' | .again c' => c'.quiet = true ∧ codeAny (model prog w) A c' R s') (fun _ _ => False) s' := fun s' q =>
    wpAny_bind (thnF q fun v s1 ⟨e, c⟩ => by subst e; exact wpAny_pure ⟨rfl, c⟩)
  refine wpAny_bind (wpAny_askSetting (wpAny_ite ?_))
  split
  · first
      | exact wpAny_pure (And.intro rfl h0)
      | exact wpAny_bind (wpAny_pure (wpAny_pure (And.intro rfl h0)))
  · refine wpAny_bind (wpAny_rule ?_)
    cases (clausesOf (.ListComp elt gens scope pos))[k]? with
    | none =>
      refine wpAny_mono (Q := fun fin s' => match fin with | .done f => R (.ok f) s' | .again c' => c'.quiet = true ∧ codeAny (model prog w) A c' R s') (E := fun _ _ => False) ?_ (fun _ _ q => q) (fun _ _ z => z.elim)
      first
        | exact fin _ h1
        | exact wpAny_bind (wpAny_pure (fin _ h1))
    | some g =>
      refine wpAny_mono (Q := fun fin s' => match fin with | .done f => R (.ok f) s' | .again c' => c'.quiet = true ∧ codeAny (model prog w) A c' R s') (E := fun _ _ => False) ?_ (fun _ _ q => q) (fun _ _ z => z.elim)
      first
        | exact wpAny_bind (wpAny_standAt (fin _ h1))
        | (show wpAny _ _ (standAt g.iter.pos >>= _) _ _ _; exact wpAny_bind (wpAny_standAt (fin _ h1)))
end
/-- what stands behind a store: it goes on where Nx holds -/
def BdOk (X : Cx) (code : Sem Fin → Sem Fin) (b : L2.St → Hp → (Hp → Prop) → Prop) (vs' : List Nat) : Prop :=
  ∀ (pins : List (Addr × Obj)) (s : Shared) (σ : L2.St) (H : Hp) (Nx : Hp → Prop) (next : Sem Fin) (Qn : Fin → Shared → Prop), Inv X pins σ H s → b σ H Nx →
    (∀ s' H', Inv X pins (wipe σ vs') H' s' → Nx H' → wpAny (model X.prog X.w) X.A next Qn (fun _ _ => False) s') → wpAny (model X.prog X.w) X.A (code next) Qn (fun _ _ => False) s
/-- the loop of one clause, in its block -/
theorem run_lv {X : Cx} {pins : List (Addr × Obj)} {σ : L2.St} {H : Hp} {s : Shared} {R : Result → Shared → Prop} {elt : Expr} {gens : List Comprehension} {scope : Scope} {pos : Pos} {k : Nat} {tg ik : Expr} {D it : Addr} {code : Sem Fin → Sem Fin} {vs vs' : List Nat} {g : TG} {b : LvT} {J : It} {fp : List Addr} {tn : Nat → Heap → Prop}
    {W : Nat → Nat → Hp → Prop} {Nx : Hp → Prop} {m0 : Nat} (hc : X.calm = true) (hxe : X.xe = fun _ _ => False) (TI : TurnIs (.ListComp elt gens scope pos) k tg ik X.env (.ref D) code) (pg : PG X tg g)
    (bd : BdOk X code (b D) vs') (hvs : ∀ i ∈ vs', i ∈ vs)
    (T : Turn X.prog X.w X.K tg J fp it tn) (hf : ∀ a ∈ fp, ∀ H', H' a = none → FpOk X pins H' a) (I : Inv X pins (wipe σ vs) H s) (st : tn 0 s.heap) (nf : ∀ a ∈ fp, H a = none) (w0 : W 0 m0 H)
    (turn : ∀ j m G, W j m G → (J.stop j G ∧ Nx G) ∨ (J.go j G ∧ ∃ Nx1 : Hp → Prop, (∀ G', Nx1 G' → ∃ m', m' < m ∧ W (j + 1) m' G') ∧ ∀ x G', J.yld j G x G' → g x (wipe σ vs) G' fun σ2 G2 => wipe σ2 vs = wipe σ vs ∧ b D σ2 G2 Nx1))
    (hR : ∀ s' H', Inv X pins (wipe σ vs) H' s' → Nx H' → R (.ok .next) s') : codeAny (model X.prog X.w) X.A (.compLoop (.ListComp elt gens scope pos) k (.ref it) (.ref D) X.env) R s := by
  refine loop_by TI (fun n s' => ∃ j H', Inv X pins (wipe σ vs) H' s' ∧ tn j s'.heap ∧ (∀ a ∈ fp, H' a = none) ∧ W j n H') (fun n s1 hW => ?_) m0 ⟨0, H, I, st, nf, w0⟩
  obtain ⟨j, H1, I1, st1, nf1, w1⟩ := hW
  rcases turn j n H1 w1 with ⟨hs, nx⟩ | ⟨hg, Nx1, hN, step⟩
  · refine thnF (T.done X rfl rfl rfl hc j pins s1 _ H1 (fun _ _ => False) I1 (fun a ha => hf a ha H1 (nf1 a ha)) st1 hs) fun r s2 ⟨hr, I2⟩ => ?_
    subst hr
    exact hR s2 H1 I2 nx
  · refine thnF (T.item X rfl rfl rfl hc j pins s1 _ H1 (fun _ _ => False) I1 (fun a ha => hf a ha H1 (nf1 a ha)) st1 hg) fun r s2 ⟨u, hr, h2⟩ => ?_
    subst hr
    refine thnF h2 fun _ s3 ⟨x, H3, I3, r3, y3, st3, nf3⟩ => ?_
    have P3 := I3.pinned (fun a ha => hf a ha H3 (nf3 a ha)) (T.obj _ _ st3)
    have pgr := pg.run _ s3 _ H3 x u _ P3 r3 (step x H3 y3)
    rw [hxe] at pgr
    refine thnF pgr fun _ s4 ⟨σ4, H4, I4, hw, q4⟩ => ?_
    refine bd _ s4 σ4 H4 Nx1 _ _ I4 q4 fun s5 H5 I5 n5 => wpAny_pure ⟨rfl, ?_⟩
    obtain ⟨m', hm, w'⟩ := hN H5 n5
    have kept : ∀ a ∈ fp, ∀ o, s3.heap.get? a = some o → s5.heap.get? a = some o ∧ H5 a = none := fun a ha o e => by
      have z := I5.pin (a, o) (List.mem_append_right _ (List.mem_append_right _ (mem_pinsAt ha e)))
      exact ⟨z.1, z.2.1⟩
    refine ⟨m', hm, j + 1, H5, I5.unpinned.weak ?_ (fun i v e => ?_), T.keep _ _ _ st3 fun a ha o e => (kept a ha o e).1, fun a ha => ?_, w'⟩
    · rw [wipe_length, wipe_length, ← wipe_length σ4 vs, hw, wipe_length]
    · rw [← hw] at e
      obtain ⟨e1, e2⟩ := wipe_some e
      rw [wipe_out fun z => e2 (hvs i z)]
      exact e1
    · obtain ⟨o, e, _⟩ := T.obj _ _ st3 a ha
      exact (kept a ha o e).2
/-- a further clause: its source, then its loop -/
theorem lv_in {X : Cx} {elt : Expr} {gens : List Comprehension} {scope : Scope} {pos : Pos} {k : Nat} {tg ik : Expr} {D : Addr} {code : Sem Fin → Sem Fin} {vs vs' : List Nat} {wi : TI} {g : TG} {b : LvT} (hc : X.calm = true) (hxe : X.xe = fun _ _ => False)
    (TI : TurnIs (.ListComp elt gens scope pos) k tg ik X.env (.ref D) code) (pi : PI X tg ik wi) (pg : PG X tg g)
    (bd : BdOk X code (b D) vs') (hvs : ∀ i ∈ vs', i ∈ vs)
    (hs : ∀ x, foldedSetIterable ik X.env x = pure x) (ha : ((clausesOf (.ListComp elt gens scope pos))[k]?).elim false (·.is_async != 0) = false) :
    BdOk X (stepIn (.ListComp elt gens scope pos) k ik X.env (.ref D)) (bIn wi g vs b D) vs := by
  intro pins s σ H Nx next Qn I h hn
  have r0 := pi.run pins s σ H _ I h
  rw [hxe] at r0
  unfold stepIn
  refine wpAny_bind (thnF r0 fun x s1 hx => wpAny_bind (wpAny_standAt (wpAny_bind (wpAny_of_eq (hs x) (wpAny_bind (wpAny_holding (thnF hx fun itv s2 h2 => ?_)))))))
  obtain ⟨it, fp, tn, J, H2, e, I2, T, st2, f2, W, ⟨m1, w1⟩, turn⟩ := h2
  subst e
  have nf : ∀ a ∈ fp, H2 a = none := fun a ha => (f2 a ha).1
  have loop := run_lv (R := fun r s' => ∃ f, r = .ok f ∧ ∃ H', Inv X pins (wipe σ vs) H' s' ∧ Nx H') (s := s2) (H := H2) (σ := σ) hc hxe TI pg bd hvs T (fun a ha H' z => ⟨z, (f2 a ha).2⟩) (I2.weak (wipe_length _ _) fun j v e => (wipe_some e).1) st2 nf w1 turn (fun s' H' I' n => ⟨_, rfl, H', I', n⟩)
  refine wpAny_bind (wpAny_runOwn ?_)
  rw [Around.mark_none]
  refine codeAny_mono (start_by loop ha (T.self X.A 0 s2 _ _ st2 ⟨rfl, loop⟩)) fun r s' hr => ?_
  obtain ⟨f, rfl, H', I', n⟩ := hr
  exact hn s' H' I' n
/-- the item -/
theorem lv_leaf {X : Cx} {elt : Expr} {te : TE} {D : Addr} (hxe : X.xe = fun _ _ => False) (pe : PE X elt te) :
    BdOk X (stepLeaf elt X.env (.ref D)) (bLeaf te D) [] := by
  intro pins s σ H Nx next Qn I h hn
  have r0 := pe.run pins s σ H _ I h
  rw [hxe] at r0
  unfold stepLeaf
  refine wpAny_bind (wpAny_bind (thnF r0 fun u s1 ⟨y, H1, I1, r1, acc, hD, hz, nx⟩ => wpAny_bind ?_))
  exact app_ok I1 hD hz r1 fun s2 I2 => wpAny_pure (hn s2 _ I2 nx)
/-- the whole -/
theorem pe_lcN {X : Cx} {elt tg iter : Expr} {rest : List Comprehension} {scope : Scope} {own : List (Str × Nat)} {pos : Pos} {wi : TI} {g : TG} {b : LvT} {vs' : List Nat} {code : Env → Addr → Sem Fin → Sem Fin} (hc : X.calm = true) (hN : X.N.Nodup) (hi : PI X tg iter wi) (ok : BlkOk X.N X.env.scope scope own)
    (hg : ∀ (s : Shared) (H : Hp) (C : Addr) (cl : List (Str × Addr)) (fp : List Addr), PG (X.blk s H scope (compEnvC scope cl C X.env) fp) tg g)
    (TI : ∀ (env : Env) (D : Addr), TurnIs (.ListComp elt (⟨tg, iter, [], 0⟩ :: rest) scope pos) 0 tg iter env (.ref D) (code env D)) (hvs : ∀ i ∈ vs', i ∈ own.map (·.2))
    (bd : ∀ (s : Shared) (H : Hp) (C : Addr) (cl : List (Str × Addr)) (fp : List Addr) (D : Addr), BdOk (X.blk s H scope (compEnvC scope cl C X.env) fp) (code (compEnvC scope cl C X.env) D) (b D) vs')
    (hs : ∀ x, foldedSetIterable iter X.env x = pure x := by intro _; rfl) : PE X (.ListComp elt (⟨tg, iter, [], 0⟩ :: rest) scope pos) (tLcN wi g (own.map (·.2)) b) := by
  refine ⟨fun pins s σ H Q I h => ?_⟩
  rw [eval_ListComp]
  have hfree : ∀ y ∈ scope.names, y.2 = .free → ∃ c, X.env.cells.lookup y.1 = some c := fun y hy e => I.ok.has _ (ok.free y hy e)
  refine wpAny_comprehension_free (use := none) rfl hs (closure_ok hfree) ok.kind (fun y hy e => (ok.uniq y hy).trans (by rw [e])) (thn (hi.run pins s σ H _ I h) fun xv s1 hx => thn hx fun itv s2 h2 => ?_)
  obtain ⟨it, fp, tn, J, H2, e, I2, T, st2, f2, q⟩ := h2
  subst e
  refine wpAny_newObj_type (newEnv_comp ?_) (show 0 ≤ sizeLine by omega)
  generalize hD : s2.heap.objs.size = D
  have nD : H2 D = none := I2.hok.fresh (Nat.le_of_eq hD)
  obtain ⟨W, ⟨m0, w0⟩, turn⟩ := q D nD
  have older : ∀ a ∈ fp, a < s2.heap.objs.size := fun a ha => by
    obtain ⟨o, e, _⟩ := T.obj _ _ st2 a ha
    exact Heap.lt_size e
  generalize eL : ({ s2 with heap := s2.heap.push { cls := .type "list", data := .seq ([] : List Value).toArray } } : Shared) = t3
  have hL : t3.heap = s2.heap.push { cls := .type "list", data := .seq ([] : List Value).toArray } := by rw [← eL]
  have I3 : Inv X pins σ (upd H2 D (.lst [])) t3 := by
    subst eL
    exact I2.laid (t' := s2.toks) (fun a o e => Heap.get?_push_of_some _ e) (Nat.le_of_eq hD) ⟨Nat.zero_le _, [], 0, .nil, by rw [← hD]; exact Heap.get?_push_size _ rfl⟩
  have F3 : ∀ a ∈ fp, FpOk X pins (upd H2 D (.lst [])) a ∧ a < t3.heap.objs.size := fun a ha => by
    have lt := older a ha
    refine ⟨⟨?_, (f2 a ha).2⟩, by rw [hL, Heap.size_push]; exact Nat.lt_succ_of_lt lt⟩
    rw [upd_ne (by rw [← hD]; exact Nat.ne_of_lt lt)]
    exact (f2 a ha).1
  have B := block_start I3 ok hN F3
  have N3 : ∀ a ∈ fp, upd H2 D (.lst []) a = none := fun a ha => (F3 a ha).1.1
  show codeAny _ _ (.compStart (.ListComp elt (⟨tg, iter, [], 0⟩ :: rest) scope pos) 0 (.ref it) (.ref D) (compEnvC scope (cellsFrom (t3.heap.objs.size + 1) scope.names (cloFrom X.env.cells scope.names [])) t3.heap.objs.size X.env)) (compPost (model X.prog X.w) X.A X.xe none _ (.ref D) t3.heap.objs.size) { t3 with heap := pushCells (t3.heap.push { cls := .type "dict", data := .dict #[] }) scope.names }
  have pgB := hg t3 (upd H2 D (.lst [])) t3.heap.objs.size (cellsFrom (t3.heap.objs.size + 1) scope.names (cloFrom X.env.cells scope.names [])) fp
  have bdB := bd t3 (upd H2 D (.lst [])) t3.heap.objs.size (cellsFrom (t3.heap.objs.size + 1) scope.names (cloFrom X.env.cells scope.names [])) fp D
  generalize eC : compEnvC scope (cellsFrom (t3.heap.objs.size + 1) scope.names (cloFrom X.env.cells scope.names [])) t3.heap.objs.size X.env = ce at B pgB bdB ⊢
  have hce : ce.locals = t3.heap.objs.size := by rw [← eC]; rfl
  have st4 : tn 0 (pushCells (t3.heap.push { cls := .type "dict", data := .dict #[] }) scope.names) := T.keep _ _ _ st2 fun a _ o e => pushCells_keeps _ _ _ _ (Heap.get?_push_of_some _ (by rw [hL]; exact Heap.get?_push_of_some _ e))
  have loop := run_lv (X := X.blk t3 (upd H2 D (.lst [])) scope ce fp) (R := compPost (model X.prog X.w) X.A X.xe none (EP X pins σ Q) (.ref D) t3.heap.objs.size) (σ := σ) (vs := own.map (·.2)) (g := g) (b := b) (Nx := fun G => Q (.ref D) G) (m0 := m0) hc rfl (TI ce D) pgB bdB hvs T
    (fun a ha H' z => ⟨z, (B.ok.exf a ha).1, B.ok.exfs a ha, .inl ha, fun x c e => (B.ok.exf a ha).2 x c e, fun p hp => by cases hp⟩) B st4 N3 w0 turn (fun s' H' I' hq => ?_)
  · exact start_by loop rfl (T.self X.A 0 _ _ _ st4 ⟨rfl, loop⟩)
  · have back : Inv X pins σ H' s' := I3.call' (ch := fp) I'.os I'.base I'.hok I'.bare fun a ha => ⟨(F3 a ha).1.2.2.2.1, (F3 a ha).1.2.1, (F3 a ha).1.2.2.2.2.1, (F3 a ha).1.2.2.2.2.2⟩
    obtain ⟨m, hm, _⟩ := I'.loc
    have hm : s'.heap.Ns ce.locals m := hm
    have free : H' ce.locals = none := I'.free
    rw [hce] at hm free
    refine ⟨m, hm, fun h2 sb => ?_⟩
    obtain ⟨z0, z1, z2, z3, z4, z5⟩ := I3.fpOk (Nat.le_refl _) free
    exact ⟨.ref D, H', back.turned (t' := s'.toks) (fun a o ha e => (sb.2 a ha).trans e) z0 z1 z3 z4 z5, rfl, hq⟩
/-- three clauses -/
theorem pe_lc3 {X : Cx} {elt t0 i0 t1 i1 t2 i2 : Expr} {scope : Scope} {own : List (Str × Nat)} {pos : Pos} {w0 w1 w2 : TI} {g0 g1 g2 : TG} {te : TE} {vs1 vs2 : List Nat} (hc : X.calm = true) (hN : X.N.Nodup) (ok : BlkOk X.N X.env.scope scope own) (hv1 : ∀ i ∈ vs1, i ∈ own.map (·.2)) (hv2 : ∀ i ∈ vs2, i ∈ vs1)
    (h0 : PI X t0 i0 w0) (hg0 : ∀ (s : Shared) (H : Hp) (C : Addr) (cl : List (Str × Addr)) (fp : List Addr), PG (X.blk s H scope (compEnvC scope cl C X.env) fp) t0 g0)
    (h1 : ∀ (s : Shared) (H : Hp) (C : Addr) (cl : List (Str × Addr)) (fp : List Addr), PI (X.blk s H scope (compEnvC scope cl C X.env) fp) t1 i1 w1) (hg1 : ∀ (s : Shared) (H : Hp) (C : Addr) (cl : List (Str × Addr)) (fp : List Addr), PG (X.blk s H scope (compEnvC scope cl C X.env) fp) t1 g1)
    (h2 : ∀ (s : Shared) (H : Hp) (C : Addr) (cl : List (Str × Addr)) (fp : List Addr), PI (X.blk s H scope (compEnvC scope cl C X.env) fp) t2 i2 w2) (hg2 : ∀ (s : Shared) (H : Hp) (C : Addr) (cl : List (Str × Addr)) (fp : List Addr), PG (X.blk s H scope (compEnvC scope cl C X.env) fp) t2 g2)
    (he : ∀ (s : Shared) (H : Hp) (C : Addr) (cl : List (Str × Addr)) (fp : List Addr), PE (X.blk s H scope (compEnvC scope cl C X.env) fp) elt te)
    (s0 : ∀ x, foldedSetIterable i0 X.env x = pure x := by intro _; rfl) (s1 : ∀ env x, foldedSetIterable i1 env x = pure x := by intro _ _; rfl) (s2 : ∀ env x, foldedSetIterable i2 env x = pure x := by intro _ _; rfl) :
    PE X (.ListComp elt [⟨t0, i0, [], 0⟩, ⟨t1, i1, [], 0⟩, ⟨t2, i2, [], 0⟩] scope pos) (tLcN w0 g0 (own.map (·.2)) (bIn w1 g1 vs1 (bIn w2 g2 vs2 (bLeaf te)))) :=
  pe_lcN (code := fun env D => stepIn (.ListComp elt [⟨t0, i0, [], 0⟩, ⟨t1, i1, [], 0⟩, ⟨t2, i2, [], 0⟩] scope pos) 1 i1 env (.ref D)) hc hN h0 ok hg0 (fun env D it => rfl) hv1 (fun s H C cl fp D =>
    lv_in (code := stepIn (.ListComp elt [⟨t0, i0, [], 0⟩, ⟨t1, i1, [], 0⟩, ⟨t2, i2, [], 0⟩] scope pos) 2 i2 (compEnvC scope cl C X.env) (.ref D)) hc rfl (fun it => rfl) (h1 s H C cl fp) (hg1 s H C cl fp)
      (lv_in (code := stepLeaf elt (compEnvC scope cl C X.env) (.ref D)) hc rfl (fun it => rfl) (h2 s H C cl fp) (hg2 s H C cl fp) (lv_leaf rfl (he s H C cl fp)) (fun i hi => by cases hi) (s2 _) rfl) hv2 (s1 _) rfl) s0
section
variable {J : It} {n : Nat} {G : Hp → Prop} {Y : Nat → Hp → V → Hp → Prop}
/-- the walk of the first clause -/
theorem cN (w : Walk J n G Y) {g : TG} {vs : List Nat} {b : LvT} {σ : L2.St} {H1 : Hp} {D : Addr} {Q : VK} (Pv : Nat → Hp → Prop) (h0 : Pv 0 (upd H1 D (.lst []))) (hG : ∀ i H, i ≤ n → Pv i H → G H)
    (hs : ∀ i x H H', i < n → Pv i H → Y i H x H' → g x (wipe σ vs) H' fun σ2 H2 => wipe σ2 vs = wipe σ vs ∧ b D σ2 H2 (Pv (i + 1))) (hd : ∀ H, Pv n H → Q (.ref D) H) :
    ∃ W : Nat → Nat → Hp → Prop, (∃ m, W 0 m (upd H1 D (.lst []))) ∧ ∀ j m G, W j m G → (J.stop j G ∧ Q (.ref D) G) ∨ (J.go j G ∧ ∃ Nx1 : Hp → Prop, (∀ G', Nx1 G' → ∃ m', m' < m ∧ W (j + 1) m' G') ∧ ∀ x G', J.yld j G x G' → g x (wipe σ vs) G' fun σ2 G2 => wipe σ2 vs = wipe σ vs ∧ b D σ2 G2 Nx1) := by
  refine ⟨fun i m H => m = n - i ∧ i ≤ n ∧ Pv i H, ⟨n, by simp, Nat.zero_le _, h0⟩, ?_⟩
  rintro i m H ⟨rfl, hi, p⟩
  rcases Nat.lt_or_ge i n with hlt | hge
  · exact .inr ⟨w.goes i H hlt (hG i H hi p), Pv (i + 1), fun H' p' => ⟨n - (i + 1), by omega, rfl, hlt, p'⟩, fun x H' y => hs i x H H' hlt p (w.yields i H x H' hlt (hG i H hi p) y)⟩
  · obtain rfl : i = n := by omega
    exact .inl ⟨w.stops H (hG i H hi p), hd H p⟩
/-- .. of a further one -/
theorem cI (w : Walk J n G Y) {g : TG} {vs : List Nat} {b : LvT} {σ : L2.St} {H1 : Hp} {D : Addr} {Nx : Hp → Prop} (Pv : Nat → Hp → Prop) (h0 : Pv 0 H1) (hG : ∀ i H, i ≤ n → Pv i H → G H)
    (hs : ∀ i x H H', i < n → Pv i H → Y i H x H' → g x (wipe σ vs) H' fun σ2 H2 => wipe σ2 vs = wipe σ vs ∧ b D σ2 H2 (Pv (i + 1))) (hd : ∀ H, Pv n H → Nx H) :
    ∃ W : Nat → Nat → Hp → Prop, (∃ m, W 0 m H1) ∧ ∀ j m G, W j m G → (J.stop j G ∧ Nx G) ∨ (J.go j G ∧ ∃ Nx1 : Hp → Prop, (∀ G', Nx1 G' → ∃ m', m' < m ∧ W (j + 1) m' G') ∧ ∀ x G', J.yld j G x G' → g x (wipe σ vs) G' fun σ2 G2 => wipe σ2 vs = wipe σ vs ∧ b D σ2 G2 Nx1) := by
  refine ⟨fun i m H => m = n - i ∧ i ≤ n ∧ Pv i H, ⟨n, by simp, Nat.zero_le _, h0⟩, ?_⟩
  rintro i m H ⟨rfl, hi, p⟩
  rcases Nat.lt_or_ge i n with hlt | hge
  · exact .inr ⟨w.goes i H hlt (hG i H hi p), Pv (i + 1), fun H' p' => ⟨n - (i + 1), by omega, rfl, hlt, p'⟩, fun x H' y => hs i x H H' hlt p (w.yields i H x H' hlt (hG i H hi p) y)⟩
  · obtain rfl : i = n := by omega
    exact .inl ⟨w.stops H (hG i H hi p), hd H p⟩
end
end Fm
end FFmLcN
section FS1
set_option Elab.async false
set_option linter.all false
set_option maxRecDepth 100000
set_option maxHeartbeats 4000000
local macro_rules | `(tactic| walk_at "ne") => `(tactic| first | assumption | (apply Ne.symm; assumption) | exact L2.ne_of_none (by assumption) (by assumption) | exact Ne.symm (L2.ne_of_none (by assumption) (by assumption)))
local macro_rules | `(tactic| walk_at "hl") => `(tactic| first | assumption | exact L2.upd_same | (refine Eq.trans (L2.upd_ne (by walk_at "ne")) ?_; walk_at "hl"))
local macro_rules | `(tactic| walk_at "sd") => `(tactic| first | (with_reducible show (_ : Int) < _; omega) | (with_reducible show (_ : Int) ≤ _; omega) | assumption | decide | exact ⟨by assumption, by assumption⟩ | exact ⟨by decide, by decide⟩ | exact Or.inr ⟨by decide, by decide⟩ | exact Or.inl ⟨by omega, by omega⟩ | rfl)
local macro_rules | `(tactic| walk_at "st1") => `(tactic| first
  | refine ⟨_, rfl, ?_⟩
  | refine ⟨_, _, rfl, rfl, ?_⟩
  | refine ⟨_, _, rfl, ?_⟩
  | (refine ⟨_, _, _, _, rfl, rfl, L2.SqL.of (by walk_at "hl"), rfl, ?_⟩)
  | (refine ⟨_, _, _, _, rfl, rfl, L2.SqT.of (by walk_at "hl"), rfl, ?_⟩)
  | (refine ⟨_, _, _, _, rfl, rfl, (by walk_at "hl"), rfl, ?_⟩)
  | (refine And.intro (by walk_at "sd") ?_)
  )
local macro_rules | `(tactic| walk_at "st") => `(tactic| repeat walk_at "st1")
local macro_rules | `(tactic| walk_at "op") => `(tactic| try dsimp only [L2.tSeq, L2.tAsg, L2.tOp, L2.tVar, L2.tC, L2.gSub, L2.rI, L2.rI0, L2.rIxL, L2.rIxT, L2.rSetL, L2.tIfS, L2.tTest, L2.tRet, L2.gName, L2.tNext, L2.tAnd, L2.tOr, L2.tNot, L2.tAndV, L2.tOrV, L2.tNotV, L2.tB, L2.tCB, L2.tCons, L2.tNil, L2.tCall, L2.tTup, L2.tLst, L2.tChain, L2.tUn, L2.tPar, L2.tDrop, L2.tIf, L2.tBM, L2.tBM0, L2.rAppend, L2.rCat, L2.rIsi, L2.rIsiT, L2.gTup, L2.gCons, L2.gNil, Fm.tFor_eq, Fm.tLc_eq, Fm.tLc2_eq, L2.iTup, L2.iList, L2.iRng1, L2.iRng2, L2.tSl, L2.tPart, L2.tNoPart, L2.rSlL, L2.rEq, L2.rNe, L2.rU, L2.rEqD, L2.rNeD, Fm.tRevT, Fm.rLenS, Fm.rTupOf, Fm.rLstOf, L2.tDNewK, L2.tCallS, L2.WE, Fm.wKeep, Fm.rIsK, Fm.rIsKT, List.cons_append, List.nil_append, L2.tYes])
namespace Fm
open PySem PySem.Spec PyProof.Rows L2
def top (i : Nat) : Stmt := PySem.Challenge.pw_floormeet_k45_all_semigroups.main.body.getD i (.Pass ⟨0, 0, 0, 0⟩)
abbrev s_is_whole : Stmt := top 1
abbrev N_is_whole : List Str := ["thing"]
theorem sc_is_whole : FnScope N_is_whole ["thing"] (defScope s_is_whole) := ⟨rfl, rfl, rfl, by decide +kernel, rfl, by decide +kernel, by decide +kernel⟩
abbrev s_is_up_to : Stmt := top 2
abbrev N_is_up_to : List Str := ["thing", "most"]
theorem sc_is_up_to : FnScope N_is_up_to ["thing", "most"] (defScope s_is_up_to) := ⟨rfl, rfl, rfl, by decide +kernel, rfl, by decide +kernel, by decide +kernel⟩
abbrev s_threes : Stmt := top 7
abbrev N_threes : List Str := ["m", "a", "b", "c"]
theorem sc_threes : FnScope N_threes ["m"] (defScope s_threes) := ⟨rfl, rfl, rfl, by decide +kernel, rfl, by decide +kernel, by decide +kernel⟩
section
variable {P : Program} {w : World} {K : PySem.W.Frag} {mg : Str → Option Value} {base : Heap}
theorem ok_is_whole (D : Df K mg "is_whole" s_is_whole ["thing"]) (T : Nms mg) : CallOk P w K mg base CX0 1 "is_whole" ["thing"] spWhole := by
  refine df_ok D sc_is_whole (fun vs H Q E h => ?_) (fun f cdv A outer s H vs Q E hr h => ?_)
  · obtain ⟨v, p, d, rfl, _⟩ := h
    rfl
  · obtain ⟨v, p, d, rfl, hd, k⟩ := h
    have nd := sc_is_whole.nd
    refine ⟨_, (pss_one (ps_ret (pe_and (pe_callB (r := rIsi K) call_isi (by rfl) T.n_isinstance (by decide +kernel) (pa_cons (pv 0) (pa_cons (pe_bltn (v := .ty "int") (by rfl) T.n_int (by decide +kernel) rfl) pa_nil))) (pe_one (pe_not (pe_callB (r := rIsi K) call_isi (by rfl) T.n_isinstance (by decide +kernel) (pa_cons (pv 0) (pa_cons (pe_bltn (v := .ty "bool") (by rfl) T.n_bool (by decide +kernel) rfl) pa_nil)))))))), ?_⟩
    walk_at "op"
    walk_at "st"
    refine ⟨_, _, _, _, _, rfl, .ty _, hd.ty, kit_ty (kit_int d), ?_⟩
    walk_at "st"
    refine ite2 (fun c1 => ?_) (fun c1 => ?_)
    · walk_at "st"
      refine ⟨_, _, _, _, _, rfl, .ty _, hd.ty, kit_ty (kit_bool d), ?_⟩
      walk_at "st"
      refine k _ ?_
      cases d <;> simp_all [isI, isB]
    · refine k _ ?_
      cases d <;> simp_all [isI, isB]
theorem ok_is_up_to (D : Df K mg "is_up_to" s_is_up_to ["thing", "most"]) (T : Nms mg) (c_is_whole : CallOk P w K mg base CX0 1 "is_whole" ["thing"] spWhole) : CallOk P w K mg base CX0 2 "is_up_to" ["thing", "most"] spUpTo := by
  refine df_ok D sc_is_up_to (fun vs H Q E h => ?_) (fun f cdv A outer s H vs Q E hr h => ?_)
  · obtain ⟨v, mv, p, d, rfl, _⟩ := h
    rfl
  · obtain ⟨v, mv, p, d, rfl, hd, hm, k⟩ := h
    have nd := sc_is_up_to.nd
    refine ⟨_, (pss_cons (ps_if (PW.pt (pw_or (pt_not (pt_val (pe_cc c_is_whole (hr.mono (by omega)) (pa_cons (pv 0) pa_nil)))) (pw_or1 (pt_cmpR op_lt (pv 0) pe_int (nomark _))))) (pss_one (ps_ret pe_bl)) pss_nil)
      (pss_one (ps_ret (pe_or (pe_cmpR op_isN (pv 1) pe_non (nomark _)) (pe_one (pe_cmpR op_le (pv 0) (pv 1) (nomark _))))))), ?_⟩
    walk_at "op"
    walk_at "st"
    refine ⟨v, p, d, rfl, hd, fun b hb => ?_⟩
    walk_at "st"
    cases b with
    | false =>
      refine iteT (iteT (k false ⟨fun z => Bool.noConfusion z, fun ⟨i, e, _⟩ => hb.mpr ⟨i, e⟩⟩))
    | true =>
      obtain ⟨i, rfl⟩ := hb.mp rfl
      obtain rfl := hd.isInt
      refine iteF ?_
      walk_at "st"
      refine ite2 (fun c0 => ?_) (fun c0 => ?_)
      · refine k false ⟨fun z => Bool.noConfusion z, fun ⟨j, e, h0, _⟩ => ?_⟩
        cases e
        have := of_decide_eq_true c0
        omega
      · have c1 : 0 ≤ i := by
          have := of_decide_eq_false (Bool.eq_false_iff.mpr c0)
          omega
        walk_at "st"
        rcases hm with rfl | ⟨M, rfl⟩
        · refine iteT (k true ⟨fun _ => ⟨i, rfl, c1, fun M z => by cases z⟩, fun _ => rfl⟩)
        · refine iteF ?_
          walk_at "st"
          refine k _ ⟨fun z => ⟨i, rfl, c1, fun N e => ?_⟩, fun ⟨j, e, _, hM⟩ => ?_⟩
          · cases e
            exact of_decide_eq_true z
          · cases e
            exact decide_eq_true (hM M rfl)
def triD (x : Nat × Nat × Nat) : PyData := .tuple [.int (x.1 : Nat), .int (x.2.1 : Nat), .int (x.2.2 : Nat)]
def rowC (a b n : Nat) : List (Nat × Nat × Nat) := (List.range n).map fun k => (a, b, b + k)
def rowB (m a n : Nat) : List (Nat × Nat × Nat) := (List.range n).flatMap fun j => rowC a (a + j) (m - (a + j))
def thrN (m n : Nat) : List (Nat × Nat × Nat) := (List.range n).flatMap fun a => rowB m a (m - a)
def thr (m : Nat) : List (Nat × Nat × Nat) := thrN m m
theorem rowC_succ (a b n : Nat) : rowC a b (n + 1) = rowC a b n ++ [(a, b, b + n)] := by unfold rowC; rw [List.range_succ, List.map_append]; rfl
theorem rowB_succ (m a n : Nat) : rowB m a (n + 1) = rowB m a n ++ rowC a (a + n) (m - (a + n)) := by unfold rowB; rw [List.range_succ, List.flatMap_append, List.flatMap_singleton]
theorem thrN_succ (m n : Nat) : thrN m (n + 1) = thrN m n ++ rowB m n (m - n) := by unfold thrN; rw [List.range_succ, List.flatMap_append, List.flatMap_singleton]
theorem rowC_len (a b n : Nat) : (rowC a b n).length = n := by unfold rowC; rw [List.length_map, List.length_range]
theorem rowB_len {m : Nat} (hm : m ≤ 6) (a : Nat) : ∀ n, (rowB m a n).length ≤ n * 6
  | 0 => Nat.le_refl 0
  | n + 1 => by
    have := rowB_len hm a n
    rw [rowB_succ, List.length_append, rowC_len]
    omega
theorem thrN_len {m : Nat} (hm : m ≤ 6) : ∀ n, (thrN m n).length ≤ n * 36
  | 0 => Nat.le_refl 0
  | n + 1 => by
    have := thrN_len hm n
    have := rowB_len hm n (m - n)
    rw [thrN_succ, List.length_append]
    omega
theorem triD_no (x : Nat × Nat × Nat) : noList (triD x) = true := noList_of fun e he => by
  simp only [List.mem_cons, List.not_mem_nil, or_false] at he
  rcases he with rfl | rfl | rfl <;> (unfold noList; rfl)
theorem tris_no (l : List (Nat × Nat × Nat)) : ∀ d ∈ l.map triD, noList d = true := fun d hd => by
  obtain ⟨x, _, rfl⟩ := List.mem_map.mp hd
  exact triD_no x
theorem sameOff {H H' : Hp} {L : Addr} {o : HO} (e : Same H H') (h : H L = none) : Same H (upd H' L o) := fun b u eb => (upd_ne (ne_of_none eb h)).trans (e b u eb)
theorem sameFree {H H' : Hp} {S : Addr} (e : Same H H') (h : H' S = none) : H S = none := by
  cases hS : H S with
  | none => rfl
  | some u => rw [e S u hS] at h; cases h
theorem Dat.off {H : Hp} {p L : Addr} {o : HO} {v : V} {d : PyData} (h : Dat H p v d) (hL : H L = none) : Dat (upd H L o) p v d := h.same (same_new hL)
theorem Dats.off {H : Hp} {p L : Addr} {o : HO} {xs : List V} {ds : List PyData} (h : Dats H p xs ds) (hL : H L = none) : Dats (upd H L o) p xs ds := ⟨h.1, fun i x d a b => (h.2 i x d a b).off hL⟩
theorem small1000 {n : Nat} (h : n ≤ 1000) : n < sizeLine := by rw [sizeLine_eq]; omega
theorem Dat.setL {H : Hp} {p R : Addr} {xs ys : List V} {v : V} {d : PyData} (hR : H R = some (.lst xs)) (h : Dat H p v d) : noList d = true → Dat (upd H R (.lst ys)) p v d := by
  induction h with
  | non => exact fun _ => .non
  | bl b => exact fun _ => .bl b
  | int i => exact fun _ => .int i
  | str x => exact fun _ => .str x
  | tup h1 h2 h3 h4 ih => exact fun hn => .tup (by rw [upd_ne (ne_of h1 hR (by intro z; cases z))]; exact h1) h2 h3 fun i x d a b => ih i x d a b (noList_tup hn d (List.mem_of_getElem? b))
  | lst h1 h2 h3 h4 ih => exact fun hn => by unfold noList at hn; cases hn
  | dct h1 h2 => exact fun _ => .dct (by rw [upd_ne (ne_of h1 hR (by intro z; cases z))]; exact h1) h2
theorem Dats.setL {H : Hp} {p R : Addr} {xs ys zs : List V} {ds : List PyData} (hR : H R = some (.lst xs)) (h : Dats H p zs ds) (hn : ∀ d ∈ ds, noList d = true) : Dats (upd H R (.lst ys)) p zs ds :=
  ⟨h.1, fun i x d a b => (h.2 i x d a b).setL hR (hn d (List.mem_of_getElem? b))⟩
def spThrees : Sp := fun vs H Q _ => ∃ (m : Nat) (p : Addr) (u : HO), vs = [.int (m : Nat)] ∧ m ≤ 6 ∧ H p = some u ∧ ∀ q ws H', H q = none → H' q = some (.lst ws) → Dats H' p ws ((thr m).map triD) → Same H H' → Q (.ref q) H'
theorem ok_threes (D : Df K mg "threes" s_threes ["m"]) (T : Nms mg) : CallOk P w K mg base CX0 1 "threes" ["m"] spThrees := by
  refine df_ok D sc_threes (fun vs H Q E h => ?_) (fun f cdv A outer s H vs Q E hr h => ?_)
  · obtain ⟨m, p, u, rfl, _⟩ := h
    rfl
  · obtain ⟨m, p, u, rfl, hm, hp, k⟩ := h
    have nd := sc_threes.nd
    refine ⟨_, (pss_one (ps_ret (pe_lc3 (own := [("a", 1), ("b", 2), ("c", 3)]) (vs1 := [2, 3]) (vs2 := [3]) (g0 := gName 1) (g1 := gName 2) (g2 := gName 3) (by rfl) nd (blkOk_by (own := [("a", 1), ("b", 2), ("c", 3)]) (N := N_threes) (sc := defScope s_threes) (by decide +kernel)) (by decide) (by decide) (pi_range1 rfl T.n_range (pa_cons (pv 0) pa_nil)) (fun _ _ _ _ _ => (pg_name (i := 1) nd rfl (Or.inl rfl))) (fun _ _ _ _ _ => (pi_range2 rfl T.n_range (pa_cons (pv 1) (pa_cons (pv 0) pa_nil)))) (fun _ _ _ _ _ => (pg_name (i := 2) nd rfl (Or.inl rfl))) (fun _ _ _ _ _ => (pi_range2 rfl T.n_range (pa_cons (pv 2) (pa_cons (pv 0) pa_nil)))) (fun _ _ _ _ _ => (pg_name (i := 3) nd rfl (Or.inl rfl))) (fun _ _ _ _ _ => (pe_tup (pa_cons (pv 1) (pa_cons (pv 2) (pa_cons (pv 3) pa_nil)))))))), ?_⟩
    walk_at "op"
    walk_at "st"
    refine fun D0 hD0 => ?_
    have pne : ∀ {S : Addr} {G : Hp}, Same H G → G S = none → S ≠ p := fun {S G} e z q => by
      rw [q] at z
      have := e p u hp
      rw [z] at this
      cases this
    refine cN walk_range (fun i G => Same H G ∧ ∃ ws, G D0 = some (.lst ws) ∧ Dats G p ws ((thrN m i).map triD)) ⟨same_new hD0, [], upd_same, Dats.nil⟩ (fun _ _ _ _ => True.intro) ?_ ?_
    · rintro i x _ G hi ⟨sm, ws, hw, hW⟩ ⟨rfl, rfl⟩
      dsimp only
      rw [Int.zero_add]
      have hlA := thrN_len hm i
      walk_at "op"
      refine ⟨rfl, ?_⟩
      show iRng2 (tCons (tVar 1) (tCons (tVar 0) tNil)) _ _ _
      refine ⟨_, rfl, _, rfl, _, _, rfl, ⟨by omega, by omega, by omega, by omega⟩, ?_⟩
      rw [show ((m : Int) - (i : Nat)).toNat = m - i by omega]
      refine cI walk_range (fun j G => Same H G ∧ ∃ ws, G D0 = some (.lst ws) ∧ Dats G p ws ((thrN m i ++ rowB m i j).map triD)) ⟨sm, ws, hw, by rw [show rowB m i 0 = [] from rfl, List.append_nil]; exact hW⟩ (fun _ _ _ _ => True.intro) ?_ ?_
      · rintro j x _ G hj ⟨sm, ws, hw, hW⟩ ⟨rfl, rfl⟩
        have hlB := rowB_len hm i j
        walk_at "op"
        refine ⟨rfl, ?_⟩
        show iRng2 (tCons (tVar 2) (tCons (tVar 0) tNil)) _ _ _
        refine ⟨_, rfl, _, rfl, _, _, rfl, ⟨by omega, by omega, by omega, by omega⟩, ?_⟩
        rw [show ((m : Int) - ((i : Nat) + (j : Nat))).toNat = m - (i + j) by omega]
        refine cI walk_range (fun l G => Same H G ∧ ∃ ws, G D0 = some (.lst ws) ∧ Dats G p ws ((thrN m i ++ rowB m i j ++ rowC i (i + j) l).map triD)) ⟨sm, ws, hw, by rw [show rowC i (i + j) 0 = [] from rfl, List.append_nil]; exact hW⟩ (fun _ _ _ _ => True.intro) ?_ ?_
        · rintro l x _ G hl ⟨sm, ws, hw, hW⟩ ⟨rfl, rfl⟩
          refine ⟨rfl, ?_⟩
          refine ⟨_, rfl, _, rfl, _, rfl, ⟨by show 3 ≤ sizeLine; decide, fun t ht => ?_⟩⟩
          have nDt : D0 ≠ t := ne_of_none hw ht
          have htH := sameFree sm ht
          have hw2 := (same_new (o := .tup [.int (i : Nat), .int ((i : Nat) + (j : Nat)), .int ((i : Nat) + (j : Nat) + (l : Nat))]) ht) _ _ hw
          refine ⟨ws, hw2, small1000 ?_, sameOff (sm.trans (same_new ht)) hD0, ws ++ [.ref t], upd_same, ?_⟩
          · rw [hW.1, List.length_map, List.length_append, List.length_append, rowC_len]
            omega
          · rw [rowC_succ, ← List.append_assoc, List.map_append]
            refine ((hW.off ht).setL hw2 (tris_no _)).snoc (Dat.setL hw2 (Dat.new ht (pne sm ht) ?_) (triD_no _))
            have q := Dats.ints (H := G) (p := p) [(i : Int), ((i + j : Nat) : Int), ((i + j + l : Nat) : Int)]
            simpa using q
        · rintro G ⟨sm, ws, hw, hW⟩
          rw [List.append_assoc, ← rowB_succ] at hW
          exact ⟨sm, ws, hw, hW⟩
      · rintro G ⟨sm, ws, hw, hW⟩
        rw [← thrN_succ] at hW
        exact ⟨sm, ws, hw, hW⟩
    · rintro G ⟨sm, ws, hw, hW⟩
      exact k D0 ws G hD0 hw hW sm
end
end Fm
end FS1
section FS2
set_option Elab.async false
set_option linter.all false
set_option maxRecDepth 100000
set_option maxHeartbeats 4000000
local macro_rules | `(tactic| walk_at "ne") => `(tactic| first | assumption | (apply Ne.symm; assumption) | exact L2.ne_of_none (by assumption) (by assumption) | exact Ne.symm (L2.ne_of_none (by assumption) (by assumption)))
local macro_rules | `(tactic| walk_at "hl") => `(tactic| first | assumption | exact L2.upd_same | (refine Eq.trans (L2.upd_ne (by walk_at "ne")) ?_; walk_at "hl"))
local macro_rules | `(tactic| walk_at "sd") => `(tactic| first | (with_reducible show (_ : Int) < _; omega) | (with_reducible show (_ : Int) ≤ _; omega) | assumption | decide | exact ⟨by assumption, by assumption⟩ | exact ⟨by decide, by decide⟩ | exact Or.inr ⟨by decide, by decide⟩ | exact Or.inl ⟨by omega, by omega⟩ | rfl)
local macro_rules | `(tactic| walk_at "st1") => `(tactic| first
  | refine ⟨_, rfl, ?_⟩
  | refine ⟨_, _, rfl, rfl, ?_⟩
  | refine ⟨_, _, rfl, ?_⟩
  | (refine ⟨_, _, _, _, rfl, rfl, L2.SqL.of (by walk_at "hl"), rfl, ?_⟩)
  | (refine ⟨_, _, _, _, rfl, rfl, L2.SqT.of (by walk_at "hl"), rfl, ?_⟩)
  | (refine ⟨_, _, _, _, rfl, rfl, (by walk_at "hl"), rfl, ?_⟩)
  | (refine And.intro (by walk_at "sd") ?_)
  )
local macro_rules | `(tactic| walk_at "st") => `(tactic| repeat walk_at "st1")
local macro_rules | `(tactic| walk_at "op") => `(tactic| try dsimp only [L2.tSeq, L2.tAsg, L2.tOp, L2.tVar, L2.tC, L2.gSub, L2.rI, L2.rI0, L2.rIxL, L2.rIxT, L2.rSetL, L2.tIfS, L2.tTest, L2.tRet, L2.gName, L2.tNext, L2.tAnd, L2.tOr, L2.tNot, L2.tAndV, L2.tOrV, L2.tNotV, L2.tB, L2.tCB, L2.tCons, L2.tNil, L2.tCall, L2.tTup, L2.tLst, L2.tChain, L2.tUn, L2.tPar, L2.tDrop, L2.tIf, L2.tBM, L2.tBM0, L2.rAppend, L2.rCat, L2.rIsi, L2.rIsiT, L2.gTup, L2.gCons, L2.gNil, Fm.tFor_eq, Fm.tLc_eq, Fm.tLc2_eq, L2.iTup, L2.iList, L2.iRng1, L2.iRng2, L2.tSl, L2.tPart, L2.tNoPart, L2.rSlL, L2.rEq, L2.rNe, L2.rU, L2.rEqD, L2.rNeD, Fm.tRevT, Fm.rLenS, Fm.rTupOf, Fm.rLstOf, L2.tDNewK, L2.tCallS, L2.WE, Fm.wKeep, Fm.rIsK, Fm.rIsKT, List.cons_append, List.nil_append, L2.tYes])
namespace Fm
open PySem PySem.Spec PyProof.Rows L2
abbrev s_orders : Stmt := top 8
abbrev N_orders : List Str := ["three", "a", "b", "c"]
theorem sc_orders : FnScope N_orders ["three"] (defScope s_orders) := ⟨rfl, rfl, rfl, by decide +kernel, rfl, by decide +kernel, by decide +kernel⟩
abbrev s_is_semigroup : Stmt := top 14
abbrev N_is_semigroup : List Str := ["table", "three", "told", "a", "b", "c"]
theorem sc_is_semigroup : FnScope N_is_semigroup ["table"] (defScope s_is_semigroup) := ⟨rfl, rfl, rfl, by decide +kernel, rfl, by decide +kernel, by decide +kernel⟩
section
variable {P : Program} {w : World} {K : PySem.W.Frag} {mg : Str → Option Value} {base : Heap}
theorem pne_of {H : Hp} {p : Addr} {u : HO} (hp : H p = some u) {S : Addr} {G : Hp} (e : Same H G) (q : G S = none) : S ≠ p := fun z => by
  rw [z, e p u hp] at q
  cases q
theorem dats_ints {H : Hp} {p : Addr} {ns : List Int} {ys : List V} (h : Dats H p ys (ns.map PyData.int)) : ys = ns.map V.int := by
  apply List.ext_getElem?
  intro i
  have hl : ys.length = ns.length := by rw [h.1, List.length_map]
  rw [List.getElem?_map]
  cases e : ys[i]? with
  | none =>
    rw [List.getElem?_eq_none (by rw [← hl]; exact List.getElem?_eq_none_iff.mp e)]
    rfl
  | some y =>
    obtain ⟨d, hd, z⟩ := h.at e
    rw [List.getElem?_map] at hd
    cases e2 : ns[i]? with
    | none => rw [e2] at hd; cases hd
    | some n =>
      rw [e2] at hd
      cases hd
      rw [z.isInt]
      rfl
theorem tri_parts {H : Hp} {p : Addr} {v : V} {x : Nat × Nat × Nat} (h : Dat H p v (triD x)) : ∃ a, v = .ref a ∧ H a = some (.tup [.int (x.1 : Nat), .int (x.2.1 : Nat), .int (x.2.2 : Nat)]) ∧ a ≠ p := by
  obtain ⟨a, ys, rfl, ha, np, hs⟩ := h.isTup
  have e : ys = [.int (x.1 : Nat), .int (x.2.1 : Nat), .int (x.2.2 : Nat)] := dats_ints (ns := [((x.1 : Nat) : Int), ((x.2.1 : Nat) : Int), ((x.2.2 : Nat) : Int)]) hs
  rw [e] at ha
  exact ⟨a, rfl, ha, np⟩
def ords (x : Nat × Nat × Nat) : List (Nat × Nat × Nat) := [(x.1, x.2.1, x.2.2), (x.1, x.2.2, x.2.1), (x.2.1, x.2.2, x.1)]
def spOrders : Sp := fun vs H Q _ => ∃ (tv : V) (p : Addr) (u : HO) (x : Nat × Nat × Nat), vs = [tv] ∧ H p = some u ∧ Dat H p tv (triD x) ∧ ∀ v H', Dat H' p v (.tuple ((ords x).map triD)) → Same H H' → Q v H'
theorem ok_orders (D : Df K mg "orders" s_orders ["three"]) (T : Nms mg) : CallOk P w K mg base CX0 1 "orders" ["three"] spOrders := by
  refine df_ok D sc_orders (fun vs H Q E h => ?_) (fun f cdv A outer s H vs Q E hr h => ?_)
  · obtain ⟨tv, p, u, x, rfl, _⟩ := h
    rfl
  · obtain ⟨tv, p, u, x, rfl, hp, hd, k⟩ := h
    have nd := sc_orders.nd
    obtain ⟨ta, rfl, hta, _⟩ := tri_parts hd
    refine ⟨_, (pss_cons (ps_asg (pv 0) (pg_tup rfl (pgs_cons (pg_name (i := 1) nd rfl (Or.inl rfl)) (pgs_cons (pg_name (i := 2) nd rfl (Or.inl rfl)) (pgs_cons (pg_name (i := 3) nd rfl (Or.inl rfl)) pgs_nil)))))
      (pss_one (ps_ret (pe_tup (pa_cons (pe_tup (pa_cons (pv 1) (pa_cons (pv 2) (pa_cons (pv 3) pa_nil)))) (pa_cons (pe_tup (pa_cons (pv 1) (pa_cons (pv 3) (pa_cons (pv 2) pa_nil)))) (pa_cons (pe_tup (pa_cons (pv 2) (pa_cons (pv 3) (pa_cons (pv 1) pa_nil)))) pa_nil))))))), ?_⟩
    walk_at "op"
    walk_at "st"
    refine ⟨ta, _, rfl, SqT.of hta, rfl, _, _, rfl, _, _, rfl, _, _, rfl, rfl, ?_⟩
    walk_at "op"
    walk_at "st"
    refine ⟨by show 3 ≤ sizeLine; decide, fun t1 h1 => ?_⟩
    have s1 := same_new (o := .tup [.int (x.1 : Nat), .int (x.2.1 : Nat), .int (x.2.2 : Nat)]) h1
    have d1 : Dat (upd H t1 (.tup [.int (x.1 : Nat), .int (x.2.1 : Nat), .int (x.2.2 : Nat)])) p (.ref t1) (triD (x.1, x.2.1, x.2.2)) := Dat.new h1 (pne_of hp (fun _ _ z => z) h1) (Dats.ints [(x.1 : Int), (x.2.1 : Int), (x.2.2 : Int)])
    generalize upd H t1 (.tup [.int (x.1 : Nat), .int (x.2.1 : Nat), .int (x.2.2 : Nat)]) = G1 at s1 d1 ⊢
    refine ⟨_, rfl, _, rfl, _, rfl, by show 3 ≤ sizeLine; decide, fun t2 h2 => ?_⟩
    have s2 := same_new (o := .tup [.int (x.1 : Nat), .int (x.2.2 : Nat), .int (x.2.1 : Nat)]) h2
    have d2 : Dat (upd G1 t2 (.tup [.int (x.1 : Nat), .int (x.2.2 : Nat), .int (x.2.1 : Nat)])) p (.ref t2) (triD (x.1, x.2.2, x.2.1)) := Dat.new h2 (pne_of hp s1 h2) (Dats.ints [(x.1 : Int), (x.2.2 : Int), (x.2.1 : Int)])
    generalize upd G1 t2 (.tup [.int (x.1 : Nat), .int (x.2.2 : Nat), .int (x.2.1 : Nat)]) = G2 at s2 d2 ⊢
    have s02 := s1.trans s2
    refine ⟨_, rfl, _, rfl, _, rfl, by show 3 ≤ sizeLine; decide, fun t3 h3 => ?_⟩
    have s3 := same_new (o := .tup [.int (x.2.1 : Nat), .int (x.2.2 : Nat), .int (x.1 : Nat)]) h3
    have d3 : Dat (upd G2 t3 (.tup [.int (x.2.1 : Nat), .int (x.2.2 : Nat), .int (x.1 : Nat)])) p (.ref t3) (triD (x.2.1, x.2.2, x.1)) := Dat.new h3 (pne_of hp s02 h3) (Dats.ints [(x.2.1 : Int), (x.2.2 : Int), (x.1 : Int)])
    generalize upd G2 t3 (.tup [.int (x.2.1 : Nat), .int (x.2.2 : Nat), .int (x.1 : Nat)]) = G3 at s3 d3 ⊢
    have s03 := s02.trans s3
    refine ⟨by show 3 ≤ sizeLine; decide, fun t4 h4 => k _ _ ?_ (s03.trans (same_new h4))⟩
    exact Dat.new h4 (pne_of hp s03 h4) (.cons ((d1.same s2).same s3) (.cons (d2.same s3) (.cons d3 .nil)))
/-! ### tables -/
def rowD (r : List Int) : PyData := .tuple (r.map PyData.int)
def tabD (t : List (List Int)) : PyData := .tuple (t.map rowD)
def cellT (t : List (List Int)) (a b : Nat) : Int := (t.getD a []).getD b 0
def putT (t : List (List Int)) (a b : Nat) : Nat := (cellT t a b).toNat
structure Tab (m : Nat) (t : List (List Int)) : Prop where
  len : t.length = m
  row : ∀ r ∈ t, r.length = m
  cell : ∀ r ∈ t, ∀ c ∈ r, 0 ≤ c ∧ c < m
theorem Tab.get {m : Nat} {t : List (List Int)} (h : Tab m t) {a b : Nat} (ha : a < m) (hb : b < m) : ∃ r, t[a]? = some r ∧ r[b]? = some (cellT t a b) ∧ cellT t a b = (putT t a b : Nat) ∧ putT t a b < m := by
  have ha' : a < t.length := by rw [h.len]; exact ha
  have hr := List.getElem_mem ha'
  have hb' : b < t[a].length := by rw [h.row _ hr]; exact hb
  have e : cellT t a b = t[a][b] := by
    unfold cellT
    rw [List.getD_eq_getElem?_getD (l := t), List.getElem?_eq_getElem ha', Option.getD_some, List.getD_eq_getElem?_getD, List.getElem?_eq_getElem hb', Option.getD_some]
  have hc := h.cell _ hr _ (List.getElem_mem hb')
  refine ⟨t[a], List.getElem?_eq_getElem ha', by rw [e]; exact List.getElem?_eq_getElem hb', ?_, ?_⟩
  · unfold putT
    rw [e]
    omega
  · unfold putT
    rw [e]
    omega
theorem row_parts {H : Hp} {p : Addr} {v : V} {r : List Int} (h : Dat H p v (rowD r)) : ∃ a, v = .ref a ∧ H a = some (.tup (r.map V.int)) ∧ a ≠ p := by
  obtain ⟨a, ys, rfl, ha, np, hs⟩ := h.isTup
  rw [dats_ints hs] at ha
  exact ⟨a, rfl, ha, np⟩
theorem tab_parts {H : Hp} {p : Addr} {v : V} {m : Nat} {t : List (List Int)} (h : Dat H p v (tabD t)) (T : Tab m t) : ∃ ta xs, v = .ref ta ∧ H ta = some (.tup xs) ∧ xs.length = m ∧ Dats H p xs (t.map rowD) ∧
    ∀ a b, a < m → b < m → ∃ ra ys, xs[a]? = some (.ref ra) ∧ H ra = some (.tup ys) ∧ ys[b]? = some (.int (putT t a b : Nat)) ∧ putT t a b < m := by
  obtain ⟨ta, xs, rfl, ha, np, hs⟩ := h.isTup
  refine ⟨ta, xs, rfl, ha, by rw [hs.1, List.length_map, T.len], hs, fun a b hA hB => ?_⟩
  obtain ⟨r, e1, e2, e3, e4⟩ := T.get hA hB
  obtain ⟨y, ey, ed⟩ := hs.back (i := a) (d := rowD r) (by rw [List.getElem?_map, e1]; rfl)
  obtain ⟨ra, rfl, hra, _⟩ := row_parts ed
  exact ⟨ra, _, ey, hra, by rw [List.getElem?_map, e2, e3]; rfl, e4⟩
theorem atI_of {xs : List V} {i : Int} {v : V} (h0 : 0 ≤ i) (h : xs[i.toNat]? = some v) : atI xs i = some v := by
  have e := atI_nat h
  rw [Int.toNat_of_nonneg h0] at e
  exact e
def valT (t : List (List Int)) (x : Nat × Nat × Nat) : Nat := putT t (putT t x.1 x.2.1) x.2.2
def semi (t : List (List Int)) : Bool := (thr t.length).all fun x => decide (valT t (x.1, x.2.1, x.2.2) = valT t (x.1, x.2.2, x.2.1)) && decide (valT t (x.1, x.2.2, x.2.1) = valT t (x.2.1, x.2.2, x.1))
theorem rowC_mem {a b n : Nat} {x : Nat × Nat × Nat} (h : x ∈ rowC a b n) : x.1 = a ∧ x.2.1 = b ∧ b ≤ x.2.2 ∧ x.2.2 < b + n := by
  unfold rowC at h
  obtain ⟨k, hk, rfl⟩ := List.mem_map.mp h
  have := List.mem_range.mp hk
  exact ⟨rfl, rfl, Nat.le_add_right _ _, by show b + k < b + n; omega⟩
theorem thr_mem {m : Nat} {x : Nat × Nat × Nat} (h : x ∈ thr m) : x.1 < m ∧ x.2.1 < m ∧ x.2.2 < m := by
  unfold thr thrN at h
  obtain ⟨a, ha, h⟩ := List.mem_flatMap.mp h
  unfold rowB at h
  obtain ⟨j, hj, h⟩ := List.mem_flatMap.mp h
  obtain ⟨h1, h2, h3, h4⟩ := rowC_mem h
  have := List.mem_range.mp ha
  have := List.mem_range.mp hj
  omega
def spSemi : Sp := fun vs H Q _ => ∃ (tv : V) (p : Addr) (u : HO) (m : Nat) (t : List (List Int)), vs = [tv] ∧ H p = some u ∧ Dat H p tv (tabD t) ∧ Tab m t ∧ m ≤ 6 ∧ ∀ H', Same H H' → Q (.bl (semi t)) H'
theorem ok_is_semigroup (D : Df K mg "is_semigroup" s_is_semigroup ["table"]) (T : Nms mg) (c_threes : CallOk P w K mg base CX0 1 "threes" ["m"] spThrees) (c_orders : CallOk P w K mg base CX0 1 "orders" ["three"] spOrders) : CallOk P w K mg base CX0 2 "is_semigroup" ["table"] spSemi := by
  refine df_ok D sc_is_semigroup (fun vs H Q E h => ?_) (fun f cdv A outer s H vs Q E hr h => ?_)
  · obtain ⟨tv, p, u, m, t, rfl, _⟩ := h
    rfl
  · obtain ⟨tv, p, u, m, t, rfl, hp, hd, hT, hm, k⟩ := h
    have nd := sc_is_semigroup.nd
    obtain ⟨ta, xs, rfl, hta, hxl, hxs, hget⟩ := tab_parts hd hT
    refine ⟨_, (pss_cons (ps_for PassesOwn.never rfl (pi_list (pe_cc c_threes (hr.mono (by omega)) (pa_cons (pe_callB (r := rLenS K) call_lenS (by rfl) T.n_len (by decide +kernel) (pa_cons (pv 0) pa_nil)) pa_nil))) (pg_name (i := 1) nd rfl (Or.inl rfl)) (pss_cons (ps_setLc (i := 2) (own := [("a", 3), ("b", 4), ("c", 5)]) (g := (gTup K 3 (gCons (gName 3) (gCons (gName 4) (gCons (gName 5) gNil))))) (tt := tYes) (by rfl) nd rfl rfl (sw_true rfl rfl rfl (by decide +kernel)) (pi_tup (pe_cc c_orders (hr.mono (by omega)) (pa_cons (pv 1) pa_nil))) (blkOk_by (own := [("a", 3), ("b", 4), ("c", 5)]) (N := N_is_semigroup) (sc := defScope s_is_semigroup) (by decide +kernel)) (fun _ _ _ _ _ => (pg_tup rfl (pgs_cons (pg_name (i := 3) nd rfl (Or.inl rfl)) (pgs_cons (pg_name (i := 4) nd rfl (Or.inl rfl)) (pgs_cons (pg_name (i := 5) nd rfl (Or.inl rfl)) pgs_nil))))) (fun _ _ _ _ _ => pts_nil) (fun _ _ _ _ _ => (pe_ix (r := rIxT K) ix_tup (pe_ix (r := rIxT K) ix_tup (pv 0) (pe_ix (r := rIxT K) ix_tup (pe_ix (r := rIxT K) ix_tup (pv 0) (pv 3) (fun _ _ => rfl)) (pv 4) (fun _ _ => rfl)) (fun _ _ => rfl)) (pv 5) (fun _ _ => rfl))))
      (pss_one (ps_if (pt_not (pt_chain op_eq op_eq (pe_ix (r := rIxL K) ix_list (pv 2) pe_int (fun _ _ => rfl)) (pe_ix (r := rIxL K) ix_list (pv 2) pe_int (fun _ _ => rfl)) (pe_ix (r := rIxL K) ix_list (pv 2) pe_int (fun _ _ => rfl)))) (pss_one (ps_ret pe_bl)) pss_nil))))
      (pss_one (ps_ret pe_bl))), ?_⟩
    walk_at "op"
    walk_at "st"
    refine ⟨_, _, rfl, .inr (SqT.of hta), ?_⟩
    rw [hxl]
    refine ⟨m, p, u, rfl, hm, hp, fun q ws G hq hq' hW sG => ?_⟩
    refine ⟨q, rfl, ⟨_, SqL.of hq'⟩, ?_⟩
    refine fL (xs := ws) (fun i σ G1 => Same G G1 ∧ (∃ u1 u2 u3 u4 u5, σ = [some (.ref ta), u1, u2, u3, u4, u5]) ∧ ((thr m).take i).all (fun x => decide (valT t (x.1, x.2.1, x.2.2) = valT t (x.1, x.2.2, x.2.1)) && decide (valT t (x.1, x.2.2, x.2.1) = valT t (x.2.1, x.2.2, x.1))) = true)
      ⟨fun _ _ z => z, ⟨_, _, _, _, _, rfl⟩, rfl⟩ (fun i σ G1 _ h1 => SqL.of (h1.1 _ _ hq')) ?_ ?_
    · rintro i x σ G1 hi ⟨s1, ⟨u1, u2, u3, u4, u5, rfl⟩, hall⟩
      obtain ⟨d, hd', hde⟩ := hW.at hi
      obtain ⟨y, hy, rfl⟩ := List.mem_map.mp (List.mem_of_getElem? hd')
      have hym := thr_mem hy
      walk_at "op"
      walk_at "st"
      have sH1 := sG.trans s1
      refine ⟨x, p, u, y, rfl, sH1 _ _ hp, hde.same s1, fun v G2 hv s2 => ?_⟩
      obtain ⟨ov, os, rfl, hos, _, hds⟩ := hv.isTup
      refine ⟨ov, rfl, ⟨_, SqT.of hos⟩, fun B hB => ?_⟩
      have hl3 : os.length = 3 := by rw [hds.1]; rfl
      refine lI walk_tup (fun j G3 => Same G2 G3 ∧ G3 B = some (.lst (((ords y).map fun z => V.int (valT t z : Nat)).take j))) ⟨same_new hB, upd_same⟩ (fun j G3 _ ⟨e, _⟩ => SqT.of (e _ _ hos)) ?_ ?_
      · rintro j x' _ G3 hj ⟨s3, hB3⟩ ⟨rfl, hxj⟩
        obtain ⟨e, he, hz⟩ := hds.at hxj
        rw [List.getElem?_map] at he
        cases ez : (ords y)[j]? with
        | none => rw [ez] at he; cases he
        | some z =>
          rw [ez] at he
          cases he
          have hzm : z.1 < m ∧ z.2.1 < m ∧ z.2.2 < m := by
            have q := List.mem_of_getElem? ez
            unfold ords at q
            simp only [List.mem_cons, List.not_mem_nil, or_false] at q
            rcases q with rfl | rfl | rfl <;> simp [hym]
          obtain ⟨tz, rfl, htz, _⟩ := tri_parts hz
          have sH3 := (sH1.trans s2).trans s3
          obtain ⟨r1, y1, g1, g2, g3, g4⟩ := hget z.1 z.2.1 hzm.1 hzm.2.1
          obtain ⟨r2, y2, g5, g6, g7, g8⟩ := hget (putT t z.1 z.2.1) z.2.2 g4 hzm.2.2
          walk_at "op"
          refine ⟨tz, _, rfl, SqT.of (s3 _ _ htz), rfl, _, _, rfl, _, _, rfl, _, _, rfl, rfl, ?_⟩
          refine ⟨rfl, ?_⟩
          walk_at "st"
          refine ⟨ta, xs, _, _, rfl, rfl, SqT.of (sH3 _ _ hta), atI_nat g1, _, rfl, r1, y1, _, _, rfl, rfl, SqT.of (sH3 _ _ g2), atI_nat g3, ta, xs, _, _, rfl, rfl, SqT.of (sH3 _ _ hta), atI_nat g5, _, rfl, r2, y2, _, _, rfl, rfl, SqT.of (sH3 _ _ g6), atI_nat g7, ?_⟩
          refine ⟨_, hB3, small1000 (by rw [List.length_take]; omega), sameOff s3 hB, ?_⟩
          rw [upd_same, List.take_add_one, List.getElem?_map, ez]
          rfl
      · rintro G3 ⟨s3, hB3⟩
        rw [hl3, show ((ords y).map fun z => V.int (valT t z : Nat)).take 3 = [.int (valT t (y.1, y.2.1, y.2.2) : Nat), .int (valT t (y.1, y.2.2, y.2.1) : Nat), .int (valT t (y.2.1, y.2.2, y.1) : Nat)] from rfl] at hB3
        walk_at "op"
        walk_at "st"
        have sH3 := (sH1.trans s2).trans s3
        have bad : (decide (valT t (y.1, y.2.1, y.2.2) = valT t (y.1, y.2.2, y.2.1)) && decide (valT t (y.1, y.2.2, y.2.1) = valT t (y.2.1, y.2.2, y.1))) = false → Q (.bl false) G3 := fun z => by
          have q := k G3 sH3
          have e : semi t = false := by
            unfold semi
            rw [hT.len, List.all_eq_false]
            exact ⟨y, hy, by rw [z]; decide⟩
          rw [e] at q
          exact q
        refine ite2 (fun c0 => ?_) (fun c0 => ?_)
        · have e1 : valT t (y.1, y.2.1, y.2.2) = valT t (y.1, y.2.2, y.2.1) := by
            have z := of_decide_eq_true c0
            injection z with z
            exact Int.ofNat.inj z
          refine ⟨_, rfl, B, _, 2, _, rfl, rfl, SqL.of hB3, rfl, rfl, _, rfl, ?_⟩
          by_cases e2 : valT t (y.1, y.2.2, y.2.1) = valT t (y.2.1, y.2.2, y.1)
          · rw [show decide (V.int (valT t (y.1, y.2.2, y.2.1) : Nat) = V.int (valT t (y.2.1, y.2.2, y.1) : Nat)) = true from by rw [e2]; exact decide_eq_true rfl]
            refine iteF ⟨(s1.trans s2).trans s3, ⟨_, _, _, _, _, rfl⟩, ?_⟩
            obtain ⟨hi1, hi2⟩ := List.getElem?_eq_some_iff.mp hd'
            rw [List.length_map] at hi1
            have ey : (thr m)[i]? = some y := by
              rw [List.getElem_map] at hi2
              rw [List.getElem?_eq_getElem hi1]
              have : ∀ a b, triD a = triD b → a = b := fun a b h => by
                unfold triD at h
                injection h with h
                injection h with h1 h
                injection h with h2 h
                injection h with h3 h
                injection h1 with h1
                injection h2 with h2
                injection h3 with h3
                obtain ⟨a1, a2, a3⟩ := a
                obtain ⟨b1, b2, b3⟩ := b
                rw [show a1 = b1 from Int.ofNat.inj h1, show a2 = b2 from Int.ofNat.inj h2, show a3 = b3 from Int.ofNat.inj h3]
              rw [this _ _ hi2]
            rw [List.take_add_one, ey, List.all_append, hall]
            simp [e1, e2]
          · rw [show decide (V.int (valT t (y.1, y.2.2, y.2.1) : Nat) = V.int (valT t (y.2.1, y.2.2, y.1) : Nat)) = false from decide_eq_false fun z => e2 (by injection z with z; exact Int.ofNat.inj z)]
            exact iteT (bad (by rw [decide_eq_false e2, Bool.and_false]))
        · refine ⟨_, rfl, iteT (bad ?_)⟩
          rw [decide_eq_false fun e => c0 (decide_eq_true (by rw [e])), Bool.false_and]
    · rintro σ G1 ⟨s1, ⟨u1, u2, u3, u4, u5, rfl⟩, hall⟩
      walk_at "op"
      have q := k G1 (sG.trans s1)
      rw [show semi t = true from by
        unfold semi
        rw [hT.len]
        rw [show ws.length = (thr m).length from by rw [hW.1, List.length_map], List.take_length] at hall
        exact hall] at q
      exact q
end
end Fm
end FS2
section FFmZipM
set_option Elab.async false
set_option linter.all false
set_option maxRecDepth 100000
set_option maxHeartbeats 4000000
namespace Fm
open PySem PySem.Spec PyProof.Rows L2
/-! ### zip(a list, a tuple) -/
def ItzM (K : PySem.W.Frag) (a b : Addr) : It :=
  ⟨fun i H => ∃ (xs ys : List V) (x y : V), SqL K H a xs ∧ SqT K H b ys ∧ xs[i]? = some x ∧ ys[i]? = some y,
    fun i H v H' => ∃ (T : Addr) (x y : V), v = .ref T ∧ H T = none ∧ H' = upd H T (.tup [x, y]) ∧ (∀ xs, SqL K H a xs → xs[i]? = some x) ∧ ∀ ys, SqT K H b ys → ys[i]? = some y,
    fun i H => ∃ xs ys : List V, SqL K H a xs ∧ SqT K H b ys ∧ i ≤ xs.length ∧ i ≤ ys.length ∧ (i = xs.length ∨ i = ys.length)⟩
abbrev h1M (h : Heap) (a : Addr) : Heap := h.push { cls := .type "list_iterator", data := .fields #[.ref a, .int 0 0] }
abbrev h2M (h : Heap) (a b : Addr) : Heap := (h1M h a).push { cls := .type "tuple_iterator", data := .fields #[.ref b, .int 0 0] }
abbrev h3M (h : Heap) (a b : Addr) : Heap := (h2M h a b).push { cls := .type "tuple", data := .seq #[.ref h.objs.size, .ref (h1M h a).objs.size] }
abbrev h4M (h : Heap) (a b : Addr) : Heap := (h3M h a b).push { cls := .type "tuple", data := .seq #[.none, .none] }
abbrev h5M (h : Heap) (a b : Addr) : Heap := (h4M h a b).push { cls := .type "zip", data := .fields #[.none, .bool false, .bool false, .ref (h2M h a b).objs.size, .ref (h3M h a b).objs.size] }
theorem meetsM (a b : Addr) (xs ys : Array Value) : Meets (Builtin.«zip.__new__» ⟨[.type "zip", .ref a, .ref b], []⟩) (fun _ R s => s.heap.IsList a xs ∧ s.heap.IsTuple b ys ∧ R (.ok (.ret (.ref (h4M s.heap a b).objs.size))) { s with heap := h5M s.heap a b }) :=
  .of_wp fun prog w A R s h => by
    obtain ⟨hp, g, d, tk, os⟩ := s
    obtain ⟨ha, hb, h⟩ := h
    have sz := sub_zip
    have hA : Heap.IsList (Shared.heap ⟨hp, g, d, tk, os⟩) a xs := ha
    have hB : Heap.IsTuple (Shared.heap ⟨hp.push { cls := .type "list_iterator", data := .fields #[.ref a, .int 0 0] }, g, d, tk, os⟩) b ys := Heap.IsTuple.push hb _
    wp_walk using wpAny_pyIter_list hA, wpAny_pyIter_tuple hB
    exact ⟨_, rfl, h⟩
theorem callM {prog : Program} {w : World} {A : Around} {E : Value → Shared → Prop} {s : Shared} {a b : Addr} {xs ys : Array Value} {Q : Value → Shared → Prop} (ha : s.heap.IsList a xs) (hb : s.heap.IsTuple b ys)
    (h : ∀ h', IsZip h' (s.heap.objs.size + 4) (s.heap.objs.size + 2) (s.heap.objs.size + 3) .none → IsPair h' (s.heap.objs.size + 2) (.ref s.heap.objs.size) (.ref (s.heap.objs.size + 1)) → IsPair h' (s.heap.objs.size + 3) .none .none →
      h'.IsListIter s.heap.objs.size a 0 → h'.IsTupleIter (s.heap.objs.size + 1) b 0 → (∀ c o, s.heap.get? c = some o → h'.get? c = some o) → Q (.ref (s.heap.objs.size + 4)) { s with heap := h' }) : wpAny (model prog w) A (call (.type "zip") [.ref a, .ref b]) Q E s := by
  refine callType_new F.called_zip (by decide) (F.typeCall_zip_2 _ _) (F.newCall_zip_2 _ _) (fun obj => F.args_object_init_3 obj _ _) F.entry_zip_new (meetsM a b xs ys) ⟨ha, hb, ?_⟩
  have e1 : (h1M s.heap a).objs.size = s.heap.objs.size + 1 := Heap.size_push ..
  have e2 : (h2M s.heap a b).objs.size = s.heap.objs.size + 2 := by rw [Heap.size_push, e1]
  have e3 : (h3M s.heap a b).objs.size = s.heap.objs.size + 3 := by rw [Heap.size_push, e2]
  have e4 : (h4M s.heap a b).objs.size = s.heap.objs.size + 4 := by rw [Heap.size_push, e3]
  have f5 : (h5M s.heap a b).get? (h4M s.heap a b).objs.size = some _ := Heap.get?_push_size _ rfl
  have f4 : (h5M s.heap a b).get? (h3M s.heap a b).objs.size = some _ := Heap.get?_push_of_some _ (Heap.get?_push_size _ rfl)
  have f3 : (h5M s.heap a b).get? (h2M s.heap a b).objs.size = some _ := Heap.get?_push_of_some _ (Heap.get?_push_of_some _ (Heap.get?_push_size _ rfl))
  have f2 : (h5M s.heap a b).get? (h1M s.heap a).objs.size = some _ := Heap.get?_push_of_some _ (Heap.get?_push_of_some _ (Heap.get?_push_of_some _ (Heap.get?_push_size _ rfl)))
  have f1 : (h5M s.heap a b).get? s.heap.objs.size = some _ := Heap.get?_push_of_some _ (Heap.get?_push_of_some _ (Heap.get?_push_of_some _ (Heap.get?_push_of_some _ (Heap.get?_push_size _ rfl))))
  rw [e2, e3, e4] at f5
  rw [e3] at f4
  rw [e1, e2] at f3
  rw [e1] at f2
  show _ ∧ _
  rw [e4]
  exact ⟨⟨_, f5, rfl⟩, h _ f5 f3 f4 ⟨_, f1, rfl, rfl⟩ ⟨_, f2, rfl, rfl⟩ fun c o x => Heap.get?_push_of_some _ (Heap.get?_push_of_some _ (Heap.get?_push_of_some _ (Heap.get?_push_of_some _ (Heap.get?_push_of_some _ x))))⟩
theorem turn_zipM {P : Program} {w : World} {K : PySem.W.Frag} {elts : List Expr} {kk : Nat} {tpos : Pos} {a b z TI TO i1 i2 : Addr} (D : ZipApart z TI TO i1 i2 a b) :
    Turn P w K (.Tuple elts kk tpos) (ItzM K a b) [z, TI, TO, i1, i2] z (fun i h => IsZip h z TI TO .none ∧ IsPair h TI (.ref i1) (.ref i2) ∧ (∃ x y, IsPair h TO x y) ∧ h.IsListIter i1 a i ∧ h.IsTupleIter i2 b i) := by
  have Sp : ZipSep2 z TI TO i1 i2 [i1, a] [i2, b] := ⟨D.TIz, D.TOz, D.TITO, D.TIi1, by simp, by simp [D.i1z.symm, D.l1z.symm], by simp [D.TOi1, D.l1TO.symm], D.TIi2, by simp, by simp [D.i2z.symm, D.l2z.symm], by simp [D.TOi2, D.l2TO.symm], by simp [D.i12, D.l2i1.symm], by simp [D.i12.symm, D.l1i2.symm]⟩
  exact {
    mem := by simp
    obj := fun i h st c hc => by
      obtain ⟨hz, hTI, ⟨x, y, hTO⟩, ⟨o1, e1, _, d1⟩, ⟨o2, e2, _, d2⟩⟩ := st
      simp only [List.mem_cons, List.not_mem_nil, or_false] at hc
      rcases hc with rfl | rfl | rfl | rfl | rfl
      · exact ⟨_, hz, fun v q => nomatch q⟩
      · exact ⟨_, hTI, fun v q => nomatch q⟩
      · exact ⟨_, hTO, fun v q => nomatch q⟩
      · exact ⟨o1, e1, fun v q => by rw [d1] at q; cases q⟩
      · exact ⟨o2, e2, fun v q => by rw [d2] at q; cases q⟩
    keep := fun i h h' st k => by
      obtain ⟨hz, hTI, ⟨x, y, hTO⟩, h1, h2⟩ := st
      exact ⟨k z (by simp) _ hz, k TI (by simp) _ hTI, ⟨x, y, k TO (by simp) _ hTO⟩, h1.at fun o q => k i1 (by simp) o q, h2.at fun o q => k i2 (by simp) o q⟩
    item := by
      intro X hP hw hK hc i pins s σ H E I hf st hg
      subst hP hw hK
      obtain ⟨hz, hTI, ⟨x0, y0, hTO⟩, h1, h2⟩ := st
      obtain ⟨xs, ys, x, y, qx, qy, hx, hy⟩ := hg
      obtain ⟨its, rv, pl, _⟩ := I.list qx
      obtain ⟨its2, rv2, ⟨o2, ho2, hc2, n2, hd2⟩, _⟩ := I.tuple qy
      have ht : s.heap.IsTuple b its2.toArray := ⟨o2, ho2, hc2, n2, hd2⟩
      obtain ⟨u, hu, ru⟩ := rv.get hx
      obtain ⟨u2, hu2, ru2⟩ := rv2.get hy
      have lt1 : i < its.toArray.size := by
        rw [List.size_toArray, ← rv.length]
        exact (List.getElem?_eq_some_iff.mp hx).1
      have lt2 : i < its2.toArray.size := by
        rw [List.size_toArray, ← rv2.length]
        exact (List.getElem?_eq_some_iff.mp hy).1
      have hzl : z < s.heap.objs.size := Heap.lt_size hz
      refine wpAny_pyNext_zipD2_item Sp (Draws.list (prog := X.prog) (w := X.w) (A := X.A.in1) (show X.A.in1.handled = none from I.ok.hd hc) i1 a D.l1i1 its.toArray) (Draws.tuple (prog := X.prog) (w := X.w) (A := X.A.in1) (show X.A.in1.handled = none from I.ok.hd hc) i2 b D.l2i2 its2.toArray)
        hz hTI hTO ⟨h1, pl.isList⟩ ⟨h2, ht⟩ lt1 lt2 fun v1 v2 h' tk e1 e2 hz' hTO' st1 st2 hnew hsz hk => ?_
      have ev1 : v1 = u := by
        have q : its.toArray[i]? = some u := by simpa using hu
        exact (Option.some.inj (q.symm.trans e1)).symm
      have ev2 : v2 = u2 := by
        have q : its2.toArray[i]? = some u2 := by simpa using hu2
        exact (Option.some.inj (q.symm.trans e2)).symm
      subst ev1 ev2
      refine ⟨_, rfl, wpAny_letOwnedTupleGo_zip (s := { s with heap := h', toks := tk }) hz' fun h3 hz3 sb => ?_⟩
      have hT3 : h3.get? s.heap.objs.size = some { cls := .type "tuple", data := .seq #[v1, v2] } := (sb.2 _ (Nat.ne_of_gt hzl)).trans hnew
      have new : ObjOk X.prog X.w (upd H s.heap.objs.size (.tup [x, y])) h3 s.heap.objs.size (.tup [x, y]) := ⟨show 2 ≤ sizeLine by decide, [v1, v2], .cons ru (.cons ru2 .nil), _, hT3, rfl, _, rfl⟩
      have old : ∀ c ob, c ∉ [z, TI, TO, i1, i2] → s.heap.get? c = some ob → h3.get? c = some ob := fun c ob hb q => by
        simp only [List.mem_cons, List.not_mem_nil, or_false, not_or] at hb
        exact (sb.2 c hb.1).trans (hk c ob hb.1 hb.2.2.1 hb.2.2.2.1 hb.2.2.2.2 q)
      have I1 := I.turnedNew (t' := tk) (ch := [z, TI, TO, i1, i2]) old hf (Nat.le_refl _) new
      refine ⟨.ref s.heap.objs.size, _, I1, rfl, ⟨_, x, y, rfl, I.hok.fresh (Nat.le_refl _), rfl, fun l hl => by rw [I.list_inj hl qx]; exact hx, fun l hl => by rw [I.tuple_inj hl qy]; exact hy⟩, ⟨hz3, ?_, ⟨_, _, (sb.2 _ D.TOz).trans hTO'⟩, st1.1.at fun ob q => (sb.2 i1 D.i1z).trans q, st2.1.at fun ob q => (sb.2 i2 D.i2z).trans q⟩, fun c hcm => ?_⟩
      · exact (sb.2 _ D.TIz).trans (hk _ _ D.TIz D.TITO D.TIi1 D.TIi2 hTI)
      · have lt : c < s.heap.objs.size := by
          have q := hcm
          simp only [List.mem_cons, List.not_mem_nil, or_false] at q
          rcases q with rfl | rfl | rfl | rfl | rfl
          · exact hzl
          · exact Heap.lt_size hTI
          · exact Heap.lt_size hTO
          · obtain ⟨_, q, _⟩ := h1; exact Heap.lt_size q
          · obtain ⟨_, q, _⟩ := h2; exact Heap.lt_size q
        rw [upd_ne (Nat.ne_of_lt lt)]
        exact (hf c hcm).1
    done := by
      intro X hP hw hK hc i pins s σ H E I hf st hg
      subst hP hw hK
      obtain ⟨hz, hTI, ⟨x0, y0, hTO⟩, h1, h2⟩ := st
      obtain ⟨xs, ys, qx, qy, l1, l2, hend⟩ := hg
      obtain ⟨its, rv, pl, _⟩ := I.list qx
      obtain ⟨its2, rv2, ⟨o2, ho2, hc2, n2, hd2⟩, _⟩ := I.tuple qy
      have ht : s.heap.IsTuple b its2.toArray := ⟨o2, ho2, hc2, n2, hd2⟩
      have z1 : its.toArray.size = xs.length := by rw [List.size_toArray, rv.length]
      have z2 : its2.toArray.size = ys.length := by rw [List.size_toArray, rv2.length]
      refine wpAny_pyNext_zipD2_end Sp (Draws.list (prog := X.prog) (w := X.w) (A := X.A.in1) (show X.A.in1.handled = none from I.ok.hd hc) i1 a D.l1i1 its.toArray) (Draws.tuple (prog := X.prog) (w := X.w) (A := X.A.in1) (show X.A.in1.handled = none from I.ok.hd hc) i2 b D.l2i2 its2.toArray)
        hz hTI hTO ⟨h1, pl.isList⟩ ⟨h2, ht⟩ (by omega) (by omega) (by omega) fun h' tk hk => ⟨rfl, I.turnedL (t' := tk) (ch := [z, TI, TO, i1, i2]) (fun c o hb q => ?_) hf⟩
      simp only [List.mem_cons, List.not_mem_nil, or_false, not_or] at hb
      exact hk c o hb.1 hb.2.2.1 hb.2.2.2.1 hb.2.2.2.2 q
    self := fun A i s Q E st h => wpAny_pyIter_zip st.1 h }
def iZipM (K : PySem.W.Frag) (ta : TA) : TI := fun σ H R => ta σ H fun vs H1 => ∃ (a b : Addr) (xs ys : List V), vs = [.ref a, .ref b] ∧ SqL K H1 a xs ∧ SqT K H1 b ys ∧ R (ItzM K a b) H1
theorem pi_zipM {X : Cx} {e e2 : Expr} {ta : TA} {p pos tpos : Pos} {elts : List Expr} {kk : Nat} (hg : Gl X "zip") (hm : X.mg "zip" = none) (ha : PA X [e, e2] ta)
    (hs : starEach [e, e2] X.env = (false, eval e X.env) :: starEach [e2] X.env := by rfl) (hpl : (backTo pos (starEach [e2] X.env)).any (·.1) = false := by rfl) : PI X (.Tuple elts kk tpos) (.Call (.Name "zip" p) [e, e2] [] pos) (iZipM X.K ta) := by
  refine ⟨fun pins s σ H R I h => Call_ (ld_blt I hg hm PyProof.Rows.boot_zip (PyProof.Rows.callWith_type1 (thn (ha.run pos pins s σ H _ I h) fun us s1 ⟨vs, H1, I1, r1, a, b, xs, ys, ex, qx, qy, q⟩ => ?_) hs hpl))⟩
  subst ex
  obtain ⟨w1, w2, rfl, ra, rb⟩ := vals2 r1
  cases ra
  cases rb
  obtain ⟨its, rv, pl, _⟩ := I1.list qx
  obtain ⟨its2, rv2, ⟨o2, ho2, hc2, n2, hd2⟩, _⟩ := I1.tuple qy
  have ht : s1.heap.IsTuple b its2.toArray := ⟨o2, ho2, hc2, n2, hd2⟩
  refine callM pl.isList ht fun h' hz hTI hTO h1 h2 hk => wpAny_pyIter_zip hz ?_
  have I2 : Inv X pins σ H1 { s1 with heap := h' } := I1.kept (t' := s1.toks) hk
  refine ⟨s1.heap.objs.size + 4, [s1.heap.objs.size + 4, s1.heap.objs.size + 2, s1.heap.objs.size + 3, s1.heap.objs.size, s1.heap.objs.size + 1], _, _, H1, rfl, I2, turn_zipM (PySem.W.ktu_apart s1.heap.objs.size a b pl.lt (Heap.lt_size ho2)), ⟨hz, hTI, ⟨_, _, hTO⟩, h1, h2⟩, fun c hc => ?_, q⟩
  have le : s1.heap.objs.size ≤ c := by
    simp only [List.mem_cons, List.not_mem_nil, or_false] at hc
    rcases hc with rfl | rfl | rfl | rfl | rfl
    · exact Nat.le_add_right _ _
    · exact Nat.le_add_right _ _
    · exact Nat.le_add_right _ _
    · exact Nat.le_refl _
    · exact Nat.le_add_right _ _
  exact I1.fpOk le (I1.hok.fresh le)
theorem walk_zipM {K : PySem.W.Frag} {a b : Addr} {xs ys : List V} (hl : xs.length = ys.length) : Walk (ItzM K a b) xs.length (fun H => SqL K H a xs ∧ SqT K H b ys) (YPair (fun i => xs[i]?) (fun i => ys[i]?)) := by
  refine ⟨fun i H hi q => ⟨xs, ys, xs[i], ys[i]'(by omega), q.1, q.2, List.getElem?_eq_getElem hi, List.getElem?_eq_getElem _⟩, fun H q => ⟨xs, ys, q.1, q.2, Nat.le_refl _, by omega, .inl rfl⟩, fun i H v H' hi q y => ?_⟩
  obtain ⟨T, x, y, h1, h2, h3, h4, h5⟩ := y
  exact ⟨T, x, y, h1, h2, h3, h4 xs q.1, h5 ys q.2⟩
end Fm
end FFmZipM
section FS3
set_option Elab.async false
set_option linter.all false
set_option maxRecDepth 100000
set_option maxHeartbeats 4000000
local macro_rules | `(tactic| walk_at "ne") => `(tactic| first | assumption | (apply Ne.symm; assumption) | exact L2.ne_of_none (by assumption) (by assumption) | exact Ne.symm (L2.ne_of_none (by assumption) (by assumption)))
local macro_rules | `(tactic| walk_at "hl") => `(tactic| first | assumption | exact L2.upd_same | (refine Eq.trans (L2.upd_ne (by walk_at "ne")) ?_; walk_at "hl"))
local macro_rules | `(tactic| walk_at "sd") => `(tactic| first | (with_reducible show (_ : Int) < _; omega) | (with_reducible show (_ : Int) ≤ _; omega) | assumption | decide | exact ⟨by assumption, by assumption⟩ | exact ⟨by decide, by decide⟩ | exact Or.inr ⟨by decide, by decide⟩ | exact Or.inl ⟨by omega, by omega⟩ | rfl)
local macro_rules | `(tactic| walk_at "st1") => `(tactic| first
  | refine ⟨_, rfl, ?_⟩
  | refine ⟨_, _, rfl, rfl, ?_⟩
  | refine ⟨_, _, rfl, ?_⟩
  | (refine ⟨_, _, _, _, rfl, rfl, L2.SqL.of (by walk_at "hl"), rfl, ?_⟩)
  | (refine ⟨_, _, _, _, rfl, rfl, L2.SqT.of (by walk_at "hl"), rfl, ?_⟩)
  | (refine ⟨_, _, _, _, rfl, rfl, (by walk_at "hl"), rfl, ?_⟩)
  | (refine And.intro (by walk_at "sd") ?_)
  )
local macro_rules | `(tactic| walk_at "st") => `(tactic| repeat walk_at "st1")
local macro_rules | `(tactic| walk_at "op") => `(tactic| try dsimp only [L2.tSeq, L2.tAsg, L2.tOp, L2.tVar, L2.tC, L2.gSub, L2.rI, L2.rI0, L2.rIxL, L2.rIxT, L2.rSetL, L2.tIfS, L2.tTest, L2.tRet, L2.gName, L2.tNext, L2.tAnd, L2.tOr, L2.tNot, L2.tAndV, L2.tOrV, L2.tNotV, L2.tB, L2.tCB, L2.tCons, L2.tNil, L2.tCall, L2.tTup, L2.tLst, L2.tChain, L2.tUn, L2.tPar, L2.tDrop, L2.tIf, L2.tBM, L2.tBM0, L2.rAppend, L2.rCat, L2.rIsi, L2.rIsiT, L2.gTup, L2.gCons, L2.gNil, Fm.tFor_eq, Fm.tLc_eq, Fm.tLc2_eq, L2.iTup, L2.iList, L2.iRng1, L2.iRng2, L2.tSl, L2.tPart, L2.tNoPart, L2.rSlL, L2.rEq, L2.rNe, L2.rU, L2.rEqD, L2.rNeD, Fm.tRevT, Fm.rLenS, Fm.rTupOf, Fm.rLstOf, L2.tDNewK, L2.tCallS, L2.WE, Fm.wKeep, Fm.rIsK, Fm.rIsKT, List.cons_append, List.nil_append, L2.tYes])
namespace Fm
open PySem PySem.Spec PyProof.Rows L2
abbrev s_filled_table : Stmt := top 13
abbrev N_filled_table : List Str := ["m", "places", "filling", "rows", "_", "a", "b", "number", "row"]
theorem sc_filled_table : FnScope N_filled_table ["m", "places", "filling"] (defScope s_filled_table) := ⟨rfl, rfl, rfl, by decide +kernel, rfl, by decide +kernel, by decide +kernel⟩
section
variable {P : Program} {w : World} {K : PySem.W.Frag} {mg : Str → Option Value} {base : Heap}
def rowL (r : List Int) : PyData := .list (r.map PyData.int)
structure LL (H : Hp) (p L : Addr) (ws : List V) (fl : List (List Int)) : Prop where
  at_ : H L = some (.lst ws)
  len : ws.length = fl.length
  row : ∀ (j : Nat) (c : List Int), fl[j]? = some c → ∃ b : Addr, ws[j]? = some (V.ref b) ∧ H b = some (.lst (c.map V.int)) ∧ b ≠ L ∧ b ≠ p
theorem LL.nil {H : Hp} {p L : Addr} (h : H L = some (.lst [])) : LL H p L [] [] := ⟨h, rfl, fun j c e => by cases e⟩
theorem LL.same {H H' : Hp} {p L : Addr} {ws : List V} {fl : List (List Int)} (h : LL H p L ws fl) (e : Same H H') : LL H' p L ws fl :=
  ⟨e _ _ h.at_, h.len, fun j c q => by
    obtain ⟨b, e1, e2, e3⟩ := h.row j c q
    exact ⟨b, e1, e _ _ e2, e3⟩⟩
theorem LL.snoc {H : Hp} {p L b : Addr} {ws : List V} {fl : List (List Int)} {c : List Int} (h : LL H p L ws fl) (hb : H b = some (.lst (c.map V.int))) (n1 : b ≠ L) (n2 : b ≠ p) : LL (upd H L (.lst (ws ++ [.ref b]))) p L (ws ++ [.ref b]) (fl ++ [c]) := by
  refine ⟨upd_same, by rw [List.length_append, List.length_append, h.len]; rfl, fun j d q => ?_⟩
  by_cases hj : j < fl.length
  · rw [List.getElem?_append_left hj] at q
    obtain ⟨b', e1, e2, e3, e4⟩ := h.row j d q
    exact ⟨b', by rw [List.getElem?_append_left (by rw [h.len]; exact hj)]; exact e1, by rw [upd_ne e3]; exact e2, e3, e4⟩
  · rw [List.getElem?_append_right (by omega)] at q
    cases z : j - fl.length with
    | zero =>
      rw [z] at q
      cases q
      exact ⟨b, by rw [List.getElem?_append_right (by rw [h.len]; omega), h.len, z]; rfl, by rw [upd_ne n1]; exact hb, n1, n2⟩
    | succ k =>
      rw [z] at q
      cases q
theorem LL.dat {H : Hp} {p L : Addr} {ws : List V} {fl : List (List Int)} (h : LL H p L ws fl) (n : L ≠ p) : Dat H p (.ref L) (.list (fl.map rowL)) := by
  refine .lst h.at_ n (by rw [h.len, List.length_map]) fun i x d e1 e2 => ?_
  rw [List.getElem?_map] at e2
  cases q : fl[i]? with
  | none => rw [q] at e2; cases e2
  | some c =>
    rw [q] at e2
    cases e2
    obtain ⟨b, h1, h2, _, h4⟩ := h.row i c q
    rw [h1] at e1
    cases e1
    exact .lst h2 h4 (by rw [List.length_map, List.length_map]) fun j x d a b => (Dats.ints (H := H) (p := p) c).2 j x d a b
theorem LL.set {H : Hp} {p L E : Addr} {ws : List V} {fl : List (List Int)} {c : List Int} {f : Nat} (h : LL H p L ws fl) (hb : H E = some (.lst (c.map V.int))) (n1 : E ≠ L) (n2 : E ≠ p) : LL (upd H L (.lst (ws.set f (.ref E)))) p L (ws.set f (.ref E)) (fl.set f c) := by
  refine ⟨upd_same, by rw [List.length_set, List.length_set, h.len], fun j d q => ?_⟩
  rw [List.getElem?_set] at q
  by_cases hj : f = j
  · subst hj
    rw [if_pos rfl] at q
    by_cases hl : f < fl.length
    · rw [if_pos hl] at q
      cases q
      exact ⟨E, by rw [List.getElem?_set_self (by rw [h.len]; exact hl)], by rw [upd_ne n1]; exact hb, n1, n2⟩
    · rw [if_neg hl] at q
      cases q
  · rw [if_neg hj] at q
    obtain ⟨b, e1, e2, e3, e4⟩ := h.row j d q
    exact ⟨b, by rw [List.getElem?_set_ne hj]; exact e1, by rw [upd_ne e3]; exact e2, e3, e4⟩
theorem LL.updRow {H : Hp} {p L E : Addr} {ws : List V} {fl : List (List Int)} {c : List Int} {f : Nat} (h : LL H p L ws fl) (hw : ws[f]? = some (V.ref E)) (inj : ∀ j, ws[j]? = some (V.ref E) → j = f) : LL (upd H E (.lst (c.map V.int))) p L ws (fl.set f c) := by
  have hf : f < fl.length := by
    rw [← h.len]
    exact (List.getElem?_eq_some_iff.mp hw).1
  obtain ⟨b, e1, e2, e3, e4⟩ := h.row f fl[f] (List.getElem?_eq_getElem hf)
  rw [hw] at e1
  cases e1
  refine ⟨by rw [upd_ne e3.symm]; exact h.at_, by rw [List.length_set, h.len], fun j d q => ?_⟩
  rw [List.getElem?_set] at q
  by_cases hj : f = j
  · subst hj
    rw [if_pos rfl, if_pos hf] at q
    cases q
    exact ⟨E, hw, upd_same, e3, e4⟩
  · rw [if_neg hj] at q
    obtain ⟨b, g1, g2, g3, g4⟩ := h.row j d q
    have nb : b ≠ E := fun z => by
      subst z
      exact hj (inj j g1).symm
    exact ⟨b, g1, by rw [upd_ne nb]; exact g2, g3, g4⟩
theorem LL.ext {H H' : Hp} {p L : Addr} {ws : List V} {fl : List (List Int)} (h : LL H p L ws fl) (e : Ext p H H') (nL : L ≠ p) : LL H' p L ws fl :=
  ⟨e _ _ h.at_ nL, h.len, fun j c q => by
    obtain ⟨b, e1, e2, e3, e4⟩ := h.row j c q
    exact ⟨b, e1, e _ _ e2 e4, e3, e4⟩⟩
def Inj (ws : List V) : Prop := ∀ (i1 i2 : Nat) (b : Addr), ws[i1]? = some (V.ref b) → ws[i2]? = some (V.ref b) → i1 = i2
def Fresh (H0 : Hp) (ws : List V) : Prop := ∀ (i : Nat) (b : Addr), ws[i]? = some (V.ref b) → H0 b = none
theorem snoc_get {ws : List V} {l b : Addr} {i : Nat} (e : (ws ++ [V.ref l])[i]? = some (V.ref b)) : ws[i]? = some (V.ref b) ∨ (i = ws.length ∧ b = l) := by
  by_cases hi : i < ws.length
  · rw [List.getElem?_append_left hi] at e
    exact .inl e
  · rw [List.getElem?_append_right (by omega)] at e
    cases z : i - ws.length with
    | zero =>
      rw [z] at e
      cases e
      exact .inr ⟨by omega, rfl⟩
    | succ w => rw [z] at e; cases e
theorem Inj.snoc {ws : List V} {l : Addr} (h : Inj ws) (n : ∀ (i : Nat) (b : Addr), ws[i]? = some (V.ref b) → b ≠ l) : Inj (ws ++ [V.ref l]) := fun i1 i2 b e1 e2 => by
  rcases snoc_get e1 with q1 | ⟨q1, q2⟩
  · rcases snoc_get e2 with r1 | ⟨r1, r2⟩
    · exact h i1 i2 b q1 r1
    · exact absurd r2 (n i1 b q1)
  · rcases snoc_get e2 with r1 | ⟨r1, r2⟩
    · exact absurd q2 (n i2 b r1)
    · rw [q1, r1]
theorem Fresh.snoc {H0 : Hp} {ws : List V} {l : Addr} (h : Fresh H0 ws) (hl : H0 l = none) : Fresh H0 (ws ++ [V.ref l]) := fun i b e => by
  rcases snoc_get e with q | ⟨_, q⟩
  · exact h i b q
  · rw [q]; exact hl
theorem LL.off {H : Hp} {p L l : Addr} {ws : List V} {fl : List (List Int)} (h : LL H p L ws fl) (hl : H l = none) : ∀ (i : Nat) (b : Addr), ws[i]? = some (V.ref b) → b ≠ l := fun i b e z => by
  obtain ⟨b', e1, e2, _⟩ := h.row i (fl[i]'(by rw [← h.len]; exact (List.getElem?_eq_some_iff.mp e).1)) (List.getElem?_eq_getElem _)
  rw [e] at e1
  cases e1
  subst z
  rw [hl] at e2
  cases e2
theorem small6 {n : Nat} (h : n ≤ 1000) : n ≤ sizeLine := Nat.le_of_lt (small1000 h)
def pairD (x : Nat × Nat) : PyData := .tuple [.int (x.1 : Nat), .int (x.2 : Nat)]
theorem pair_parts {H : Hp} {p : Addr} {v : V} {x : Nat × Nat} (h : Dat H p v (pairD x)) : ∃ a, v = .ref a ∧ H a = some (.tup [.int (x.1 : Nat), .int (x.2 : Nat)]) ∧ a ≠ p := by
  obtain ⟨a, ys, rfl, ha, np, hs⟩ := h.isTup
  have e : ys = [.int (x.1 : Nat), .int (x.2 : Nat)] := dats_ints (ns := [((x.1 : Nat) : Int), ((x.2 : Nat) : Int)]) hs
  rw [e] at ha
  exact ⟨a, rfl, ha, np⟩
def setC (t : List (List Int)) (a b : Nat) (x : Int) : List (List Int) := t.set a ((t.getD a []).set b x)
def fill1 (t : List (List Int)) (e : (Nat × Nat) × Int) : List (List Int) := setC (setC t e.1.1 e.1.2 e.2) e.1.2 e.1.1 e.2
def zeros (m : Nat) : List (List Int) := List.replicate m (List.replicate m 0)
def fillN (m : Nat) (l : List ((Nat × Nat) × Int)) : List (List Int) := l.foldl fill1 (zeros m)
/-- m rows of m whole numbers -/
def Sq (m : Nat) (t : List (List Int)) : Prop := t.length = m ∧ ∀ r ∈ t, r.length = m
theorem Sq.set {m : Nat} {t : List (List Int)} (h : Sq m t) (a b : Nat) (x : Int) : Sq m (setC t a b x) := by
  unfold setC
  refine ⟨by rw [List.length_set]; exact h.1, fun r hr => ?_⟩
  rcases List.mem_or_eq_of_mem_set hr with hr' | rfl
  · exact h.2 r hr'
  · rw [List.length_set]
    by_cases ha : a < t.length
    · rw [List.getD_eq_getElem?_getD, List.getElem?_eq_getElem ha]
      exact h.2 _ (List.getElem_mem ha)
    · rw [List.set_eq_of_length_le (by omega)] at hr
      have := h.2 _ hr
      rw [List.length_set] at this
      exact this
theorem Sq.fill {m : Nat} {t : List (List Int)} (h : Sq m t) (e : (Nat × Nat) × Int) : Sq m (fill1 t e) := (h.set _ _ _).set _ _ _
theorem sq_zeros (m : Nat) : Sq m (zeros m) := by
  unfold zeros
  refine ⟨List.length_replicate, fun r hr => ?_⟩
  rw [List.eq_of_mem_replicate hr, List.length_replicate]
theorem Sq.row {m : Nat} {t : List (List Int)} (h : Sq m t) {a : Nat} (ha : a < m) : ∃ c, t[a]? = some c ∧ c.length = m ∧ t.getD a [] = c := by
  have ha' : a < t.length := by rw [h.1]; exact ha
  exact ⟨t[a], List.getElem?_eq_getElem ha', h.2 _ (List.getElem_mem ha'), by rw [List.getD_eq_getElem?_getD, List.getElem?_eq_getElem ha']; rfl⟩
theorem rows_no (t : List (List Int)) : ∀ d ∈ t.map rowD, noList d = true := fun d hd => by
  obtain ⟨r, _, rfl⟩ := List.mem_map.mp hd
  refine noList_of fun e he => ?_
  obtain ⟨n, _, rfl⟩ := List.mem_map.mp he
  unfold noList
  rfl
theorem ixN_of {n k : Nat} (h : k < n) : ixN n (k : Int) = some k := by
  unfold ixN
  rw [if_pos (by omega), if_pos (by omega), Int.toNat_natCast]
theorem atI_nat {xs : List V} {j : Nat} {v : V} (h : xs[j]? = some v) : atI xs (j : Int) = some v := atI_of (by omega) (by rw [Int.toNat_natCast]; exact h)
theorem take_snoc {α : Type} {l : List α} {i : Nat} {x : α} (h : l[i]? = some x) : l.take (i + 1) = l.take i ++ [x] := by rw [List.take_add_one, h]; rfl
theorem rep_snoc {α : Type} (n : Nat) (x : α) : List.replicate (n + 1) x = List.replicate n x ++ [x] := by rw [List.replicate_succ']
theorem fillN_snoc {m : Nat} {l : List ((Nat × Nat) × Int)} {i : Nat} {e : (Nat × Nat) × Int} (h : l[i]? = some e) : fillN m (l.take (i + 1)) = fill1 (fillN m (l.take i)) e := by
  unfold fillN
  rw [take_snoc h, List.foldl_append]
  rfl
theorem sq_fold {m : Nat} : ∀ (l : List ((Nat × Nat) × Int)) {t : List (List Int)}, Sq m t → Sq m (l.foldl fill1 t)
  | [], _, h => h
  | e :: l, _, h => sq_fold l (h.fill e)
theorem sq_fillN (m : Nat) (l : List ((Nat × Nat) × Int)) : Sq m (fillN m l) := sq_fold l (sq_zeros m)
/-- one store rows[a][b] = number -/
theorem set_core {Dn : Ends} {σ : L2.St} {H G : Hp} {p C : Addr} {ws : List V} {t : List (List Int)} {m a b : Nat} {x : Int} {sr sa sb sn : Nat} (sm : Same H G) (hLL : LL G p C ws t) (inj : Inj ws) (fresh : Fresh H ws) (sq : Sq m t) (ha : a < m) (hb : b < m)
    (e3 : σ[sr]? = some (some (.ref C))) (ea : σ[sa]? = some (some (.int (a : Nat)))) (eb : σ[sb]? = some (some (.int (b : Nat)))) (en : σ[sn]? = some (some (.int x)))
    (hn : ∀ G', Same H G' → LL G' p C ws (setC t a b x) → Sq m (setC t a b x) → Dn.nx σ G') : tAsg (tVar sn) (gSub (tOp (rIxL K) (tVar sr) (tVar sa)) (tVar sb) rSetL) Dn σ G := by
  obtain ⟨c, hc, hcl, hgd⟩ := sq.row ha
  obtain ⟨E1, hw, hE, nEC, nEp⟩ := hLL.row a c hc
  have L1 := hLL.updRow (c := c.set b x) hw fun i e => inj i _ E1 e hw
  have q := hn _ (sameOff sm (fresh _ _ hw)) (by unfold setC; rw [hgd]; exact L1) (sq.set a b x)
  rw [List.map_set] at q
  exact ⟨_, en, _, e3, _, ea, C, ws, _, _, rfl, rfl, SqL.of hLL.at_, atI_nat hw, _, eb, E1, _, _, b, rfl, rfl, hE, ixN_of (by rw [List.length_map, hcl]; exact hb), q⟩
def spFill : Sp := fun vs H Q _ => ∃ (m : Nat) (P0 : Addr) (fv : V) (p : Addr) (u : HO) (pws : List V) (ps : List (Nat × Nat)) (fs : List Int), vs = [.int (m : Nat), .ref P0, fv] ∧ H p = some u ∧ m ≤ 6 ∧ H P0 = some (.lst pws) ∧ Dats H p pws (ps.map pairD) ∧ Dat H p fv (rowD fs) ∧
  ps.length = fs.length ∧ (∀ x ∈ ps, x.1 < m ∧ x.2 < m) ∧ ∀ v H', Dat H' p v (tabD (fillN m (ps.zip fs))) → Same H H' → Q v H'
theorem ok_filled_table (D : Df K mg "filled_table" s_filled_table ["m", "places", "filling"]) (T : Nms mg) : CallOk P w K mg base CX0 1 "filled_table" ["m", "places", "filling"] spFill := by
  refine df_ok D sc_filled_table (fun vs H Q E h => ?_) (fun f cdv A outer s H vs Q E hr h => ?_)
  · obtain ⟨m, P0, fv, p, u, pws, ps, fs, rfl, _⟩ := h
    rfl
  · obtain ⟨m, P0, fv, p, u, pws, ps, fs, rfl, hp, hm, hP0, hps, hfv, hlen, hin, k⟩ := h
    have nd := sc_filled_table.nd
    obtain ⟨fa, rfl, hfa, _⟩ := row_parts hfv
    refine ⟨_, (pss_cons (ps_setLc (i := 3) (own := [("_", 4)]) (g := (gName 4)) (tt := tYes) (by rfl) nd rfl rfl (sw_true rfl rfl rfl (by decide +kernel)) (pi_range1 rfl T.n_range (pa_cons (pv 0) pa_nil)) (blkOk_by (own := [("_", 4)]) (N := N_filled_table) (sc := defScope s_filled_table) (by decide +kernel)) (fun _ _ _ _ _ => (pg_name (i := 4) nd rfl (Or.inl rfl))) (fun _ _ _ _ _ => pts_nil) (fun _ _ _ _ _ => (pe_op op_rep (pe_lst (pa_cons pe_int pa_nil)) (pv 0))))
      (pss_cons (ps_for PassesOwn.never rfl (pi_zipM (by rfl) T.n_zip (pa_cons (pv 1) (pa_cons (pv 2) pa_nil))) (pg_tup rfl (pgs_cons (pg_tup rfl (pgs_cons (pg_name (i := 5) nd rfl (Or.inl rfl)) (pgs_cons (pg_name (i := 6) nd rfl (Or.inl rfl)) pgs_nil))) (pgs_cons (pg_name (i := 7) nd rfl (Or.inl rfl)) pgs_nil))) (pss_cons (ps_asg (pv 7) (pg_sub (pe_ix (r := rIxL K) ix_list (pv 3) (pv 5) (fun _ _ => rfl)) (pv 6) set_list))
      (pss_one (ps_asg (pv 7) (pg_sub (pe_ix (r := rIxL K) ix_list (pv 3) (pv 6) (fun _ _ => rfl)) (pv 5) set_list)))))
      (pss_one (ps_ret (pe_callTy (r := rTupOf K) call_tupOf (by rfl) T.n_tuple (by decide +kernel) (pa_cons (pe_lc (own := [("row", 8)]) (g := (gName 8)) (tt := tYes) (by rfl) nd (pi_list (pv 3)) (blkOk_by (own := [("row", 8)]) (N := N_filled_table) (sc := defScope s_filled_table) (by decide +kernel)) (fun _ _ _ _ _ => (pg_name (i := 8) nd rfl (Or.inl rfl))) (fun _ _ _ _ _ => pts_nil) (fun _ _ _ _ _ => (pe_callTy (r := rTupOf K) call_tupOf (by rfl) T.n_tuple (by decide +kernel) (pa_cons (pv 8) pa_nil)))) pa_nil)))))), ?_⟩
    walk_at "op"
    walk_at "st"
    refine fun C hC => ?_
    refine lI walk_range (fun j G => Same H G ∧ ∃ ws, LL G p C ws (List.replicate j (List.replicate m 0)) ∧ Inj ws ∧ Fresh H ws) ⟨same_new hC, [], LL.nil upd_same, fun i1 i2 b e => (by cases e), fun i b e => (by cases e)⟩ (fun _ _ _ _ => True.intro) ?_ ?_
    · rintro j x _ G hj ⟨sm, ws, hLL, inj, fresh⟩ ⟨rfl, rfl⟩
      walk_at "op"
      refine ⟨rfl, ?_⟩
      walk_at "st"
      refine fun t ht => ⟨_, rfl, ⟨t, _, _, rfl, rfl, upd_same, by omega, by omega, by rw [sizeLine_eq]; show 1 * _ ≤ _; omega, fun l hl => ?_⟩⟩
      have htH := sameFree sm ht
      have e0 : (List.replicate (m : Int).toNat [V.int 0]).flatten = (List.replicate m (0 : Int)).map V.int := by
        rw [Int.toNat_natCast, List.map_replicate]
        clear hm hj hlen hin k hLL sm ws inj fresh
        induction m with
        | zero => rfl
        | succ n ih => rw [List.replicate_succ, List.flatten_cons, ih, List.replicate_succ]; rfl
      rw [e0]
      have s1 : Same G (upd (upd G t (.lst [.int 0])) l (.lst ((List.replicate m (0 : Int)).map V.int))) := (same_new ht).trans (same_new hl)
      have hlG := sameFree (same_new (o := .lst [.int 0]) ht) hl
      have hlH := sameFree sm hlG
      have nlC : l ≠ C := fun z => by rw [z, hLL.at_] at hlG; cases hlG
      have hLL2 := hLL.same s1
      have wl : ws.length ≤ 6 := by
        rw [hLL.len, List.length_replicate]
        have := hj
        omega
      refine ⟨ws, hLL2.at_, small1000 (by omega), sameOff (sm.trans s1) hC, ws ++ [.ref l], ?_, inj.snoc (hLL.off hlG), fresh.snoc hlH⟩
      rw [rep_snoc]
      exact hLL2.snoc upd_same nlC (pne_of hp (sm.trans (same_new ht)) hl)
    · rintro G ⟨sm, ws, hLL, inj, fresh⟩
      rw [Int.toNat_natCast] at hLL
      walk_at "op"
      walk_at "st"
      refine ⟨P0, fa, pws, fs.map V.int, rfl, SqL.of (sm _ _ hP0), SqT.of (sm _ _ hfa), ?_⟩
      have hpl : pws.length = ps.length := by rw [hps.1, List.length_map]
      refine fI (walk_zipM (by rw [hpl, hlen, List.length_map])) (fun i σ G => ∃ u5 u6 u7, σ = [some (.int (m : Nat)), some (.ref P0), some (.ref fa), some (.ref C), none, u5, u6, u7, none] ∧ Same H G ∧ LL G p C ws (fillN m ((ps.zip fs).take i)))
        ⟨none, none, none, rfl, sm, hLL⟩ (fun i σ G _ ⟨_, _, _, _, sm, _⟩ => ⟨SqL.of (sm _ _ hP0), SqT.of (sm _ _ hfa)⟩) ?_ ?_
      · rintro i x σ G1 _ hi ⟨u5, u6, u7, rfl, s1, hLL1⟩ ⟨T, y1, y2, rfl, hT, rfl, g1, g2⟩
        have hi2 : i < ps.length := by omega
        have hi3 : i < fs.length := by omega
        have ez : (ps.zip fs)[i]? = some (ps[i], fs[i]) := by rw [List.getElem?_zip_eq_some]; exact ⟨List.getElem?_eq_getElem hi2, List.getElem?_eq_getElem hi3⟩
        obtain ⟨d, hd1, hd2⟩ := hps.at g1
        rw [List.getElem?_map, List.getElem?_eq_getElem hi2] at hd1
        cases hd1
        obtain ⟨pa, rfl, hpa, _⟩ := pair_parts hd2
        have g2' : (fs.map V.int)[i]? = some y2 := g2
        rw [List.getElem?_map, List.getElem?_eq_getElem hi3] at g2'
        cases g2'
        obtain ⟨lt1, lt2⟩ := hin _ (List.getElem_mem hi2)
        have s2 : Same G1 (upd G1 T (.tup [V.ref pa, V.int fs[i]])) := same_new hT
        have hLL2 := hLL1.same s2
        have s3 := s1.trans s2
        refine ⟨T, _, rfl, SqT.of upd_same, rfl, _, _, rfl, ⟨pa, _, rfl, SqT.of (s3 _ _ hpa), rfl, _, _, rfl, _, _, rfl, rfl, _, _, rfl, rfl, ?_⟩⟩
        refine set_core (sr := 3) (sa := 5) (sb := 6) (sn := 7) s3 hLL2 inj fresh (sq_fillN m _) lt1 lt2 rfl rfl rfl rfl fun G2 s4 hLL3 sq3 => ?_
        refine set_core (sr := 3) (sa := 6) (sb := 5) (sn := 7) s4 hLL3 inj fresh sq3 lt2 lt1 rfl rfl rfl rfl fun G3 s5 hLL4 sq4 => ?_
        refine ⟨_, _, _, rfl, s5, ?_⟩
        rw [fillN_snoc ez]
        exact hLL4
      · rintro σ G1 ⟨u5, u6, u7, rfl, s1, hLL1⟩
        have efl : fillN m ((ps.zip fs).take pws.length) = fillN m (ps.zip fs) := by rw [List.take_of_length_le]; rw [List.length_zip]; omega
        rw [efl] at hLL1
        have sq := sq_fillN m (ps.zip fs)
        generalize fillN m (ps.zip fs) = fl at *
        have hfn : fl.length = m := sq.1
        walk_at "op"
        walk_at "st"
        refine ⟨⟨_, SqL.of hLL1.at_⟩, fun D' hD' => ?_⟩
        have hDH := sameFree s1 hD'
        refine lI walk_list (fun j G5 => Same G1 G5 ∧ ∃ ws2, G5 D' = some (.lst ws2) ∧ Dats G5 p ws2 ((fl.take j).map rowD)) ⟨same_new hD', [], upd_same, Dats.nil⟩ (fun j G5 _ ⟨e, _⟩ => SqL.of (e _ _ hLL1.at_)) ?_ ?_
        · rintro j x _ G5 hj ⟨s5, ws2, hw2, hd2⟩ ⟨rfl, hxj⟩
          have hjl : j < fl.length := by rw [← hLL1.len]; exact hj
          obtain ⟨b', e1, e2, _⟩ := hLL1.row j fl[j] (List.getElem?_eq_getElem hjl)
          rw [hxj] at e1
          cases e1
          have wl2 : ws2.length ≤ 6 := by
            rw [hd2.1, List.length_map, List.length_take]
            omega
          walk_at "op"
          refine ⟨rfl, ?_⟩
          walk_at "st"
          refine ⟨b', _, rfl, .inl ⟨SqL.of (s5 _ _ e2), fun l hl => ?_⟩⟩
          have hw3 := (same_new (o := .tup (fl[j].map V.int)) hl) _ _ hw2
          refine ⟨ws2, hw3, small1000 (by omega), sameOff (s5.trans (same_new hl)) hD', ws2 ++ [.ref l], upd_same, ?_⟩
          rw [take_snoc (List.getElem?_eq_getElem hjl), List.map_append]
          refine ((hd2.off hl).setL hw3 (rows_no _)).snoc (Dat.setL hw3 (.tup upd_same (pne_of hp (s1.trans s5) hl) (by rw [List.length_map, List.length_map]) fun i x d a b => (Dats.ints (p := p) fl[j]).2 i x d a b) (noList_of fun e he => by
            obtain ⟨x, _, rfl⟩ := List.mem_map.mp he
            unfold noList
            rfl))
        · rintro G5 ⟨s5, ws2, hw2, hd2⟩
          rw [hLL1.len, List.take_length] at hd2
          walk_at "op"
          walk_at "st"
          refine ⟨D', ws2, rfl, .inl ⟨SqL.of hw2, fun t1 ht1 => ?_⟩⟩
          refine k _ _ ?_ ((s1.trans s5).trans (same_new ht1))
          exact Dat.new ht1 (pne_of hp (s1.trans s5) ht1) hd2
end
end Fm
end FS3
section FS4
set_option Elab.async false
set_option linter.all false
set_option maxRecDepth 100000
set_option maxHeartbeats 4000000
local macro_rules | `(tactic| walk_at "ne") => `(tactic| first | assumption | (apply Ne.symm; assumption) | exact L2.ne_of_none (by assumption) (by assumption) | exact Ne.symm (L2.ne_of_none (by assumption) (by assumption)))
local macro_rules | `(tactic| walk_at "hl") => `(tactic| first | assumption | exact L2.upd_same | (refine Eq.trans (L2.upd_ne (by walk_at "ne")) ?_; walk_at "hl"))
local macro_rules | `(tactic| walk_at "sd") => `(tactic| first | (with_reducible show (_ : Int) < _; omega) | (with_reducible show (_ : Int) ≤ _; omega) | assumption | decide | exact ⟨by assumption, by assumption⟩ | exact ⟨by decide, by decide⟩ | exact Or.inr ⟨by decide, by decide⟩ | exact Or.inl ⟨by omega, by omega⟩ | rfl)
local macro_rules | `(tactic| walk_at "st1") => `(tactic| first
  | refine ⟨_, rfl, ?_⟩
  | refine ⟨_, _, rfl, rfl, ?_⟩
  | refine ⟨_, _, rfl, ?_⟩
  | (refine ⟨_, _, _, _, rfl, rfl, L2.SqL.of (by walk_at "hl"), rfl, ?_⟩)
  | (refine ⟨_, _, _, _, rfl, rfl, L2.SqT.of (by walk_at "hl"), rfl, ?_⟩)
  | (refine ⟨_, _, _, _, rfl, rfl, (by walk_at "hl"), rfl, ?_⟩)
  | (refine And.intro (by walk_at "sd") ?_)
  )
local macro_rules | `(tactic| walk_at "st") => `(tactic| repeat walk_at "st1")
local macro_rules | `(tactic| walk_at "op") => `(tactic| try dsimp only [L2.tSeq, L2.tAsg, L2.tOp, L2.tVar, L2.tC, L2.gSub, L2.rI, L2.rI0, L2.rIxL, L2.rIxT, L2.rSetL, L2.tIfS, L2.tTest, L2.tRet, L2.gName, L2.tNext, L2.tAnd, L2.tOr, L2.tNot, L2.tAndV, L2.tOrV, L2.tNotV, L2.tB, L2.tCB, L2.tCons, L2.tNil, L2.tCall, L2.tTup, L2.tLst, L2.tChain, L2.tUn, L2.tPar, L2.tDrop, L2.tIf, L2.tBM, L2.tBM0, L2.rAppend, L2.rCat, L2.rIsi, L2.rIsiT, L2.gTup, L2.gCons, L2.gNil, Fm.tFor_eq, Fm.tLc_eq, Fm.tLc2_eq, L2.iTup, L2.iList, L2.iRng1, L2.iRng2, L2.tSl, L2.tPart, L2.tNoPart, L2.rSlL, L2.rEq, L2.rNe, L2.rU, L2.rEqD, L2.rNeD, Fm.tRevT, Fm.rLenS, Fm.rTupOf, Fm.rLstOf, L2.tDNewK, L2.tCallS, L2.WE, Fm.wKeep, Fm.rIsK, Fm.rIsKT, List.cons_append, List.nil_append, L2.tYes])
namespace Fm
open PySem PySem.Spec PyProof.Rows L2
abbrev s_every_table : Stmt := top 12
abbrev N_every_table : List Str := ["m", "places", "a", "b", "fillings", "_", "filling", "number"]
theorem sc_every_table : FnScope N_every_table ["m"] (defScope s_every_table) := ⟨rfl, rfl, rfl, by decide +kernel, rfl, by decide +kernel, by decide +kernel⟩
section
variable {P : Program} {w : World} {K : PySem.W.Frag} {mg : Str → Option Value} {base : Heap}
/-! ### all tables -/
def prow (a n : Nat) : List (Nat × Nat) := (List.range n).map fun k => (a, a + k)
def plN (m n : Nat) : List (Nat × Nat) := (List.range n).flatMap fun a => prow a (m - a)
def plc (m : Nat) : List (Nat × Nat) := plN m m
def frow (f : List Int) (n : Nat) : List (List Int) := (List.range n).map fun k : Nat => f ++ [(k : Int)]
def fstep (m : Nat) (l : List (List Int)) : List (List Int) := l.flatMap fun f => frow f m
def fils (m : Nat) : Nat → List (List Int)
  | 0 => [[]]
  | n + 1 => fstep m (fils m n)
def everyT (m : Nat) : List (List (List Int)) := (fils m (plc m).length).map fun f => fillN m ((plc m).zip f)
theorem prow_succ (a n : Nat) : prow a (n + 1) = prow a n ++ [(a, a + n)] := by unfold prow; rw [List.range_succ, List.map_append]; rfl
theorem plN_succ (m n : Nat) : plN m (n + 1) = plN m n ++ prow n (m - n) := by unfold plN; rw [List.range_succ, List.flatMap_append, List.flatMap_singleton]
theorem frow_succ (f : List Int) (n : Nat) : frow f (n + 1) = frow f n ++ [f ++ [(n : Int)]] := by unfold frow; rw [List.range_succ, List.map_append]; rfl
theorem fstep_snoc (m : Nat) (l : List (List Int)) (f : List Int) : fstep m (l ++ [f]) = fstep m l ++ frow f m := by unfold fstep; rw [List.flatMap_append, List.flatMap_singleton]
theorem prow_len (a n : Nat) : (prow a n).length = n := by unfold prow; rw [List.length_map, List.length_range]
theorem frow_len (f : List Int) (n : Nat) : (frow f n).length = n := by unfold frow; rw [List.length_map, List.length_range]
theorem plN_len {m : Nat} (hm : m ≤ 6) : ∀ n, (plN m n).length ≤ n * 6
  | 0 => Nat.zero_le _
  | n + 1 => by
    have := plN_len hm n
    rw [plN_succ, List.length_append, prow_len]
    omega
theorem fstep_len (m : Nat) : ∀ l : List (List Int), (fstep m l).length = l.length * m
  | [] => by show 0 = 0 * m; omega
  | f :: l => by
    show (frow f m ++ fstep m l).length = _
    rw [List.length_append, fstep_len m l, frow_len, List.length_cons, Nat.succ_mul]
    omega
theorem fils_len (m : Nat) : ∀ n, (fils m n).length = m ^ n
  | 0 => rfl
  | n + 1 => by
    show (fstep m (fils m n)).length = _
    rw [fstep_len, fils_len m n]
    rfl
theorem fils_each {m : Nat} : ∀ n, ∀ f ∈ fils m n, f.length = n
  | 0, f, h => by
    rw [List.mem_singleton.mp h]
    rfl
  | n + 1, f, h => by
    obtain ⟨g, hg, hf⟩ := List.mem_flatMap.mp h
    obtain ⟨k, _, rfl⟩ := List.mem_map.mp hf
    rw [List.length_append, fils_each n g hg]
    rfl
theorem plc_len {m : Nat} (hm : m ≤ 3) : (plc m).length ≤ 6 := by
  have : m = 0 ∨ m = 1 ∨ m = 2 ∨ m = 3 := by omega
  rcases this with rfl | rfl | rfl | rfl <;> decide
theorem plc_in {m : Nat} (x : Nat × Nat) (h : x ∈ plc m) : x.1 < m ∧ x.2 < m := by
  obtain ⟨a, ha, hx⟩ := List.mem_flatMap.mp h
  obtain ⟨k, hk, rfl⟩ := List.mem_map.mp hx
  rw [List.mem_range] at ha hk
  exact ⟨ha, by show a + k < m; omega⟩
theorem pow_small {m n : Nat} (hm : m ≤ 3) (hn : n ≤ 6) : m ^ n ≤ 729 := Nat.le_trans (Nat.pow_le_pow_left hm n) (Nat.le_trans (Nat.pow_le_pow_right (by decide) hn) (by decide))
theorem pairD_no (x : Nat × Nat) : noList (pairD x) = true := noList_of fun e he => by
  rcases List.mem_cons.mp he with rfl | he
  · unfold noList; rfl
  · rw [List.mem_singleton.mp he]; unfold noList; rfl
theorem pairs_no (l : List (Nat × Nat)) : ∀ d ∈ l.map pairD, noList d = true := fun d hd => by
  obtain ⟨x, _, rfl⟩ := List.mem_map.mp hd
  exact pairD_no x
theorem rowD_no (r : List Int) : noList (rowD r) = true := noList_of fun e he => by
  obtain ⟨n, _, rfl⟩ := List.mem_map.mp he
  unfold noList
  rfl
theorem tabD_no (t : List (List Int)) : noList (tabD t) = true := noList_of fun e he => by
  obtain ⟨r, _, rfl⟩ := List.mem_map.mp he
  exact rowD_no r
theorem tabs_no (l : List (List (List Int))) : ∀ d ∈ l.map tabD, noList d = true := fun d hd => by
  obtain ⟨t, _, rfl⟩ := List.mem_map.mp hd
  exact tabD_no t
def spEvery : Sp := fun vs H Q _ => ∃ (m : Nat) (p : Addr) (u : HO), vs = [.int (m : Nat)] ∧ m ≤ 3 ∧ H p = some u ∧ ∀ q ws H', H q = none → H' q = some (.lst ws) → Dats H' p ws ((everyT m).map tabD) → Same H H' → Q (.ref q) H'
theorem ok_every_table (D : Df K mg "every_table" s_every_table ["m"]) (T : Nms mg) (c_filled_table : CallOk P w K mg base CX0 1 "filled_table" ["m", "places", "filling"] spFill) : CallOk P w K mg base CX0 2 "every_table" ["m"] spEvery := by
  refine df_ok D sc_every_table (fun vs H Q E h => ?_) (fun f cdv A outer s H vs Q E hr h => ?_)
  · obtain ⟨m, p, u, rfl, _⟩ := h
    rfl
  · obtain ⟨m, p, u, rfl, hm, hp, k⟩ := h
    have nd := sc_every_table.nd
    refine ⟨_, (pss_cons (ps_set (i := 1) nd rfl (Or.inr rfl) (pe_lc2 (own := [("a", 2), ("b", 3)]) (vs1 := [3]) (g := gName 2) (g1 := gName 3) (tt := tYes) (tt1 := tYes) (by rfl) nd (pi_range1 rfl T.n_range (pa_cons (pv 0) pa_nil)) (blkOk_by (own := [("a", 2), ("b", 3)]) (N := N_every_table) (sc := defScope s_every_table) (by decide +kernel)) (by decide) (fun _ _ _ _ _ => (pg_name (i := 2) nd rfl (Or.inl rfl))) (fun _ _ _ _ _ => pts_nil) (fun _ _ _ _ _ => (pi_range2 rfl T.n_range (pa_cons (pv 2) (pa_cons (pv 0) pa_nil)))) (fun _ _ _ _ _ => (pg_name (i := 3) nd rfl (Or.inl rfl))) (fun _ _ _ _ _ => pts_nil) (fun _ _ _ _ _ => (pe_tup (pa_cons (pv 2) (pa_cons (pv 3) pa_nil))))))
      (pss_cons (ps_set (i := 4) nd rfl (Or.inl rfl) (pe_lst (pa_cons (pe_tup pa_nil) pa_nil)))
      (pss_cons (ps_for PassesOwn.never rfl (pi_list (pv 1)) (pg_name (i := 5) nd rfl (Or.inl rfl)) (pss_one (ps_setLc2 (i := 4) (own := [("filling", 6), ("number", 7)]) (vs1 := [7]) (g := gName 6) (g1 := gName 7) (tt := tYes) (tt1 := tYes) (by rfl) nd rfl rfl (sw_true rfl rfl rfl (by decide +kernel)) (pi_list (pv 4)) (blkOk_by (own := [("filling", 6), ("number", 7)]) (N := N_every_table) (sc := defScope s_every_table) (by decide +kernel)) (by decide) (fun _ _ _ _ _ => (pg_name (i := 6) nd rfl (Or.inl rfl))) (fun _ _ _ _ _ => pts_nil) (fun _ _ _ _ _ => (pi_range1 rfl T.n_range (pa_cons (pv 0) pa_nil))) (fun _ _ _ _ _ => (pg_name (i := 7) nd rfl (Or.inl rfl))) (fun _ _ _ _ _ => pts_nil) (fun _ _ _ _ _ => (pe_op (r := rCatA K) op_catA (pv 6) (pe_tup (pa_cons (pv 7) pa_nil)))))))
      (pss_one (ps_ret (pe_lc (own := [("filling", 6)]) (g := (gName 6)) (tt := tYes) (by rfl) nd (pi_list (pv 4)) (blkOk_by (own := [("filling", 6)]) (N := N_every_table) (sc := defScope s_every_table) (by decide +kernel)) (fun _ _ _ _ _ => (pg_name (i := 6) nd rfl (Or.inl rfl))) (fun _ _ _ _ _ => pts_nil) (fun _ _ _ _ _ => (pe_cc c_filled_table (hr.mono (by omega)) (pa_cons (pv 0) (pa_cons (pv 1) (pa_cons (pv 6) pa_nil))))))))))), ?_⟩
    walk_at "op"
    walk_at "st"
    refine fun D0 hD0 => ?_
    refine l2I walk_range (fun i G => Same H G ∧ ∃ ws, G D0 = some (.lst ws) ∧ Dats G p ws ((plN m i).map pairD)) ⟨same_new hD0, [], upd_same, Dats.nil⟩ (fun _ _ _ _ => True.intro) ?_ ?_
    · rintro i x _ G hi ⟨sm, ws, hw, hW⟩ ⟨rfl, rfl⟩
      dsimp only
      rw [Int.zero_add]
      have hi' : i < m := by omega
      have hlA := plN_len (by omega : m ≤ 6) i
      walk_at "op"
      refine ⟨rfl, ?_⟩
      refine iteT ?_
      refine ⟨_, rfl, _, rfl, _, _, rfl, ⟨by omega, by omega, by omega, by omega⟩, ?_⟩
      rw [show ((m : Int) - (i : Nat)).toNat = m - i by omega]
      refine liI walk_range (fun j G => Same H G ∧ ∃ ws, G D0 = some (.lst ws) ∧ Dats G p ws ((plN m i ++ prow i j).map pairD)) ⟨sm, ws, hw, by rw [show prow i 0 = [] from rfl, List.append_nil]; exact hW⟩ (fun _ _ _ _ => True.intro) ?_ ?_
      · rintro j x _ G hj ⟨sm, ws, hw, hW⟩ ⟨rfl, rfl⟩
        dsimp only
        have hl := prow_len i j
        walk_at "op"
        refine ⟨rfl, ?_⟩
        refine iteT ?_
        refine ⟨_, rfl, _, rfl, ⟨by show 2 ≤ sizeLine; decide, fun t ht => ?_⟩⟩
        have htH := sameFree sm ht
        have hw2 := (same_new (o := .tup [.int (i : Nat), .int ((i : Nat) + (j : Nat))]) ht) _ _ hw
        refine ⟨ws, hw2, small1000 ?_, sameOff (sm.trans (same_new ht)) hD0, ws ++ [.ref t], upd_same, ?_⟩
        · rw [hW.1, List.length_map, List.length_append]
          omega
        · rw [prow_succ, ← List.append_assoc, List.map_append]
          refine ((hW.off ht).setL hw2 (pairs_no _)).snoc (Dat.setL hw2 (Dat.new ht (pne_of hp sm ht) ?_) (pairD_no _))
          have q := Dats.ints (H := G) (p := p) [(i : Int), ((i + j : Nat) : Int)]
          simpa using q
      · rintro G ⟨sm, ws, hw, hW⟩
        rw [← plN_succ] at hW
        exact ⟨sm, ws, hw, hW⟩
    · rintro G ⟨sm, pws, hP0, hP⟩
      walk_at "op"
      walk_at "st"
      rw [Int.toNat_natCast] at hP
      have hP : Dats G p pws ((plc m).map pairD) := hP
      refine fun e0 he0 => ⟨by show 1 ≤ sizeLine; decide, fun F0 hF0 => ?_⟩
      refine ⟨_, rfl, D0, rfl, ⟨pws, SqL.of ?_⟩, ?_⟩
      · exact (((same_new he0).trans (same_new hF0)) _ _ hP0)
      have s1 : Same G (upd (upd G e0 (.tup [])) F0 (.lst [V.ref e0])) := (same_new he0).trans (same_new hF0)
      have hP1 := s1 _ _ hP0
      have hF1 : upd (upd G e0 (.tup [])) F0 (.lst [V.ref e0]) F0 = some (.lst [V.ref e0]) := upd_same
      have hd1 : Dats (upd (upd G e0 (.tup [])) F0 (.lst [V.ref e0])) p [V.ref e0] ((fils m 0).map rowD) := by
        refine Dats.cons (Dat.off (Dat.new he0 (pne_of hp sm he0) Dats.nil) hF0) Dats.nil
      have hP1d : Dats (upd (upd G e0 (.tup [])) F0 (.lst [V.ref e0])) p pws ((plc m).map pairD) := ⟨hP.1, fun i x d a b => (hP.2 i x d a b).same s1⟩
      have s2 := sm.trans s1
      generalize upd (upd G e0 (.tup [])) F0 (.lst [V.ref e0]) = G1 at *
      have hpl : pws.length = (plc m).length := by rw [hP.1, List.length_map]
      have h6 := plc_len hm
      refine fI walk_list (fun i σ G => ∃ (u5 : Option V) (F : Addr) (fw : List V), σ = [some (.int (m : Nat)), some (.ref D0), none, none, some (.ref F), u5, none, none] ∧ Same G1 G ∧ G F = some (.lst fw) ∧ Dats G p fw ((fils m i).map rowD))
        ⟨none, F0, [V.ref e0], rfl, Same.refl _, hF1, hd1⟩ (fun i σ G _ ⟨_, _, _, _, sm, _⟩ => SqL.of (sm _ _ hP1)) ?_ ?_
      · rintro i x σ _ G2 hi ⟨u5, F, fw, rfl, s3, hF, hd⟩ ⟨rfl, hxi⟩
        have hm6 : m ^ i ≤ 243 := Nat.le_trans (Nat.pow_le_pow_left hm i) (Nat.le_trans (Nat.pow_le_pow_right (by decide) (show i ≤ 5 by omega)) (by decide))
        have hfw : fw.length = m ^ i := by rw [hd.1, List.length_map, fils_len]
        walk_at "op"
        walk_at "st"
        refine ⟨⟨_, SqL.of hF⟩, fun D hD => ?_⟩
        have s4 := s2.trans s3
        refine l2I walk_list (fun j G => Same G2 G ∧ ∃ ws, G D = some (.lst ws) ∧ Dats G p ws ((fstep m ((fils m i).take j)).map rowD)) ⟨same_new hD, [], upd_same, Dats.nil⟩ (fun _ _ _ ⟨e, _⟩ => SqL.of (e _ _ hF)) ?_ ?_
        · rintro j x _ G3 hj ⟨s5, ws, hw, hW⟩ ⟨rfl, hxj⟩
          have hjl : j < (fils m i).length := by rw [fils_len, ← hfw]; exact hj
          have hgj : (fils m i)[j]? = some (fils m i)[j] := List.getElem?_eq_getElem hjl
          obtain ⟨d, hd1, hd2⟩ := hd.at hxj
          rw [List.getElem?_map, hgj] at hd1
          cases hd1
          have hlen := fstep_len m ((fils m i).take j)
          rw [List.length_take, Nat.min_eq_left (by omega)] at hlen
          have hlb : j * m + 3 ≤ 1000 := by
            have : j * m ≤ 243 * 3 := Nat.mul_le_mul (by omega) hm
            omega
          have htk := take_snoc hgj
          have hfl := fils_each i _ (List.getElem_mem hjl)
          generalize (fils m i)[j] = f at *
          obtain ⟨ca, rfl, hca, _⟩ := row_parts hd2
          walk_at "op"
          refine ⟨rfl, ?_⟩
          refine iteT ?_
          refine ⟨_, rfl, _, rfl, by omega, by omega, ?_⟩
          rw [Int.toNat_natCast]
          refine liI walk_range (fun l G => Same G2 G ∧ ∃ ws, G D = some (.lst ws) ∧ Dats G p ws ((fstep m ((fils m i).take j) ++ frow f l).map rowD)) ⟨s5, ws, hw, by rw [show frow f 0 = [] from rfl, List.append_nil]; exact hW⟩ (fun _ _ _ _ => True.intro) ?_ ?_
          · rintro l x _ G4 hl ⟨s6, ws, hw, hW⟩ ⟨rfl, rfl⟩
            have hfr := frow_len f l
            walk_at "op"
            refine ⟨rfl, ?_⟩
            refine iteT ?_
            have fin : ∀ (G5 : Hp) (r : Addr), Same G4 G5 → G4 r = none → G5 r = some (.tup ((f ++ [(l : Int)]).map V.int)) →
                ∃ acc, G5 D = some (.lst acc) ∧ acc.length < sizeLine ∧ Same G2 (upd G5 D (.lst (acc ++ [.ref r]))) ∧ ∃ ws, upd G5 D (.lst (acc ++ [.ref r])) D = some (.lst ws) ∧ Dats (upd G5 D (.lst (acc ++ [.ref r]))) p ws ((fstep m ((fils m i).take j) ++ frow f (l + 1)).map rowD) := by
              intro G5 r s7 hr4 hr5
              have hw5 := s7 _ _ hw
              refine ⟨ws, hw5, small1000 ?_, sameOff (s6.trans s7) hD, ws ++ [.ref r], upd_same, ?_⟩
              · rw [hW.1, List.length_map, List.length_append, hlen, hfr]
                omega
              · rw [frow_succ, ← List.append_assoc, List.map_append]
                have hW5 : Dats G5 p ws ((fstep m ((fils m i).take j) ++ frow f l).map rowD) := ⟨hW.1, fun i x d a b => (hW.2 i x d a b).same s7⟩
                exact (hW5.setL hw5 (fun d hd => by obtain ⟨r, _, rfl⟩ := List.mem_map.mp hd; exact rowD_no r)).snoc (Dat.setL hw5 (.tup hr5 (pne_of hp (s4.trans s6) hr4) (by rw [List.length_map, List.length_map]) fun i x d a b => (Dats.ints (p := p) (f ++ [(l : Int)])).2 i x d a b) (rowD_no _))
            rw [Int.zero_add]
            refine ⟨_, rfl, _, rfl, by show 1 ≤ sizeLine; decide, fun t ht => ?_⟩
            have st := same_new (o := .tup [V.int (l : Nat)]) ht
            refine ⟨ca, t, f.map V.int, [.int (l : Nat)], rfl, rfl, SqT.of (st _ _ (s6 _ _ hca)), SqT.of upd_same, Nat.le_of_lt (small1000 (by rw [List.length_map, hfl]; show i + 1 ≤ 1000; omega)), fun e => ?_, fun _ e => (by cases e), fun _ _ r hr => ?_⟩
            · have ef : f = [] := List.map_eq_nil_iff.mp e
              exact fin _ t st ht (by rw [ef]; exact upd_same)
            · have hrG := sameFree st hr
              exact fin _ r (st.trans (same_new hr)) hrG (by rw [List.map_append]; exact upd_same)
          · rintro G ⟨s6, ws, hw, hW⟩
            refine ⟨s6, ws, hw, ?_⟩
            rw [htk, fstep_snoc]
            exact hW
        · rintro G3 ⟨s5, ws, hw, hW⟩
          rw [hfw, ← fils_len m i, List.take_length] at hW
          exact ⟨_, D, ws, rfl, s3.trans s5, hw, hW⟩
      · rintro σ G2 ⟨u5, F, fw, rfl, s3, hF, hd⟩
        walk_at "op"
        walk_at "st"
        have s4 := s2.trans s3
        rw [hpl] at hd
        refine ⟨⟨_, SqL.of hF⟩, fun D hD => ?_⟩
        refine lI walk_list (fun j G => Same G2 G ∧ ∃ ws, G D = some (.lst ws) ∧ Dats G p ws (((everyT m).take j).map tabD)) ⟨same_new hD, [], upd_same, Dats.nil⟩ (fun _ _ _ ⟨e, _⟩ => SqL.of (e _ _ hF)) ?_ ?_
        · rintro j x _ G3 hj ⟨s5, ws, hw, hW⟩ ⟨rfl, hxj⟩
          have hjl : j < (fils m (plc m).length).length := by rw [← hpl] at hd; rw [← hpl]; have := hd.1; rw [List.length_map] at this; omega
          have hgj : (fils m (plc m).length)[j]? = some (fils m (plc m).length)[j] := List.getElem?_eq_getElem hjl
          obtain ⟨d, hd1, hd2⟩ := hd.at hxj
          rw [List.getElem?_map, hgj] at hd1
          cases hd1
          have hfl := fils_each _ _ (List.getElem_mem hjl)
          have hel : (everyT m)[j]? = some (fillN m ((plc m).zip (fils m (plc m).length)[j])) := by
            unfold everyT
            rw [List.getElem?_map, hgj]
            rfl
          have htk := take_snoc hel
          have h729 : ws.length ≤ 729 := by
            rw [hW.1, List.length_map, List.length_take]
            refine Nat.le_trans (Nat.min_le_right _ _) ?_
            unfold everyT
            rw [List.length_map, fils_len]
            exact pow_small hm h6
          generalize (fils m (plc m).length)[j] = f at *
          walk_at "op"
          refine ⟨rfl, ?_⟩
          refine iteT ?_
          refine ⟨_, rfl, _, rfl, _, rfl, ?_⟩
          have hpG : G3 p = some u := (s4.trans s5) _ _ hp
          refine ⟨m, D0, x, p, u, pws, plc m, f, rfl, hpG, by omega, (s3.trans s5) _ _ hP1, ⟨hP1d.1, fun i x d a b => (hP1d.2 i x d a b).same (s3.trans s5)⟩, hd2.same s5, hfl.symm, plc_in, fun v G4 dv s6 => ?_⟩
          have hw4 := s6 _ _ hw
          refine ⟨ws, hw4, small1000 (by omega), sameOff (s5.trans s6) hD, ws ++ [v], upd_same, ?_⟩
          rw [htk, List.map_append]
          exact (Dats.setL hw4 ⟨hW.1, fun i x d a b => (hW.2 i x d a b).same s6⟩ (tabs_no _)).snoc (Dat.setL hw4 dv (tabD_no _))
        · rintro G3 ⟨s5, ws, hw, hW⟩
          have ee : (everyT m).take fw.length = everyT m := List.take_of_length_le (by unfold everyT; rw [List.length_map, hd.1, List.length_map]; exact Nat.le_refl _)
          rw [ee] at hW
          exact k D ws G3 (sameFree s4 hD) hw hW (s4.trans s5)
end
end Fm
end FS4
section FS5
set_option Elab.async false
set_option linter.all false
set_option maxRecDepth 100000
set_option maxHeartbeats 4000000
local macro_rules | `(tactic| walk_at "ne") => `(tactic| first | assumption | (apply Ne.symm; assumption) | exact L2.ne_of_none (by assumption) (by assumption) | exact Ne.symm (L2.ne_of_none (by assumption) (by assumption)))
local macro_rules | `(tactic| walk_at "hl") => `(tactic| first | assumption | exact L2.upd_same | (refine Eq.trans (L2.upd_ne (by walk_at "ne")) ?_; walk_at "hl"))
local macro_rules | `(tactic| walk_at "sd") => `(tactic| first | (with_reducible show (_ : Int) < _; omega) | (with_reducible show (_ : Int) ≤ _; omega) | assumption | decide | exact ⟨by assumption, by assumption⟩ | exact ⟨by decide, by decide⟩ | exact Or.inr ⟨by decide, by decide⟩ | exact Or.inl ⟨by omega, by omega⟩ | rfl)
local macro_rules | `(tactic| walk_at "st1") => `(tactic| first
  | refine ⟨_, rfl, ?_⟩
  | refine ⟨_, _, rfl, rfl, ?_⟩
  | refine ⟨_, _, rfl, ?_⟩
  | (refine ⟨_, _, _, _, rfl, rfl, L2.SqL.of (by walk_at "hl"), rfl, ?_⟩)
  | (refine ⟨_, _, _, _, rfl, rfl, L2.SqT.of (by walk_at "hl"), rfl, ?_⟩)
  | (refine ⟨_, _, _, _, rfl, rfl, (by walk_at "hl"), rfl, ?_⟩)
  | (refine And.intro (by walk_at "sd") ?_)
  )
local macro_rules | `(tactic| walk_at "st") => `(tactic| repeat walk_at "st1")
local macro_rules | `(tactic| walk_at "op") => `(tactic| try dsimp only [L2.tSeq, L2.tAsg, L2.tOp, L2.tVar, L2.tC, L2.gSub, L2.rI, L2.rI0, L2.rIxL, L2.rIxT, L2.rSetL, L2.tIfS, L2.tTest, L2.tRet, L2.gName, L2.tNext, L2.tAnd, L2.tOr, L2.tNot, L2.tAndV, L2.tOrV, L2.tNotV, L2.tB, L2.tCB, L2.tCons, L2.tNil, L2.tCall, L2.tTup, L2.tLst, L2.tChain, L2.tUn, L2.tPar, L2.tDrop, L2.tIf, L2.tBM, L2.tBM0, L2.rAppend, L2.rCat, L2.rIsi, L2.rIsiT, L2.gTup, L2.gCons, L2.gNil, Fm.tFor_eq, Fm.tLc_eq, Fm.tLc2_eq, L2.iTup, L2.iList, L2.iRng1, L2.iRng2, L2.tSl, L2.tPart, L2.tNoPart, L2.rSlL, L2.rEq, L2.rNe, L2.rU, L2.rEqD, L2.rNeD, Fm.tRevT, Fm.rLenS, Fm.rTupOf, Fm.rLstOf, L2.tDNewK, L2.tCallS, L2.WE, Fm.wKeep, Fm.rIsK, Fm.rIsKT, List.cons_append, List.nil_append, L2.tYes])
namespace Fm
open PySem PySem.Spec PyProof.Rows L2
abbrev s_law_all_tables : Stmt := top 16
abbrev N_law_all_tables : List Str := ["m", "entries", "pairs", "a", "b", "longer", "row", "number", "found", "rows", "pair"]
theorem sc_law_all_tables : FnScope N_law_all_tables ["m"] (defScope s_law_all_tables) := ⟨rfl, rfl, rfl, by decide +kernel, rfl, by decide +kernel, by decide +kernel⟩
section
variable {P : Program} {w : World} {K : PySem.W.Frag} {mg : Str → Option Value} {base : Heap}
/-! ### the law's own list of tables -/
theorem rep_zero (m : Nat) : (List.replicate (m : Int).toNat [V.int 0]).flatten = (List.replicate m (0 : Int)).map V.int := by
  rw [Int.toNat_natCast, List.map_replicate]
  induction m with
  | zero => rfl
  | succ n ih => rw [List.replicate_succ, List.flatten_cons, ih, List.replicate_succ]; rfl
def tabL (t : List (List Int)) : PyData := .list (t.map rowL)
theorem LL.app {H : Hp} {p L D : Addr} {ws ds : List V} {fl fl' : List (List Int)} (h : LL H p L ws fl) (h' : LL H p D ds fl') (n : ∀ (i : Nat) (b : Addr), ds[i]? = some (V.ref b) → b ≠ L) : LL (upd H L (.lst (ws ++ ds))) p L (ws ++ ds) (fl ++ fl') := by
  refine ⟨upd_same, by rw [List.length_append, List.length_append, h.len, h'.len], fun j d q => ?_⟩
  by_cases hj : j < fl.length
  · rw [List.getElem?_append_left hj] at q
    obtain ⟨b, e1, e2, e3, e4⟩ := h.row j d q
    exact ⟨b, by rw [List.getElem?_append_left (by rw [h.len]; exact hj)]; exact e1, by rw [upd_ne e3]; exact e2, e3, e4⟩
  · rw [List.getElem?_append_right (by omega)] at q
    obtain ⟨b, e1, e2, e3, e4⟩ := h'.row _ d q
    have nb := n _ _ e1
    exact ⟨b, by rw [List.getElem?_append_right (by rw [h.len]; omega), h.len]; exact e1, by rw [upd_ne nb]; exact e2, nb, e4⟩
theorem fils_snoc {m n : Nat} {l : List (Nat × Nat)} (e : l.length = n) (x : Nat × Nat) : fils m (l ++ [x]).length = fstep m (fils m n) := by
  rw [List.length_append, e]
  rfl
theorem plN_mono (m i : Nat) : ∀ k, (plN m i).length ≤ (plN m (i + k)).length
  | 0 => Nat.le_refl _
  | k + 1 => by
    have := plN_mono m i k
    rw [← Nat.add_assoc, plN_succ, List.length_append]
    omega
theorem pl_upto {m i j : Nat} (hi : i < m) (hj : j < m - i) : (plN m i ++ prow i j).length + 1 ≤ (plc m).length := by
  have h := plN_mono m (i + 1) (m - (i + 1))
  rw [show i + 1 + (m - (i + 1)) = m by omega, plN_succ, List.length_append, prow_len] at h
  rw [List.length_append, prow_len]
  show _ ≤ (plN m m).length
  omega
def spAll : Sp := fun vs H Q _ => ∃ (m : Nat) (p : Addr) (u : HO), vs = [.int (m : Nat)] ∧ m ≤ 3 ∧ H p = some u ∧ ∀ q ws H', H q = none → H' q = some (.lst ws) → Dats H' q ws ((everyT m).map tabL) → Same H H' → Q (.ref q) H'
theorem ok_law_all_tables (D : Df K mg "_law_all_tables" s_law_all_tables ["m"]) (T : Nms mg) : CallOk P w K mg base CX0 1 "_law_all_tables" ["m"] spAll := by
  refine df_ok D sc_law_all_tables (fun vs H Q E h => ?_) (fun f cdv A outer s H vs Q E hr h => ?_)
  · obtain ⟨m, p, u, rfl, _⟩ := h
    rfl
  · obtain ⟨m, p, u, rfl, hm, hp, k⟩ := h
    have nd := sc_law_all_tables.nd
    refine ⟨_, (pss_cons (ps_set (i := 1) nd rfl (Or.inl rfl) (pe_lst (pa_cons (pe_lst pa_nil) pa_nil)))
      (pss_cons (ps_set (i := 2) nd rfl (Or.inl rfl) (pe_lst pa_nil))
      (pss_cons (ps_for PassesOwn.never rfl (pi_range1 rfl T.n_range (pa_cons (pv 0) pa_nil)) (pg_name (i := 3) nd rfl (Or.inl rfl)) (pss_one (ps_for PassesOwn.never rfl (pi_range2 rfl T.n_range (pa_cons (pv 3) (pa_cons (pv 0) pa_nil))) (pg_name (i := 4) nd rfl (Or.inl rfl)) (pss_cons (ps_expr (pe_bm PySem.F.plainAttrs_list PySem.F.slot_list_append PySem.F.type_list_append mt_append (pv 2) (pa_cons (pe_tup (pa_cons (pv 3) (pa_cons (pv 4) pa_nil))) pa_nil)))
      (pss_cons (ps_set (i := 5) nd rfl (Or.inl rfl) (pe_lst pa_nil))
      (pss_cons (ps_for PassesOwn.never rfl (pi_list (pv 1)) (pg_name (i := 6) nd rfl (Or.inr rfl)) (pss_one (ps_expr (pe_bm PySem.F.plainAttrs_list PySem.F.slot_list_extend PySem.F.type_list_extend mt_extend (pv 5) (pa_cons (pe_lc (own := [("number", 7)]) (g := (gName 7)) (tt := tYes) (by rfl) nd (pi_range1 rfl T.n_range (pa_cons (pv 0) pa_nil)) (blkOk_by (own := [("number", 7)]) (N := N_law_all_tables) (sc := defScope s_law_all_tables) (by decide +kernel)) (fun _ _ _ _ _ => (pg_name (i := 7) nd rfl (Or.inl rfl))) (fun _ _ _ _ _ => pts_nil) (fun _ _ _ _ _ => (pe_op op_cat (pv 6) (pe_lst (pa_cons (pv 7) pa_nil))))) pa_nil)))))
      (pss_one (ps_set (i := 1) nd rfl (Or.inl rfl) (pv 5)))))))))
      (pss_cons (ps_set (i := 8) nd rfl (Or.inl rfl) (pe_lst pa_nil))
      (pss_cons (ps_for PassesOwn.never rfl (pi_list (pv 1)) (pg_name (i := 6) nd rfl (Or.inr rfl)) (pss_cons (ps_setLc (i := 9) (own := [("a", 3)]) (g := (gName 3)) (tt := tYes) (by rfl) nd rfl rfl (sw_true rfl rfl rfl (by decide +kernel)) (pi_range1 rfl T.n_range (pa_cons (pv 0) pa_nil)) (blkOk_by (own := [("a", 3)]) (N := N_law_all_tables) (sc := defScope s_law_all_tables) (by decide +kernel)) (fun _ _ _ _ _ => (pg_name (i := 3) nd rfl (Or.inl rfl))) (fun _ _ _ _ _ => pts_nil) (fun _ _ _ _ _ => (pe_op op_rep (pe_lst (pa_cons pe_int pa_nil)) (pv 0))))
      (pss_cons (ps_for PassesOwn.never rfl (pi_zip (by rfl) T.n_zip (pa_cons (pv 2) (pa_cons (pv 6) pa_nil))) (pg_tup rfl (pgs_cons (pg_name (i := 10) nd rfl (Or.inl rfl)) (pgs_cons (pg_name (i := 7) nd rfl (Or.inl rfl)) pgs_nil))) (pss_cons (ps_asg (pv 10) (pg_tup rfl (pgs_cons (pg_name (i := 3) nd rfl (Or.inl rfl)) (pgs_cons (pg_name (i := 4) nd rfl (Or.inl rfl)) pgs_nil))))
      (pss_cons (ps_asg (pv 7) (pg_sub (pe_ix (r := rIxL K) ix_list (pv 9) (pv 3) (fun _ _ => rfl)) (pv 4) set_list))
      (pss_one (ps_asg (pv 7) (pg_sub (pe_ix (r := rIxL K) ix_list (pv 9) (pv 4) (fun _ _ => rfl)) (pv 3) set_list))))))
      (pss_one (ps_expr (pe_bm PySem.F.plainAttrs_list PySem.F.slot_list_append PySem.F.type_list_append mt_append (pv 8) (pa_cons (pv 9) pa_nil)))))))
      (pss_one (ps_ret (pv 8)))))))), ?_⟩
    walk_at "op"
    walk_at "st"
    refine fun e0 he0 => ⟨by show 1 ≤ sizeLine; decide, fun E0 hE0 => ⟨Nat.zero_le _, fun B hP => ?_⟩⟩
    walk_at "st"
    rw [Int.toNat_natCast]
    have s0 : Same H (upd (upd H e0 (.lst [])) E0 (.lst [V.ref e0])) := (same_new he0).trans (same_new hE0)
    have hPH := sameFree s0 hP
    have neE : e0 ≠ E0 := ne_of_none upd_same hE0
    have neP : e0 ≠ B := ne_of_none (by rw [upd_ne neE]; exact upd_same) hP
    have nEP : E0 ≠ B := ne_of_none upd_same hP
    have hLL0 : LL (upd (upd (upd H e0 (.lst [])) E0 (.lst [V.ref e0])) B (.lst [])) B E0 [V.ref e0] (fils m 0) := by
      refine ⟨by rw [upd_ne nEP]; exact upd_same, rfl, fun j c q => ?_⟩
      cases j with
      | zero =>
        cases q
        exact ⟨e0, rfl, by rw [upd_ne neP, upd_ne neE]; exact upd_same, neE, neP⟩
      | succ n => cases q
    refine fI walk_range (fun i σ G => ∃ (u3 u4 u5 u6 : Option V) (E : Addr) (ews pws : List V), σ = [some (.int (m : Nat)), some (.ref E), some (.ref B), u3, u4, u5, u6, none, none, none, none] ∧ Same H G ∧ G B = some (.lst pws) ∧ Dats G p pws ((plN m i).map pairD) ∧ LL G B E ews (fils m (plN m i).length) ∧ E ≠ B)
      ⟨none, none, none, none, E0, _, [], rfl, sameOff s0 hPH, upd_same, Dats.nil, hLL0, nEP⟩ (fun _ _ _ _ _ => True.intro) ?_ ?_
    · rintro i x σ _ G hi ⟨u3, u4, u5, u6, E, ews, pws, rfl, sm, hPG, hPd, hLL, nEP'⟩ ⟨rfl, rfl⟩
      dsimp only
      rw [Int.zero_add]
      have hlA := plN_len (by omega : m ≤ 6) i
      walk_at "op"
      refine ⟨_, rfl, _, rfl, _, _, rfl, ⟨by omega, by omega, by omega, by omega⟩, ?_⟩
      rw [show ((m : Int) - (i : Nat)).toNat = m - i by omega]
      refine fI walk_range (fun j σ G => ∃ (u4 u5 u6 : Option V) (E : Addr) (ews pws : List V), σ = [some (.int (m : Nat)), some (.ref E), some (.ref B), some (.int (i : Nat)), u4, u5, u6, none, none, none, none] ∧ Same H G ∧ G B = some (.lst pws) ∧ Dats G p pws ((plN m i ++ prow i j).map pairD) ∧ LL G B E ews (fils m (plN m i ++ prow i j).length) ∧ E ≠ B)
        ⟨_, _, _, E, ews, pws, rfl, sm, hPG, by rw [show prow i 0 = [] from rfl, List.append_nil]; exact hPd, by rw [show prow i 0 = [] from rfl, List.append_nil]; exact hLL, nEP'⟩ (fun _ _ _ _ _ => True.intro) ?_ ?_
      · rintro j x σ _ G hj ⟨u4, u5, u6, E, ews, pws, rfl, sm, hPG, hPd, hLL, nEP'⟩ ⟨rfl, rfl⟩
        have hl := prow_len i j
        have hn5 : (plN m i ++ prow i j).length ≤ 30 := by
          rw [List.length_append]
          omega
        have hn6 := Nat.le_trans (pl_upto (by omega : i < m) hj) (plc_len hm)
        dsimp only
        walk_at "op"
        refine ⟨_, rfl, .inl ⟨rfl, _, SqL.of hPG⟩, _, rfl, _, rfl, by show 2 ≤ sizeLine; decide, fun t ht => ?_⟩
        have st := same_new (o := .tup [.int (i : Nat), .int ((i : Nat) + (j : Nat))]) ht
        have hPt := st _ _ hPG
        have htH := sameFree sm ht
        have hPd2 : Dats (upd (upd G t (.tup [.int (i : Nat), .int ((i : Nat) + (j : Nat))])) B (.lst (pws ++ [.ref t]))) p (pws ++ [.ref t]) ((plN m i ++ prow i (j + 1)).map pairD) := by
          rw [prow_succ, ← List.append_assoc, List.map_append]
          refine ((hPd.off ht).setL hPt (pairs_no _)).snoc (Dat.setL hPt (Dat.new ht (pne_of hp sm ht) ?_) (pairD_no _))
          have q := Dats.ints (H := G) (p := p) [(i : Int), ((i + j : Nat) : Int)]
          simpa using q
        have hB2 : upd (upd G t (.tup [.int (i : Nat), .int ((i : Nat) + (j : Nat))])) B (.lst (pws ++ [.ref t])) B = some (.lst (pws ++ [.ref t])) := upd_same
        have hLL2 : LL (upd (upd G t (.tup [.int (i : Nat), .int ((i : Nat) + (j : Nat))])) B (.lst (pws ++ [.ref t]))) B E ews (fils m (plN m i ++ prow i j).length) := (hLL.same st).ext (fun b u e n => by rw [upd_ne n]; exact e) nEP'
        have sm2 : Same H (upd (upd G t (.tup [.int (i : Nat), .int ((i : Nat) + (j : Nat))])) B (.lst (pws ++ [.ref t]))) := sameOff (sm.trans st) hPH
        refine ⟨B, pws, .ref t, rfl, rfl, hPt, small1000 (by rw [hPd.1, List.length_map]; omega), ?_⟩
        generalize upd (upd G t (.tup [.int (i : Nat), .int ((i : Nat) + (j : Nat))])) B (.lst (pws ++ [.ref t])) = G2 at *
        refine ⟨Nat.zero_le _, fun L hL => ?_⟩
        have nBL : B ≠ L := ne_of_none hB2 hL
        have nEL : E ≠ L := ne_of_none hLL2.at_ hL
        have sL := same_new (o := .lst []) hL
        refine ⟨_, rfl, E, rfl, ⟨_, SqL.of (sL _ _ hLL2.at_)⟩, ?_⟩
        have hpw : m ^ (plN m i ++ prow i j).length ≤ 243 := Nat.le_trans (Nat.pow_le_pow_left hm _) (Nat.le_trans (Nat.pow_le_pow_right (by decide) (show _ ≤ 5 by omega)) (by decide))
        have hflen := fils_len m (plN m i ++ prow i j).length
        have heach := fils_each (m := m) (plN m i ++ prow i j).length
        have hnext : fils m (plN m i ++ prow i (j + 1)).length = fstep m (fils m (plN m i ++ prow i j).length) := by
          rw [prow_succ, ← List.append_assoc, fils_snoc rfl]
        rw [hnext]
        generalize fils m (plN m i ++ prow i j).length = fl at *
        refine fI walk_list (fun l σ G3 => ∃ (u6 : Option V) (lws : List V), σ = [some (.int (m : Nat)), some (.ref E), some (.ref B), some (.int (i : Nat)), some (.int ((i : Nat) + (j : Nat))), some (.ref L), u6, none, none, none, none] ∧ Same G2 G3 ∧ LL G3 B L lws (fstep m (fl.take l)))
          ⟨_, [], rfl, sL, LL.nil upd_same⟩ (fun _ _ _ _ ⟨_, _, _, e, _⟩ => SqL.of (e _ _ hLL2.at_)) ?_ ?_
        · rintro l x σ _ G3 hl ⟨u6, lws, rfl, s3, hLL3⟩ ⟨rfl, hxl⟩
          have hlf : l < fl.length := by rw [← hLL2.len]; exact hl
          have hgl : fl[l]? = some fl[l] := List.getElem?_eq_getElem hlf
          obtain ⟨b, e1, hb, _, _⟩ := hLL2.row l _ hgl
          rw [hxl] at e1
          cases e1
          have hcl := heach _ (List.getElem_mem hlf)
          have htk := take_snoc hgl
          have hlw : lws.length ≤ 729 := by
            rw [hLL3.len, fstep_len, List.length_take]
            refine Nat.le_trans (Nat.mul_le_mul (Nat.le_trans (Nat.min_le_right _ _) (by rw [hflen]; exact hpw)) hm) (by decide)
          generalize fl[l] = c at *
          walk_at "op"
          refine ⟨_, rfl, .inl ⟨rfl, _, SqL.of hLL3.at_⟩, _, rfl, _, rfl, by omega, by omega, ?_⟩
          rw [Int.toNat_natCast]
          refine fun D hD => ?_
          refine lI walk_range (fun n G4 => Same G3 G4 ∧ ∃ dws, LL G4 B D dws (frow c n) ∧ Fresh G3 dws) ⟨same_new hD, [], LL.nil upd_same, fun i b e => (by cases e)⟩ (fun _ _ _ _ => True.intro) ?_ ?_
          · rintro n x _ G4 hn ⟨s4, dws, hD4, fr⟩ ⟨rfl, rfl⟩
            walk_at "op"
            refine ⟨rfl, ?_⟩
            refine iteT ?_
            rw [Int.zero_add]
            have hnl : dws.length = n := by rw [hD4.len, frow_len]
            have hn' : n < m := by omega
            refine ⟨_, rfl, _, rfl, by show 1 ≤ sizeLine; decide, fun t2 ht2 => ⟨b, t2, c.map V.int, _, rfl, rfl, (same_new ht2) _ _ (s4 _ _ (s3 _ _ hb)), upd_same, ?_, fun r hr => ?_⟩⟩
            · refine Nat.le_of_lt (small1000 ?_)
              rw [List.length_map, hcl]
              show _ + 1 ≤ 1000
              omega
            · have s7 : Same G4 (upd (upd G4 t2 (.lst [.int (n : Nat)])) r (.lst (c.map V.int ++ [.int (n : Nat)]))) := (same_new ht2).trans (same_new hr)
              have hrG := sameFree (same_new (o := .lst [.int (n : Nat)]) ht2) hr
              refine ⟨dws, s7 _ _ hD4.at_, small1000 (by omega), sameOff (s4.trans s7) hD, dws ++ [.ref r], ?_, fr.snoc (sameFree s4 hrG)⟩
              rw [frow_succ]
              exact (hD4.same s7).snoc (by rw [List.map_append]; exact upd_same) (ne_of_none hD4.at_ hrG).symm (ne_of_none (s4 _ _ (s3 _ _ hB2)) hrG).symm
          · rintro G4 ⟨s4, dws, hD4, fr⟩
            refine ⟨L, D, lws, dws, rfl, rfl, s4 _ _ hLL3.at_, hD4.at_, ?_, ⟨_, lws ++ dws, rfl, sameOff (s3.trans s4) hL, ?_⟩⟩
            · refine Nat.le_of_lt (small1000 ?_)
              rw [hD4.len, frow_len]
              omega
            · rw [htk, fstep_snoc]
              exact (hLL3.same s4).app hD4 fun i b' e z => by
                have := fr i b' e
                rw [z, hLL3.at_] at this
                cases this
        · rintro σ G3 ⟨u6, lws, rfl, s3, hLL3⟩
          walk_at "op"
          rw [hLL2.len, List.take_length] at hLL3
          have sm3 := sm2.trans s3
          refine ⟨_, rfl, ?_⟩
          exact ⟨_, _, _, L, lws, _, rfl, sm3, s3 _ _ hB2, ⟨hPd2.1, fun i x d a b => (hPd2.2 i x d a b).same s3⟩, hLL3, nBL.symm⟩
      · rintro σ G ⟨u4, u5, u6, E, ews, pws, rfl, sm, hPG, hPd, hLL, nEP'⟩
        rw [← plN_succ] at hPd hLL
        exact ⟨_, _, _, _, E, ews, pws, rfl, sm, hPG, hPd, hLL, nEP'⟩
    · rintro σ G ⟨u3, u4, u5, u6, E, ews, pws, rfl, sm, hPG, hPd, hLL, nEP'⟩
      walk_at "op"
      walk_at "st"
      refine fun F hF => ?_
      have hPd : Dats G p pws ((plc m).map pairD) := hPd
      have hLL : LL G B E ews (fils m (plc m).length) := hLL
      have sF := same_new (o := .lst []) hF
      have h6 := plc_len hm
      have hpl : pws.length = (plc m).length := by rw [hPd.1, List.length_map]
      refine ⟨_, rfl, E, rfl, ⟨_, SqL.of (sF _ _ hLL.at_)⟩, ?_⟩
      refine fI walk_list (fun l σ G3 => ∃ (u3 u4 u6 u7 u9 u10 : Option V) (fws : List V), σ = [some (.int (m : Nat)), some (.ref E), some (.ref B), u3, u4, u5, u6, u7, some (.ref F), u9, u10] ∧ Same G G3 ∧ G3 F = some (.lst fws) ∧ Dats G3 F fws (((everyT m).take l).map tabL))
        ⟨_, _, _, _, _, _, [], rfl, sF, upd_same, Dats.nil⟩ (fun _ _ _ _ ⟨_, _, _, _, _, _, _, _, e, _⟩ => SqL.of (e _ _ hLL.at_)) ?_ ?_
      · rintro l x σ _ G3 hl ⟨v3, v4, v6, v7, v9, v10, fws, rfl, s3, hF3, hFd⟩ ⟨rfl, hxl⟩
        have hlf : l < (fils m (plc m).length).length := by rw [← hLL.len]; exact hl
        have hgl : (fils m (plc m).length)[l]? = some (fils m (plc m).length)[l] := List.getElem?_eq_getElem hlf
        obtain ⟨b, e1, hb, _, _⟩ := hLL.row l _ hgl
        rw [hxl] at e1
        cases e1
        have hcl := fils_each _ _ (List.getElem_mem hlf)
        have hel : (everyT m)[l]? = some (fillN m ((plc m).zip (fils m (plc m).length)[l])) := by
          unfold everyT
          rw [List.getElem?_map, hgl]
          rfl
        have htk := take_snoc hel
        have h729 : fws.length ≤ 729 := by
          rw [hFd.1, List.length_map, List.length_take]
          refine Nat.le_trans (Nat.min_le_right _ _) ?_
          unfold everyT
          rw [List.length_map, fils_len]
          exact pow_small hm h6
        generalize (fils m (plc m).length)[l] = c at *
        walk_at "op"
        refine ⟨_, rfl, _, rfl, by omega, by omega, ?_⟩
        rw [Int.toNat_natCast]
        refine fun C hC => ?_
        have nFC : F ≠ C := ne_of_none hF3 hC
        refine lI walk_range (fun j G4 => Same G3 G4 ∧ ∃ ws, LL G4 F C ws (List.replicate j (List.replicate m 0)) ∧ Inj ws ∧ Fresh G3 ws) ⟨same_new hC, [], LL.nil upd_same, fun i1 i2 b e => (by cases e), fun i b e => (by cases e)⟩ (fun _ _ _ _ => True.intro) ?_ ?_
        · rintro j x _ G4 hj ⟨s4, ws, hLL4, inj, fresh⟩ ⟨rfl, rfl⟩
          walk_at "op"
          refine ⟨rfl, ?_⟩
          refine iteT ?_
          refine ⟨by show 1 ≤ sizeLine; decide, fun t ht => ⟨_, rfl, ⟨t, _, _, rfl, rfl, upd_same, by omega, by omega, by rw [sizeLine_eq]; show 1 * _ ≤ _; omega, fun r hr => ?_⟩⟩⟩
          have e0 : (List.replicate (m : Int).toNat [V.int 0]).flatten = (List.replicate m (0 : Int)).map V.int := rep_zero m
          rw [e0]
          have s1 : Same G4 (upd (upd G4 t (.lst [.int 0])) r (.lst ((List.replicate m (0 : Int)).map V.int))) := (same_new ht).trans (same_new hr)
          have hrG := sameFree (same_new (o := .lst [.int 0]) ht) hr
          have wl : ws.length ≤ 3 := by
            rw [hLL4.len, List.length_replicate]
            omega
          refine ⟨ws, s1 _ _ hLL4.at_, small1000 (by omega), sameOff (s4.trans s1) hC, ws ++ [.ref r], ?_, inj.snoc (hLL4.off hrG), fresh.snoc (sameFree s4 hrG)⟩
          rw [rep_snoc]
          exact (hLL4.same s1).snoc upd_same (ne_of_none hLL4.at_ hrG).symm (ne_of_none (s4 _ _ hF3) hrG).symm
        · rintro G4 ⟨s4, ws, hLL4, inj, fresh⟩
          walk_at "op"
          have s04 := s3.trans s4
          refine ⟨_, rfl, _, rfl, B, b, pws, c.map V.int, rfl, SqL.of (s04 _ _ hPG), SqL.of (s04 _ _ hb), ?_⟩
          refine fI (walk_zip (n := pws.length) (by rw [hpl, List.length_map, hcl, Nat.min_self])) (fun i σ G5 => ∃ (w3 w4 w7 w10 : Option V), σ = [some (.int (m : Nat)), some (.ref E), some (.ref B), w3, w4, u5, some (.ref b), w7, some (.ref F), some (.ref C), w10] ∧ Same G3 G5 ∧ LL G5 F C ws (fillN m (((plc m).zip c).take i)))
            ⟨_, _, _, _, rfl, s4, hLL4⟩ (fun i σ G _ ⟨_, _, _, _, _, e, _⟩ => ⟨SqL.of (e _ _ (s3 _ _ hPG)), SqL.of (e _ _ (s3 _ _ hb))⟩) ?_ ?_
          · rintro i x σ G5 _ hi ⟨w3, w4, w7, w10, rfl, s5, hLL5⟩ ⟨T, y1, y2, rfl, hT, rfl, g1, g2⟩
            have hi2 : i < (plc m).length := by omega
            have hi3 : i < c.length := by omega
            have ez : ((plc m).zip c)[i]? = some ((plc m)[i], c[i]) := by rw [List.getElem?_zip_eq_some]; exact ⟨List.getElem?_eq_getElem hi2, List.getElem?_eq_getElem hi3⟩
            obtain ⟨d, hd1, hd2⟩ := hPd.at g1
            rw [List.getElem?_map, List.getElem?_eq_getElem hi2] at hd1
            cases hd1
            obtain ⟨pa, rfl, hpa, _⟩ := pair_parts hd2
            have g2' : (c.map V.int)[i]? = some y2 := g2
            rw [List.getElem?_map, List.getElem?_eq_getElem hi3] at g2'
            cases g2'
            obtain ⟨lt1, lt2⟩ := plc_in _ (List.getElem_mem hi2)
            have s6 : Same G5 (upd G5 T (.tup [V.ref pa, V.int c[i]])) := same_new hT
            have hLL6 := hLL5.same s6
            have s7 := s5.trans s6
            refine ⟨T, _, rfl, SqT.of upd_same, rfl, _, _, rfl, _, _, rfl, rfl, ?_⟩
            refine ⟨_, rfl, pa, _, rfl, SqT.of (s7 _ _ (s3 _ _ hpa)), rfl, _, _, rfl, _, _, rfl, rfl, ?_⟩
            refine set_core (sr := 9) (sa := 3) (sb := 4) (sn := 7) s7 hLL6 inj fresh (sq_fillN m _) lt1 lt2 rfl rfl rfl rfl fun G7 s8 hLL7 sq3 => ?_
            refine set_core (sr := 9) (sa := 4) (sb := 3) (sn := 7) s8 hLL7 inj fresh sq3 lt2 lt1 rfl rfl rfl rfl fun G8 s9 hLL8 sq4 => ?_
            refine ⟨_, _, _, _, rfl, s9, ?_⟩
            rw [fillN_snoc ez]
            exact hLL8
          · rintro σ G5 ⟨w3, w4, w7, w10, rfl, s5, hLL5⟩
            have efl : fillN m (((plc m).zip c).take pws.length) = fillN m ((plc m).zip c) := by rw [List.take_of_length_le]; rw [List.length_zip]; omega
            rw [efl] at hLL5
            walk_at "op"
            have hF5 := s5 _ _ hF3
            refine ⟨_, rfl, .inl ⟨rfl, _, SqL.of hF5⟩, _, rfl, F, fws, .ref C, rfl, rfl, hF5, small1000 (by omega), ?_⟩
            refine ⟨_, _, _, _, _, _, fws ++ [.ref C], rfl, sameOff (s3.trans s5) hF, upd_same, ?_⟩
            rw [htk, List.map_append]
            have ext : Ext F G5 (upd G5 F (.lst (fws ++ [.ref C]))) := fun b u e n => by rw [upd_ne n]; exact e
            refine Dats.snoc ⟨hFd.1, fun i x d a b => ((hFd.2 i x d a b).same s5).ext ext⟩ ((hLL5.dat nFC.symm).ext ext)
      · rintro σ G3 ⟨v3, v4, v6, v7, v9, v10, fws, rfl, s3, hF3, hFd⟩
        have ee : (everyT m).take ews.length = everyT m := List.take_of_length_le (by unfold everyT; rw [List.length_map, hLL.len]; exact Nat.le_refl _)
        rw [ee] at hFd
        exact ⟨_, rfl, k F fws G3 (sameFree sm hF) hF3 hFd (sm.trans s3)⟩
end
end Fm
end FS5
section FFmSortD
set_option Elab.async false
set_option linter.all false
set_option maxRecDepth 100000
set_option maxHeartbeats 4000000
namespace Fm
open PySem PySem.Spec PySem.Calls PyProof.Rows L2
/-! ### sorted over nested data -/
def rSortD (K : PySem.W.Frag) : List V → Hp → VK → Prop := fun xs H Q => ∃ (a p : Addr) (ws : List V) (ds : List PyData), xs = [V.ref a] ∧ SqL K H a ws ∧ Dats H p ws ds ∧ PySem.W.AllAlike ds ∧ PySem.W.Sortable ds ∧ (∀ d ∈ ds, d.depth ≤ 60) ∧
  ∀ (ws' : List V) (q : Addr), Dats H p ws' (ds.mergeSort (PySem.W.dataLe false id)) → H q = none → Q (.ref q) (upd H q (.lst ws'))
theorem each_rel {H : Hp} {p : Addr} : ∀ {ws : List V} {its : List Value} {ds : List PyData}, Vals ws its → Dats H p ws ds → PySem.W.EachIs (fun u d => ∃ y, RelV y u ∧ Dat H p y d) its ds
  | [], _, ds, r, h => by
    cases r
    cases ds with
    | nil => exact .nil
    | cons d ds => exact absurd h.1 (by simp)
  | x :: ws, _, ds, r, h => by
    cases r with
    | cons r1 r2 =>
      cases ds with
      | nil => exact absurd h.1 (by simp)
      | cons d ds =>
        refine .cons ⟨x, r1, h.2 0 x d rfl rfl⟩ (each_rel r2 ⟨by simpa using h.1, fun i y e a b => h.2 (i + 1) y e a b⟩)
theorem rel_each {H : Hp} {p : Addr} : ∀ {out : List Value} {ds : List PyData}, PySem.W.EachIs (fun u d => ∃ y, RelV y u ∧ Dat H p y d) out ds → ∃ ws, Vals ws out ∧ Dats H p ws ds
  | _, _, .nil => ⟨[], .nil, Dats.nil⟩
  | _, _, .cons ⟨y, r, h⟩ t => by
    obtain ⟨ws, rv, hd⟩ := rel_each t
    exact ⟨y :: ws, .cons r rv, Dats.cons h hd⟩
theorem cr_sortData {X : Cx} (hu : X.A.units + 64 < cLine) : CallR X (.builtin "sorted") (rSortD X.K) := by
  intro pins s σ H vs us Q I r h
  obtain ⟨a, p, ws, ds, rfl, hs, hd, hal, hso, hdp, q⟩ := h
  obtain ⟨its, rv, hl, hz⟩ := I.list hs
  rw [Vals.ref1 r]
  have e := each_rel rv hd
  have hmap : ds.map id = ds := List.map_id ds
  have er : PySem.W.EachIs (fun v (b : PyData) => ∃ as, Reads s.heap v (id b) as) its ds := e.mono fun u d ⟨y, r, h⟩ => by
    obtain ⟨as, R, _⟩ := h.reads I u r
    exact ⟨as, R⟩
  refine PySem.W.sorted_data (enc := id) hl.isList e er (by rw [hmap]; exact hal) (by rw [hmap]; exact hso) (by rw [← hd.1]; exact hz) (fun d hm => ?_) fun out h1 h2 => ?_
  · have := hdp d hm
    show X.A.units + 2 + d.depth < cLine
    omega
  · obtain ⟨ws', rv', hd'⟩ := rel_each h2
    obtain ⟨ep, he'⟩ := PyProof.Rows.sortedAll_at s.heap its out.toArray
    have hlen : ws'.length ≤ sizeLine := by
      rw [hd'.1, (List.mergeSort_perm ds _).length_eq, ← hd.1]
      exact hz
    exact ⟨.ref _, upd H (s.heap.objs.size + 1) (.lst ws'), I.laid (t' := s.toks) (fun _ _ => PyProof.Rows.sortedAll_old) (Nat.le_succ _) ⟨hlen, out, ep, rv', he'⟩, rfl, q _ _ hd' (I.hok.fresh (Nat.le_succ _))⟩
/-- xs + ys, the lists told of or given -/
def rCatP (K : PySem.W.Frag) : R2 := fun x y H Q => ∃ l b xs zs, x = .ref l ∧ y = .ref b ∧ SqL K H l xs ∧ SqL K H b zs ∧ xs.length + zs.length ≤ sizeLine ∧ ∀ p, H p = none → Q (.ref p) (upd H p (.lst (xs ++ zs)))
theorem op_catP {X : Cx} : OpR X (binaryOp .Add) (rCatP X.K) := by
  intro pins s σ H x y v u Q I rx ry h
  obtain ⟨l, b, xs, zs, rfl, rfl, hH, hB, hz, q⟩ := h
  cases rx
  cases ry
  obtain ⟨its, r, pl, _⟩ := I.list hH
  obtain ⟨its2, r2, pl2, _⟩ := I.list hB
  obtain ⟨⟨cls, dd, data, sl⟩, ho, hc, n, hd⟩ := pl.isList
  obtain ⟨⟨cls2, dd2, data2, sl2⟩, ho2, hc2, n2, hd2⟩ := pl2.isList
  simp only at hc hd hc2 hd2
  subst hc hd hc2 hd2
  have ea : its.toArray ++ its2.toArray = (its ++ its2).toArray := by simp
  refine concat_meets ⟨_, ho, rfl⟩ ⟨_, ho2, rfl⟩ noFill_list_add seq_list_add PySem.F.slot_list_add PySem.F.entry_list_add (PySem.F.args_list_add_2 _ _) (list_addW l b its.toArray its2.toArray n n2 dd dd2 sl sl2 (by rw [List.size_toArray, List.size_toArray, ← r.length, ← r2.length]; exact hz)) ⟨ho, ho2, ?_⟩
  rw [ea]
  exact ⟨.ref _, _, I.lnew (t' := s.toks) (r.append r2) (by rw [List.length_append]; exact hz), rfl, q _ I.fresh⟩
end Fm
end FFmSortD
section FS6
set_option Elab.async false
set_option linter.all false
set_option maxRecDepth 100000
set_option maxHeartbeats 4000000
local macro_rules | `(tactic| walk_at "ne") => `(tactic| first | assumption | (apply Ne.symm; assumption) | exact L2.ne_of_none (by assumption) (by assumption) | exact Ne.symm (L2.ne_of_none (by assumption) (by assumption)))
local macro_rules | `(tactic| walk_at "hl") => `(tactic| first | assumption | exact L2.upd_same | (refine Eq.trans (L2.upd_ne (by walk_at "ne")) ?_; walk_at "hl"))
local macro_rules | `(tactic| walk_at "sd") => `(tactic| first | (with_reducible show (_ : Int) < _; omega) | (with_reducible show (_ : Int) ≤ _; omega) | assumption | decide | exact ⟨by assumption, by assumption⟩ | exact ⟨by decide, by decide⟩ | exact Or.inr ⟨by decide, by decide⟩ | exact Or.inl ⟨by omega, by omega⟩ | rfl)
local macro_rules | `(tactic| walk_at "st1") => `(tactic| first
  | refine ⟨_, rfl, ?_⟩
  | refine ⟨_, _, rfl, rfl, ?_⟩
  | refine ⟨_, _, rfl, ?_⟩
  | (refine ⟨_, _, _, _, rfl, rfl, L2.SqL.of (by walk_at "hl"), rfl, ?_⟩)
  | (refine ⟨_, _, _, _, rfl, rfl, L2.SqT.of (by walk_at "hl"), rfl, ?_⟩)
  | (refine ⟨_, _, _, _, rfl, rfl, (by walk_at "hl"), rfl, ?_⟩)
  | (refine And.intro (by walk_at "sd") ?_)
  )
local macro_rules | `(tactic| walk_at "st") => `(tactic| repeat walk_at "st1")
local macro_rules | `(tactic| walk_at "op") => `(tactic| try dsimp only [L2.tSeq, L2.tAsg, L2.tOp, L2.tVar, L2.tC, L2.gSub, L2.rI, L2.rI0, L2.rIxL, L2.rIxT, L2.rSetL, L2.tIfS, L2.tTest, L2.tRet, L2.gName, L2.tNext, L2.tAnd, L2.tOr, L2.tNot, L2.tAndV, L2.tOrV, L2.tNotV, L2.tB, L2.tCB, L2.tCons, L2.tNil, L2.tCall, L2.tTup, L2.tLst, L2.tChain, L2.tUn, L2.tPar, L2.tDrop, L2.tIf, L2.tBM, L2.tBM0, L2.rAppend, L2.rCat, L2.rIsi, L2.rIsiT, L2.gTup, L2.gCons, L2.gNil, Fm.tFor_eq, Fm.tLc_eq, Fm.tLc2_eq, L2.iTup, L2.iList, L2.iRng1, L2.iRng2, L2.tSl, L2.tPart, L2.tNoPart, L2.rSlL, L2.rEq, L2.rNe, L2.rU, L2.rEqD, L2.rNeD, Fm.tRevT, Fm.rLenS, Fm.rTupOf, Fm.rLstOf, L2.tDNewK, L2.tCallS, L2.WE, Fm.wKeep, Fm.rIsK, Fm.rIsKT, List.cons_append, List.nil_append, L2.tYes])
namespace Fm
open PySem PySem.Spec PyProof.Rows L2
abbrev s_law_holds : Stmt := top 17
abbrev N_law_holds : List Str := ["rows", "m", "a", "b", "c"]
theorem sc_law_holds : FnScope N_law_holds ["rows"] (defScope s_law_holds) := ⟨rfl, rfl, rfl, by decide +kernel, rfl, by decide +kernel, by decide +kernel⟩
section
variable {P : Program} {w : World} {K : PySem.W.Frag} {mg : Str → Option Value} {base : Heap}
/-! ### the law's own look at a table -/
def holdsT (m : Nat) (t : List (List Int)) : Bool := (List.range m).all fun a => (List.range m).all fun b => (List.range m).all fun c => decide (putT t (putT t a b) c = putT t a (putT t b c))
theorem lst_parts {H : Hp} {p : Addr} {v : V} {ds : List PyData} (h : Dat H p v (.list ds)) : ∃ a xs, v = .ref a ∧ H a = some (.lst xs) ∧ a ≠ p ∧ Dats H p xs ds := by
  cases h with
  | lst h1 h2 h3 h4 => exact ⟨_, _, rfl, h1, h2, h3, h4⟩
theorem rowL_parts {H : Hp} {p : Addr} {v : V} {r : List Int} (h : Dat H p v (rowL r)) : ∃ a, v = .ref a ∧ H a = some (.lst (r.map V.int)) ∧ a ≠ p := by
  obtain ⟨a, ys, rfl, ha, np, hs⟩ := lst_parts h
  rw [dats_ints hs] at ha
  exact ⟨a, rfl, ha, np⟩
theorem tabL_parts {H : Hp} {p : Addr} {v : V} {m : Nat} {t : List (List Int)} (h : Dat H p v (tabL t)) (T : Tab m t) : ∃ ta xs, v = .ref ta ∧ H ta = some (.lst xs) ∧ xs.length = m ∧ Dats H p xs (t.map rowL) ∧
    ∀ a b, a < m → b < m → ∃ ra ys, xs[a]? = some (.ref ra) ∧ H ra = some (.lst ys) ∧ ys[b]? = some (.int (putT t a b : Nat)) ∧ putT t a b < m := by
  obtain ⟨ta, xs, rfl, ha, np, hs⟩ := lst_parts h
  refine ⟨ta, xs, rfl, ha, by rw [hs.1, List.length_map, T.len], hs, fun a b hA hB => ?_⟩
  obtain ⟨r, e1, e2, e3, e4⟩ := T.get hA hB
  obtain ⟨y, ey, ed⟩ := hs.back (i := a) (d := rowL r) (by rw [List.getElem?_map, e1]; rfl)
  obtain ⟨ra, rfl, hra, _⟩ := rowL_parts ed
  exact ⟨ra, _, ey, hra, by rw [List.getElem?_map, e2, e3]; rfl, e4⟩
theorem all_no {m a : Nat} {f : Nat → Bool} (ha : a < m) (h : f a = false) : (List.range m).all f = false := by
  rw [List.all_eq_false]
  exact ⟨a, List.mem_range.mpr ha, by rw [h]; decide⟩
theorem all_yes {m : Nat} {f : Nat → Bool} (h : ∀ a < m, f a = true) : (List.range m).all f = true := by
  rw [List.all_eq_true]
  exact fun a ha => h a (List.mem_range.mp ha)
def spHolds : Sp := fun vs H Q _ => ∃ (tv : V) (p : Addr) (m : Nat) (t : List (List Int)), vs = [tv] ∧ Dat H p tv (tabL t) ∧ Tab m t ∧ m ≤ 6 ∧ Q (.bl (holdsT m t)) H
theorem ok_law_holds (D : Df K mg "_law_holds" s_law_holds ["rows"]) (T : Nms mg) : CallOk P w K mg base CX0 1 "_law_holds" ["rows"] spHolds := by
  refine df_ok D sc_law_holds (fun vs H Q E h => ?_) (fun f cdv A outer s H vs Q E hr h => ?_)
  · obtain ⟨tv, p, m, t, rfl, _⟩ := h
    rfl
  · obtain ⟨tv, p, m, t, rfl, hd, hT, hm, k⟩ := h
    have nd := sc_law_holds.nd
    obtain ⟨ta, xs, rfl, hta, hxl, hxs, hget⟩ := tabL_parts hd hT
    refine ⟨_, (pss_cons (ps_set (i := 1) nd rfl (Or.inl rfl) (pe_callB (r := rLenS K) call_lenS (by rfl) T.n_len (by decide +kernel) (pa_cons (pv 0) pa_nil)))
      (pss_cons (ps_for PassesOwn.never rfl (pi_range1 rfl T.n_range (pa_cons (pv 1) pa_nil)) (pg_name (i := 2) nd rfl (Or.inl rfl)) (pss_one (ps_for PassesOwn.never rfl (pi_range1 rfl T.n_range (pa_cons (pv 1) pa_nil)) (pg_name (i := 3) nd rfl (Or.inl rfl)) (pss_one (ps_for PassesOwn.never rfl (pi_range1 rfl T.n_range (pa_cons (pv 1) pa_nil)) (pg_name (i := 4) nd rfl (Or.inl rfl)) (pss_one (ps_if (pt_cmpR op_ne (pe_ix (r := rIxL K) ix_list (pe_ix (r := rIxL K) ix_list (pv 0) (pe_ix (r := rIxL K) ix_list (pe_ix (r := rIxL K) ix_list (pv 0) (pv 2) (fun _ _ => rfl)) (pv 3) (fun _ _ => rfl)) (fun _ _ => rfl)) (pv 4) (fun _ _ => rfl)) (pe_ix (r := rIxL K) ix_list (pe_ix (r := rIxL K) ix_list (pv 0) (pv 2) (fun _ _ => rfl)) (pe_ix (r := rIxL K) ix_list (pe_ix (r := rIxL K) ix_list (pv 0) (pv 3) (fun _ _ => rfl)) (pv 4) (fun _ _ => rfl)) (fun _ _ => rfl)) (nomark _)) (pss_one (ps_ret pe_bl)) pss_nil)))))))
      (pss_one (ps_ret pe_bl)))), ?_⟩
    walk_at "op"
    walk_at "st"
    refine ⟨_, _, rfl, .inl (SqL.of hta), ?_⟩
    rw [hxl]
    refine ⟨_, rfl, _, rfl, by omega, by omega, ?_⟩
    rw [Int.toNat_natCast]
    have bad : ∀ a b c, a < m → b < m → c < m → decide (putT t (putT t a b) c = putT t a (putT t b c)) = false → Q (.bl false) H := fun a b c ha hb hc z => by
      rw [show holdsT m t = false from all_no ha (all_no hb (all_no hc z))] at k
      exact k
    refine fI walk_range (fun i σ G => H = G ∧ (∃ u1 u2 u3, σ = [some (.ref ta), some (.int (m : Nat)), u1, u2, u3]) ∧ ∀ a < i, (List.range m).all (fun b => (List.range m).all fun c => decide (putT t (putT t a b) c = putT t a (putT t b c))) = true)
      ⟨rfl, ⟨_, _, _, rfl⟩, fun a ha => by omega⟩ (fun _ _ _ _ _ => True.intro) ?_ ?_
    · rintro a x σ _ H ha ⟨rfl, ⟨u1, u2, u3, rfl⟩, ya⟩ ⟨rfl, rfl⟩
      dsimp only
      rw [Int.zero_add]
      walk_at "op"
      refine ⟨_, rfl, _, rfl, by omega, by omega, ?_⟩
      rw [Int.toNat_natCast]
      refine fI walk_range (fun i σ G => H = G ∧ (∃ u2 u3, σ = [some (.ref ta), some (.int (m : Nat)), some (.int (a : Nat)), u2, u3]) ∧ ∀ b < i, (List.range m).all (fun c => decide (putT t (putT t a b) c = putT t a (putT t b c))) = true)
        ⟨rfl, ⟨_, _, rfl⟩, fun a ha => by omega⟩ (fun _ _ _ _ _ => True.intro) ?_ ?_
      · rintro b x σ _ H hb ⟨rfl, ⟨u2, u3, rfl⟩, yb⟩ ⟨rfl, rfl⟩
        dsimp only
        rw [Int.zero_add]
        walk_at "op"
        refine ⟨_, rfl, _, rfl, by omega, by omega, ?_⟩
        rw [Int.toNat_natCast]
        refine fI walk_range (fun i σ G => H = G ∧ (∃ u3, σ = [some (.ref ta), some (.int (m : Nat)), some (.int (a : Nat)), some (.int (b : Nat)), u3]) ∧ ∀ c < i, decide (putT t (putT t a b) c = putT t a (putT t b c)) = true)
          ⟨rfl, ⟨_, rfl⟩, fun a ha => by omega⟩ (fun _ _ _ _ _ => True.intro) ?_ ?_
        · rintro c x σ _ H hc ⟨rfl, ⟨u3, rfl⟩, yc⟩ ⟨rfl, rfl⟩
          dsimp only
          rw [Int.zero_add]
          obtain ⟨r1, y1, g1, g2, g3, g4⟩ := hget a b ha hb
          obtain ⟨r2, y2, g5, g6, g7, g8⟩ := hget (putT t a b) c g4 hc
          obtain ⟨r3, y3, g9, g10, g11, g12⟩ := hget b c hb hc
          obtain ⟨r4, y4, g13, g14, g15, g16⟩ := hget a (putT t b c) ha g12
          walk_at "op"
          refine ⟨_, rfl, _, rfl, _, rfl, ta, xs, _, _, rfl, rfl, SqL.of hta, atI_nat g1, _, rfl, r1, y1, _, _, rfl, rfl, SqL.of g2, atI_nat g3, ta, xs, _, _, rfl, rfl, SqL.of hta, atI_nat g5, _, rfl, r2, y2, _, _, rfl, rfl, SqL.of g6, atI_nat g7,
            _, rfl, _, rfl, ta, xs, _, _, rfl, rfl, SqL.of hta, atI_nat g13, _, rfl, _, rfl, ta, xs, _, _, rfl, rfl, SqL.of hta, atI_nat g9, _, rfl, r3, y3, _, _, rfl, rfl, SqL.of g10, atI_nat g11, r4, y4, _, _, rfl, rfl, SqL.of g14, atI_nat g15, ?_⟩
          refine ⟨rfl, _, rfl, ?_⟩
          by_cases e : putT t (putT t a b) c = putT t a (putT t b c)
          · rw [show (!decide (V.int (putT t (putT t a b) c : Nat) = V.int (putT t a (putT t b c) : Nat))) = false from by rw [e, decide_eq_true rfl]; rfl]
            refine iteF ⟨rfl, ⟨_, rfl⟩, fun c' hc' => ?_⟩
            by_cases e' : c' = c
            · subst e'; exact decide_eq_true e
            · exact yc c' (by omega)
          · rw [show (!decide (V.int (putT t (putT t a b) c : Nat) = V.int (putT t a (putT t b c) : Nat))) = true from by
              rw [decide_eq_false (fun z => e (by injection z with z; exact Int.ofNat.inj z))]; rfl]
            exact iteT (bad a b c ha hb hc (decide_eq_false e))
        · rintro σ G ⟨rfl, ⟨u3, rfl⟩, yc⟩
          exact ⟨rfl, ⟨_, _, rfl⟩, fun b' hb' => by
            by_cases e : b' = b
            · subst e; exact all_yes yc
            · exact yb b' (by omega)⟩
      · rintro σ G ⟨rfl, ⟨u2, u3, rfl⟩, yb⟩
        exact ⟨rfl, ⟨_, _, _, rfl⟩, fun b' hb' => by
            by_cases e : b' = a
            · subst e; exact all_yes yb
            · exact ya b' (by omega)⟩
    · rintro σ G ⟨rfl, ⟨u1, u2, u3, rfl⟩, ya⟩
      walk_at "op"
      rw [show holdsT m t = true from all_yes ya] at k
      exact k
/-! ### semigroups -/
def semisT (m : Nat) : List (List (List Int)) := (everyT m).filter semi
def dueD (m : Nat) : List PyData := ((semisT m).map tabD).mergeSort (PySem.W.dataLe false id)
def tabB (m : Nat) (t : List (List Int)) : Bool := decide (t.length = m) && t.all fun r => decide (r.length = m) && r.all fun c => decide (0 ≤ c) && decide (c < m)
theorem tab_of {m : Nat} {t : List (List Int)} (h : tabB m t = true) : Tab m t := by
  unfold tabB at h
  simp only [Bool.and_eq_true, decide_eq_true_eq, List.all_eq_true] at h
  exact ⟨h.1, fun r hr => (h.2 r hr).1, fun r hr c hc => (h.2 r hr).2 c hc⟩
theorem every_tabB {m : Nat} (h1 : 1 ≤ m) (hm : m ≤ 3) : (everyT m).all (tabB m) = true := by
  have : m = 1 ∨ m = 2 ∨ m = 3 := by omega
  rcases this with rfl | rfl | rfl <;> decide +kernel
theorem every_tab {m : Nat} (h1 : 1 ≤ m) (hm : m ≤ 3) (t : List (List Int)) (ht : t ∈ everyT m) : Tab m t := tab_of (List.all_eq_true.mp (every_tabB h1 hm) t ht)
theorem semis_holds {m : Nat} (h1 : 1 ≤ m) (hm : m ≤ 3) : (everyT m).filter (holdsT m) = semisT m := by
  have : m = 1 ∨ m = 2 ∨ m = 3 := by omega
  rcases this with rfl | rfl | rfl <;> decide +kernel
end
end Fm
end FS6
section FS7
set_option Elab.async false
set_option linter.all false
set_option maxRecDepth 100000
set_option maxHeartbeats 4000000
local macro_rules | `(tactic| walk_at "ne") => `(tactic| first | assumption | (apply Ne.symm; assumption) | exact L2.ne_of_none (by assumption) (by assumption) | exact Ne.symm (L2.ne_of_none (by assumption) (by assumption)))
local macro_rules | `(tactic| walk_at "hl") => `(tactic| first | assumption | exact L2.upd_same | (refine Eq.trans (L2.upd_ne (by walk_at "ne")) ?_; walk_at "hl"))
local macro_rules | `(tactic| walk_at "sd") => `(tactic| first | (with_reducible show (_ : Int) < _; omega) | (with_reducible show (_ : Int) ≤ _; omega) | assumption | decide | exact ⟨by assumption, by assumption⟩ | exact ⟨by decide, by decide⟩ | exact Or.inr ⟨by decide, by decide⟩ | exact Or.inl ⟨by omega, by omega⟩ | rfl)
local macro_rules | `(tactic| walk_at "st1") => `(tactic| first
  | refine ⟨_, rfl, ?_⟩
  | refine ⟨_, _, rfl, rfl, ?_⟩
  | refine ⟨_, _, rfl, ?_⟩
  | (refine ⟨_, _, _, _, rfl, rfl, L2.SqL.of (by walk_at "hl"), rfl, ?_⟩)
  | (refine ⟨_, _, _, _, rfl, rfl, L2.SqT.of (by walk_at "hl"), rfl, ?_⟩)
  | (refine ⟨_, _, _, _, rfl, rfl, (by walk_at "hl"), rfl, ?_⟩)
  | (refine And.intro (by walk_at "sd") ?_)
  )
local macro_rules | `(tactic| walk_at "st") => `(tactic| repeat walk_at "st1")
local macro_rules | `(tactic| walk_at "op") => `(tactic| try dsimp only [L2.tSeq, L2.tAsg, L2.tOp, L2.tVar, L2.tC, L2.gSub, L2.rI, L2.rI0, L2.rIxL, L2.rIxT, L2.rSetL, L2.tIfS, L2.tTest, L2.tRet, L2.gName, L2.tNext, L2.tAnd, L2.tOr, L2.tNot, L2.tAndV, L2.tOrV, L2.tNotV, L2.tB, L2.tCB, L2.tCons, L2.tNil, L2.tCall, L2.tTup, L2.tLst, L2.tChain, L2.tUn, L2.tPar, L2.tDrop, L2.tIf, L2.tBM, L2.tBM0, L2.rAppend, L2.rCat, L2.rIsi, L2.rIsiT, L2.gTup, L2.gCons, L2.gNil, Fm.tFor_eq, Fm.tLc_eq, Fm.tLc2_eq, L2.iTup, L2.iList, L2.iRng1, L2.iRng2, L2.tSl, L2.tPart, L2.tNoPart, L2.rSlL, L2.rEq, L2.rNe, L2.rU, L2.rEqD, L2.rNeD, Fm.tRevT, Fm.rLenS, Fm.rTupOf, Fm.rLstOf, L2.tDNewK, L2.tCallS, L2.WE, Fm.wKeep, Fm.rIsK, Fm.rIsKT, List.cons_append, List.nil_append, L2.tYes])
namespace Fm
open PySem PySem.Spec PyProof.Rows L2
abbrev s_semigroups : Stmt := top 11
abbrev N_semigroups : List Str := ["m", "table"]
theorem sc_semigroups : FnScope N_semigroups ["m"] (defScope s_semigroups) := ⟨rfl, rfl, rfl, by decide +kernel, rfl, by decide +kernel, by decide +kernel⟩
section
variable {P : Program} {w : World} {K : PySem.W.Frag} {mg : Str → Option Value} {base : Heap}
theorem fit_row {m : Nat} {r : List Int} (hm : m ≤ 3) (hl : r.length = m) (hc : ∀ c ∈ r, 0 ≤ c ∧ c < m) : Fit 132 1 (rowD r) := by
  refine (fit_tup (n := 41) (k := 0) (fun d hd => ?_) (fun d hd => ?_)).mono (by rw [List.length_map]; omega) (Nat.le_refl _)
  · obtain ⟨c, hcr, rfl⟩ := List.mem_map.mp hd
    have h2 := hc c hcr
    exact fit_int (Nat.lt_of_le_of_lt (show c.natAbs ≤ 3 by omega) (by decide))
  · obtain ⟨c, _, rfl⟩ := List.mem_map.mp hd
    unfold noList
    rfl
theorem fit_tab {m : Nat} {t : List (List Int)} (hm : m ≤ 3) (T : Tab m t) : Fit 405 2 (tabD t) := by
  refine (fit_tup (n := 132) (k := 1) (fun d hd => ?_) (fun d hd => ?_)).mono (by rw [List.length_map, T.len]; omega) (Nat.le_refl _)
  · obtain ⟨r, hr, rfl⟩ := List.mem_map.mp hd
    exact fit_row hm (T.row r hr) (T.cell r hr)
  · obtain ⟨r, _, rfl⟩ := List.mem_map.mp hd
    exact rowD_no r
theorem alike_rows : ∀ t t' : List (List Int), PySem.W.alikeAll (t.map rowD) (t'.map rowD) = true
  | [], _ => by simp [PySem.W.alikeAll]
  | x :: xs, [] => by simp [PySem.W.alikeAll]
  | x :: xs, y :: ys => by
    show PySem.W.alikeAll (rowD x :: xs.map rowD) (rowD y :: ys.map rowD) = true
    rw [PySem.W.alikeAll, alike_rows xs ys, Bool.and_true]
    show PySem.W.alike (.tuple _) (.tuple _) = true
    rw [PySem.W.alike]
    exact PySem.W.alike_ints x y
theorem alike_tabs (l : List (List (List Int))) : PySem.W.AllAlike (l.map tabD) := PySem.W.AllAlike.of fun t t' => by
  show PySem.W.alike (.tuple _) (.tuple _) = true
  rw [PySem.W.alike]
  exact alike_rows t t'
theorem semis_mem {m : Nat} {t : List (List Int)} (h : t ∈ semisT m) : t ∈ everyT m := (List.mem_filter.mp h).1
theorem sortable_semis {m : Nat} (h1 : 1 ≤ m) (hm : m ≤ 3) : PySem.W.Sortable ((semisT m).map tabD) := .inl fun d hd => by
  obtain ⟨t, ht, rfl⟩ := List.mem_map.mp hd
  have T := every_tab h1 hm t (semis_mem ht)
  cases t with
  | nil =>
    have := T.len
    simp at this
    omega
  | cons r rs => exact ⟨rowD r, rs.map rowD, rfl⟩
theorem depth_semis {m : Nat} (h1 : 1 ≤ m) (hm : m ≤ 3) : ∀ d ∈ (semisT m).map tabD, d.depth ≤ 60 := fun d hd => by
  obtain ⟨t, ht, rfl⟩ := List.mem_map.mp hd
  exact Nat.le_trans (fit_tab hm (every_tab h1 hm t (semis_mem ht))).dep (by decide)
theorem due_no {m : Nat} : ∀ d ∈ dueD m, noList d = true := fun d hd => by
  have := (List.mergeSort_perm ((semisT m).map tabD) (PySem.W.dataLe false id)).mem_iff.mp hd
  exact tabs_no _ d this
theorem tabD_nd (t : List (List Int)) : (tabD t).hasDict = false := by
  unfold tabD
  simp only [PyData.hasDict]
  refine hasDict_all fun d hd => ?_
  obtain ⟨r, _, rfl⟩ := List.mem_map.mp hd
  unfold rowD
  simp only [PyData.hasDict]
  refine hasDict_all fun d hd => ?_
  obtain ⟨c, _, rfl⟩ := List.mem_map.mp hd
  simp only [PyData.hasDict]
theorem due_is {m : Nat} {d : PyData} (hd : d ∈ dueD m) : ∃ t ∈ semisT m, tabD t = d := by
  have := (List.mergeSort_perm ((semisT m).map tabD) (PySem.W.dataLe false id)).mem_iff.mp hd
  exact List.mem_map.mp this
theorem filter_snoc {α : Type} {l : List α} {f : α → Bool} {i : Nat} {x : α} (h : l[i]? = some x) : (l.take (i + 1)).filter f = (l.take i).filter f ++ if f x = true then [x] else [] := by
  rw [take_snoc h, List.filter_append]
  cases e : f x <;> simp [List.filter_cons, e]
theorem fit_due {m : Nat} (h1 : 1 ≤ m) (hm : m ≤ 3) : Fit 400000 3 (.list (dueD m)) := by
  have hl : (dueD m).length ≤ 729 := by
    unfold dueD semisT
    rw [(List.mergeSort_perm _ _).length_eq, List.length_map]
    refine Nat.le_trans (List.length_filter_le _ _) ?_
    unfold everyT
    rw [List.length_map, fils_len]
    exact pow_small hm (plc_len hm)
  refine (fit_lst (n := 405) (k := 2) (fun d hd => ?_) (fun d hd => ?_)).mono (by omega) (Nat.le_refl _)
  · have := (List.mergeSort_perm ((semisT m).map tabD) (PySem.W.dataLe false id)).mem_iff.mp hd
    obtain ⟨t, ht, rfl⟩ := List.mem_map.mp this
    exact fit_tab hm (every_tab h1 hm t (semis_mem ht))
  · obtain ⟨t, _, rfl⟩ := due_is hd
    exact tabD_nd t
def spSG (C : Addr) : Sp := fun vs H Q E => ∃ (v : V) (p : Addr) (u : HO) (d : PyData), vs = [v] ∧ H p = some u ∧ Dat H p v d ∧
  (∀ m : Nat, d = .int (m : Nat) → 1 ≤ m → m ≤ 3 → ∀ q ws H', H q = none → H' q = some (.lst ws) → Dats H' p ws (dueD m) → Same H H' → Q (.ref q) H') ∧
  ((¬ ∃ m : Nat, d = .int (m : Nat) ∧ 1 ≤ m ∧ m ≤ 3) → E (.ref C) none H)
theorem ok_semigroups (D : Df K mg "semigroups" s_semigroups ["m"]) (T : Nms mg) (n_sorted : mg "sorted" = none) {tS : Tok} (c_MOST_IN_SEMIGROUPS : mg "MOST_IN_SEMIGROUPS" = some (.int 3 tS)) {C M : Addr} (EX_NotLike : Exn K mg "NotLike" C M)
    (c_is_up_to : CallOk P w K mg base CX0 2 "is_up_to" ["thing", "most"] spUpTo) (c_every_table : CallOk P w K mg base CX0 2 "every_table" ["m"] spEvery) (c_is_semigroup : CallOk P w K mg base CX0 2 "is_semigroup" ["table"] spSemi) : CallOk P w K mg base (L2.CX P w) 3 "semigroups" ["m"] (spSG C) := by
  refine df_okX D sc_semigroups (fun vs H Q E h => ?_) (fun f cdv A outer s H vs Q E hr h => ?_)
  · obtain ⟨v, p, u, d, rfl, _⟩ := h
    rfl
  · obtain ⟨v, p, u, d, rfl, hp, hd, k1, k2⟩ := h
    have nd := sc_semigroups.nd
    refine ⟨_, (pss_cons (ps_if (PW.pt (pw_or (pt_not (pt_val (pe_cc c_is_up_to (hr.mono (by omega)) (pa_cons (pv 0) (pa_cons (pe_glob (v := .int 3) rfl c_MOST_IN_SEMIGROUPS ⟨_, rfl⟩) pa_nil))))) (pw_or1 (pt_cmpR op_lt (pv 0) pe_int (nomark _))))) (pss_one (ps_raiseE rfl (takes_of rfl rfl rfl rfl) EX_NotLike rfl)) pss_nil)
      (pss_one (ps_ret (pe_callB (r := rSortD K) (cr_sortData hr.units) (by rfl) n_sorted (by decide +kernel) (pa_cons (pe_lc (own := [("table", 1)]) (g := (gName 1)) (by rfl) nd (pi_list (pe_cc c_every_table (hr.mono (by omega)) (pa_cons (pv 0) pa_nil))) (blkOk_by (own := [("table", 1)]) (N := N_semigroups) (sc := defScope s_semigroups) (by decide +kernel)) (fun _ _ _ _ _ => (pg_name (i := 1) nd rfl (Or.inl rfl))) (fun _ _ _ _ _ => (pts_one (pt_val (pe_cc c_is_semigroup (hr.mono (by omega)) (pa_cons (pv 1) pa_nil))))) (fun _ _ _ _ _ => (pv 1))) pa_nil))))), ?_⟩
    walk_at "op"
    walk_at "st"
    refine ⟨v, .int 3, p, d, rfl, hd, .inr ⟨3, rfl⟩, fun c hc => ?_⟩
    refine ⟨c, rfl, ?_⟩
    cases c with
    | false =>
      refine iteT (iteT (k2 fun ⟨m, e, h1, h3⟩ => ?_))
      have : UpTo (.int 3) d := ⟨_, e, by omega, fun M z => by cases z; omega⟩
      exact Bool.noConfusion (hc.mpr this)
    | true =>
      obtain ⟨i, rfl, hi0, hi3⟩ := hc.mp rfl
      have hi3 := hi3 3 rfl
      obtain rfl := hd.isInt
      refine iteF ?_
      refine ⟨_, rfl, _, _, rfl, rfl, _, rfl, ?_⟩
      refine ite2 (fun c0 => ?_) (fun c0 => ?_)
      · have c1 := of_decide_eq_true c0
        exact k2 fun ⟨m, e, h1, h3⟩ => by
          injection e with e
          omega
      · have c1 : 1 ≤ i := by
          have := of_decide_eq_false (Bool.eq_false_iff.mpr c0)
          omega
        obtain ⟨m, rfl⟩ : ∃ m : Nat, i = (m : Nat) := ⟨i.toNat, by omega⟩
        have h1 : 1 ≤ m := by omega
        have h3 : m ≤ 3 := by omega
        refine ⟨_, rfl, m, p, u, rfl, h3, hp, fun q ws G hq hq' hW sG => ?_⟩
        refine ⟨q, rfl, ⟨_, SqL.of hq'⟩, fun D hD => ?_⟩
        have hwl : ws.length = (everyT m).length := by rw [hW.1, List.length_map]
        have hel : (everyT m).length ≤ 729 := by
          unfold everyT
          rw [List.length_map, fils_len]
          exact pow_small h3 (plc_len h3)
        refine lI walk_list (fun j G2 => Same G G2 ∧ ∃ ds, G2 D = some (.lst ds) ∧ Dats G2 p ds ((((everyT m).take j).filter semi).map tabD)) ⟨same_new hD, [], upd_same, Dats.nil⟩ (fun j G2 _ ⟨e, _⟩ => SqL.of (e _ _ hq')) ?_ ?_
        · rintro j x _ G2 hj ⟨s2, ds, hds, hdd⟩ ⟨rfl, hxj⟩
          have hjl : j < (everyT m).length := by omega
          have hgj : (everyT m)[j]? = some (everyT m)[j] := List.getElem?_eq_getElem hjl
          obtain ⟨e, he, hde⟩ := hW.at hxj
          rw [List.getElem?_map, hgj] at he
          cases he
          have T := every_tab h1 h3 _ (List.getElem_mem hjl)
          have hfs := filter_snoc (f := semi) hgj
          have hdl : ds.length ≤ 729 := by
            rw [hdd.1, List.length_map]
            refine Nat.le_trans (List.length_filter_le _ _) ?_
            rw [List.length_take]
            omega
          generalize (everyT m)[j] = t at *
          refine ⟨rfl, ?_⟩
          refine ⟨_, rfl, x, p, u, m, t, rfl, (sG.trans s2) _ _ hp, hde.same s2, T, by omega, fun G3 s3 => ?_⟩
          refine ⟨_, rfl, ?_⟩
          have hds3 := s3 _ _ hds
          have hdd3 : Dats G3 p ds ((((everyT m).take j).filter semi).map tabD) := ⟨hdd.1, fun i x d a b => (hdd.2 i x d a b).same s3⟩
          show if semi t = true then _ else _
          cases e : semi t with
          | true =>
            rw [e] at hfs
            refine iteT ⟨x, rfl, ds, hds3, small1000 (by omega), sameOff (s2.trans s3) hD, ds ++ [x], upd_same, ?_⟩
            rw [hfs, if_pos rfl, List.map_append]
            exact (hdd3.setL hds3 (tabs_no _)).snoc (Dat.setL hds3 (hde.same (s2.trans s3)) (tabD_no _))
          | false =>
            rw [e] at hfs
            refine iteF ⟨s2.trans s3, ds, hds3, ?_⟩
            rw [hfs, if_neg (by decide), List.append_nil]
            exact hdd3
        · rintro G2 ⟨s2, ds, hds, hdd⟩
          rw [hwl, List.take_length] at hdd
          refine ⟨D, p, ds, _, rfl, SqL.of hds, hdd, alike_tabs _, sortable_semis h1 h3, depth_semis h1 h3, fun ws' q' hq1 hq2 => ?_⟩
          have s02 := sG.trans s2
          exact k1 m rfl h1 h3 q' ws' _ (sameFree s02 hq2) upd_same ⟨hq1.1, fun i x d a b => (hq1.2 i x d a b).off hq2⟩ (s02.trans (same_new hq2))
end
end Fm
end FS7
section FS8
set_option Elab.async false
set_option linter.all false
set_option maxRecDepth 100000
set_option maxHeartbeats 4000000
local macro_rules | `(tactic| walk_at "ne") => `(tactic| first | assumption | (apply Ne.symm; assumption) | exact L2.ne_of_none (by assumption) (by assumption) | exact Ne.symm (L2.ne_of_none (by assumption) (by assumption)))
local macro_rules | `(tactic| walk_at "hl") => `(tactic| first | assumption | exact L2.upd_same | (refine Eq.trans (L2.upd_ne (by walk_at "ne")) ?_; walk_at "hl"))
local macro_rules | `(tactic| walk_at "sd") => `(tactic| first | (with_reducible show (_ : Int) < _; omega) | (with_reducible show (_ : Int) ≤ _; omega) | assumption | decide | exact ⟨by assumption, by assumption⟩ | exact ⟨by decide, by decide⟩ | exact Or.inr ⟨by decide, by decide⟩ | exact Or.inl ⟨by omega, by omega⟩ | rfl)
local macro_rules | `(tactic| walk_at "st1") => `(tactic| first
  | refine ⟨_, rfl, ?_⟩
  | refine ⟨_, _, rfl, rfl, ?_⟩
  | refine ⟨_, _, rfl, ?_⟩
  | (refine ⟨_, _, _, _, rfl, rfl, L2.SqL.of (by walk_at "hl"), rfl, ?_⟩)
  | (refine ⟨_, _, _, _, rfl, rfl, L2.SqT.of (by walk_at "hl"), rfl, ?_⟩)
  | (refine ⟨_, _, _, _, rfl, rfl, (by walk_at "hl"), rfl, ?_⟩)
  | (refine And.intro (by walk_at "sd") ?_)
  )
local macro_rules | `(tactic| walk_at "st") => `(tactic| repeat walk_at "st1")
local macro_rules | `(tactic| walk_at "op") => `(tactic| try dsimp only [L2.tSeq, L2.tAsg, L2.tOp, L2.tVar, L2.tC, L2.gSub, L2.rI, L2.rI0, L2.rIxL, L2.rIxT, L2.rSetL, L2.tIfS, L2.tTest, L2.tRet, L2.gName, L2.tNext, L2.tAnd, L2.tOr, L2.tNot, L2.tAndV, L2.tOrV, L2.tNotV, L2.tB, L2.tCB, L2.tCons, L2.tNil, L2.tCall, L2.tTup, L2.tLst, L2.tChain, L2.tUn, L2.tPar, L2.tDrop, L2.tIf, L2.tBM, L2.tBM0, L2.rAppend, L2.rCat, L2.rIsi, L2.rIsiT, L2.gTup, L2.gCons, L2.gNil, Fm.tFor_eq, Fm.tLc_eq, Fm.tLc2_eq, L2.iTup, L2.iList, L2.iRng1, L2.iRng2, L2.tSl, L2.tPart, L2.tNoPart, L2.rSlL, L2.rEq, L2.rNe, L2.rU, L2.rEqD, L2.rNeD, Fm.tRevT, Fm.rLenS, Fm.rTupOf, Fm.rLstOf, L2.tDNewK, L2.tCallS, L2.WE, Fm.wKeep, Fm.rIsK, Fm.rIsKT, List.cons_append, List.nil_append, L2.tYes])
namespace Fm
open PySem PySem.Spec PyProof.Rows L2
abbrev s_law_is_refused : Stmt := top 18
abbrev N_law_is_refused : List Str := ["thing", "caught", "e"]
theorem sc_law_is_refused : FnScope N_law_is_refused ["thing"] (defScope s_law_is_refused) := ⟨rfl, rfl, rfl, by decide +kernel, rfl, by decide +kernel, by decide +kernel⟩
section
variable {P : Program} {w : World} {K : PySem.W.Frag} {mg : Str → Option Value} {base : Heap}
/-! ### what is refused -/
def spRef : Sp := fun vs H Q _ => ∃ (v : V) (p : Addr) (u : HO) (d : PyData), vs = [v] ∧ H p = some u ∧ Dat H p v d ∧ (¬ ∃ m : Nat, d = .int (m : Nat) ∧ 1 ≤ m ∧ m ≤ 3) ∧ ∀ H', Same H H' → Q (.bl true) H'
theorem ok_law_is_refused (D : Df K mg "_law_is_refused" s_law_is_refused ["thing"]) (T : Nms mg) {C M : Addr} (EX_NotLike : Exn K mg "NotLike" C M) (g_MeetError : mg "MeetError" = some (.ref M)) (z3 : PySem.W.kitOne K (.ref C) (.ref C) = some true)
    (c_semigroups : CallOk P w K mg base (L2.CX P w) 3 "semigroups" ["m"] (spSG C)) : CallOk P w K mg base CX0 4 "_law_is_refused" ["thing"] spRef := by
  refine df_ok D sc_law_is_refused (fun vs H Q E h => ?_) (fun f cdv A outer s H vs Q E hr h => ?_)
  · obtain ⟨v, p, u, d, rfl, _⟩ := h
    rfl
  · obtain ⟨v, p, u, d, rfl, hp, hd, hno, k⟩ := h
    have nd := sc_law_is_refused.nd
    have g_NotLike := EX_NotLike.g
    let a_NotLike := C
    refine ⟨_, (pss_cons (ps_set (i := 1) nd rfl (Or.inl rfl) pe_non)
      (pss_cons (ps_try_keep (i := 2) (j := 1) rfl rfl rfl nd rfl rfl rfl rfl ⟨rfl, by decide, .inl g_MeetError⟩ (by decide) (by decide) (by rfl) (by show 2 < List.length N_law_is_refused; decide) (fun W pn xe tk _ => (pss_one (ps_expr (pe_cs c_semigroups tk (hr.mono (by omega)) (pa_cons (pv 0) pa_nil))))))
      (pss_one (ps_ret (pe_callB (call_isK EX_NotLike.c) (by rfl) T.n_isinstance (by decide +kernel) (pa_cons (pv 1) (pa_cons (pe_glob (v := .ref a_NotLike) rfl g_NotLike rfl) pa_nil))))))), ?_⟩
    walk_at "op"
    walk_at "st"
    refine ⟨v, p, u, d, rfl, hp, hd, fun m e h1 h3 => absurd ⟨m, e, h1, h3⟩ hno, fun _ => ?_⟩
    refine ⟨EX_NotLike.m, fun a ha => ?_⟩
    walk_at "op"
    walk_at "st"
    refine ⟨a, _, _, _, rfl, upd_same, .own _, z3, ?_⟩
    exact k _ (same_new ha)
end
end Fm
end FS8
section FS9
set_option Elab.async false
set_option linter.all false
set_option maxRecDepth 100000
set_option maxHeartbeats 4000000
local macro_rules | `(tactic| walk_at "ne") => `(tactic| first | assumption | (apply Ne.symm; assumption) | exact L2.ne_of_none (by assumption) (by assumption) | exact Ne.symm (L2.ne_of_none (by assumption) (by assumption)))
local macro_rules | `(tactic| walk_at "hl") => `(tactic| first | assumption | exact L2.upd_same | (refine Eq.trans (L2.upd_ne (by walk_at "ne")) ?_; walk_at "hl"))
local macro_rules | `(tactic| walk_at "sd") => `(tactic| first | (with_reducible show (_ : Int) < _; omega) | (with_reducible show (_ : Int) ≤ _; omega) | assumption | decide | exact ⟨by assumption, by assumption⟩ | exact ⟨by decide, by decide⟩ | exact Or.inr ⟨by decide, by decide⟩ | exact Or.inl ⟨by omega, by omega⟩ | rfl)
local macro_rules | `(tactic| walk_at "st1") => `(tactic| first
  | refine ⟨_, rfl, ?_⟩
  | refine ⟨_, _, rfl, rfl, ?_⟩
  | refine ⟨_, _, rfl, ?_⟩
  | (refine ⟨_, _, _, _, rfl, rfl, L2.SqL.of (by walk_at "hl"), rfl, ?_⟩)
  | (refine ⟨_, _, _, _, rfl, rfl, L2.SqT.of (by walk_at "hl"), rfl, ?_⟩)
  | (refine ⟨_, _, _, _, rfl, rfl, (by walk_at "hl"), rfl, ?_⟩)
  | (refine And.intro (by walk_at "sd") ?_)
  )
local macro_rules | `(tactic| walk_at "st") => `(tactic| repeat walk_at "st1")
local macro_rules | `(tactic| walk_at "op") => `(tactic| try dsimp only [L2.tSeq, L2.tAsg, L2.tOp, L2.tVar, L2.tC, L2.gSub, L2.rI, L2.rI0, L2.rIxL, L2.rIxT, L2.rSetL, L2.tIfS, L2.tTest, L2.tRet, L2.gName, L2.tNext, L2.tAnd, L2.tOr, L2.tNot, L2.tAndV, L2.tOrV, L2.tNotV, L2.tB, L2.tCB, L2.tCons, L2.tNil, L2.tCall, L2.tTup, L2.tLst, L2.tChain, L2.tUn, L2.tPar, L2.tDrop, L2.tIf, L2.tBM, L2.tBM0, L2.rAppend, L2.rCat, L2.rIsi, L2.rIsiT, L2.gTup, L2.gCons, L2.gNil, Fm.tFor_eq, Fm.tLc_eq, Fm.tLc2_eq, L2.iTup, L2.iList, L2.iRng1, L2.iRng2, L2.tSl, L2.tPart, L2.tNoPart, L2.rSlL, L2.rEq, L2.rNe, L2.rU, L2.rEqD, L2.rNeD, Fm.tRevT, Fm.rLenS, Fm.rTupOf, Fm.rLstOf, L2.tDNewK, L2.tCallS, L2.WE, Fm.wKeep, Fm.rIsK, Fm.rIsKT, List.cons_append, List.nil_append, L2.tYes])
namespace Fm
open PySem PySem.Spec PyProof.Rows L2
abbrev s_law : Stmt := top 19
abbrev N_law : List Str := ["script", "m", "due", "row", "rows", "turn", "told", "odd", "thing"]
theorem sc_law : FnScope N_law ["script"] (defScope s_law) := ⟨rfl, rfl, rfl, by decide +kernel, rfl, by decide +kernel, by decide +kernel⟩
section
variable {P : Program} {w : World} {K : PySem.W.Frag} {mg : Str → Option Value} {base : Heap}
/-! ### the law -/
theorem un65 {k : Nat} {A : Around} (r : Room k A) : A.units + 65 < cLine := by have := r.un; omega
def spLaw (K : PySem.W.Frag) : Sp := fun vs H Q _ => ∃ (a : Addr) (ns : List Int), vs = [.ref a] ∧ ns.length + 1 ≤ sizeLine ∧ SqL K H a (ns.map V.int) ∧ ∀ H', Q (.bl true) H'
def oddD : List PyData := [.int 0, .int 4, .int (-1), .bool true, .none, .str (Str.ofString "2"), .tuple [.int 2], .list [.int 3], .int ((10 : Int) ^ (17 : Int).toNat), .dict []]
theorem odd_no (d : PyData) (h : d ∈ oddD) : ¬ ∃ m : Nat, d = .int (m : Nat) ∧ 1 ≤ m ∧ m ≤ 3 := by
  rintro ⟨m, rfl, h1, h3⟩
  have e : (10 : Int) ^ (17 : Int).toNat = 100000000000000000 := by decide
  unfold oddD at h
  rw [e] at h
  simp only [List.mem_cons, List.not_mem_nil, or_false, PyData.int.injEq, reduceCtorEq, false_or] at h
  omega
theorem sqL_same {K : PySem.W.Frag} {H H' : Hp} {a : Addr} {xs : List V} (h : SqL K H a xs) (e : Same H H') : SqL K H' a xs :=
  h.elim (fun h => .inl (h.elim (fun h => .inl (e _ _ h)) fun ⟨o, h⟩ => .inr ⟨o, e _ _ h⟩)) fun h => .inr h
theorem ok_law {f : Addr} {fd : FuncData} (F : Fun K "law" "law" s_law f fd) (T : Nms mg) (n_sorted : mg "sorted" = none) {C : Addr} (c_law_all_tables : CallOk P w K mg base CX0 1 "_law_all_tables" ["m"] spAll) (c_law_holds : CallOk P w K mg base CX0 1 "_law_holds" ["rows"] spHolds)
    (c_law_is_refused : CallOk P w K mg base CX0 4 "_law_is_refused" ["thing"] spRef) (c_semigroups : CallOk P w K mg base (L2.CX P w) 3 "semigroups" ["m"] (spSG C)) : RunG P w K mg base 5 f fd ["script"] (spLaw K) := by
    refine run_g F sc_law fun cdv A outer s H vs Q hg hr h => ?_
    obtain ⟨a, ns, rfl, hn, hS, k⟩ := h
    have nd := sc_law.nd
    refine ⟨_, (pss_cons (ps_set (i := 1) nd rfl (Or.inl rfl) (pe_op op_add pe_int (pe_op op_mod (pe_ix (r := rIxL K) ix_list (pe_op (r := rCatP K) op_catP (pv 0) (pe_lst (pa_cons pe_int pa_nil))) pe_int (fun _ _ => rfl)) pe_int)))
      (pss_cons (ps_set (i := 2) nd rfl (Or.inl rfl) (pe_callB (r := rSortD K) (cr_sortData hr.units) (by rfl) n_sorted (by decide +kernel) (pa_cons (pe_lc (own := [("rows", 4)]) (g := (gName 4)) (by rfl) nd (pi_list (pe_cc c_law_all_tables (hr.mono (by omega)) (pa_cons (pv 1) pa_nil))) (blkOk_by (own := [("rows", 4)]) (N := N_law) (sc := defScope s_law) (by decide +kernel)) (fun _ _ _ _ _ => (pg_name (i := 4) nd rfl (Or.inl rfl))) (fun _ _ _ _ _ => (pts_one (pt_val (pe_cc c_law_holds (hr.mono (by omega)) (pa_cons (pv 4) pa_nil))))) (fun _ _ _ _ _ => (pe_callTy (r := rTupOf K) call_tupOf (by rfl) T.n_tuple (by decide +kernel) (pa_cons (pe_lc (own := [("row", 3)]) (g := (gName 3)) (tt := tYes) (by rfl) nd (pi_listK (K := K) rfl (pv 4)) (blkOk_by (own := [("row", 3)]) (N := N_law) (sc := relS _ (defScope s_law)) (by decide +kernel)) (fun _ _ _ _ _ => (pg_name (i := 3) nd rfl (Or.inl rfl))) (fun _ _ _ _ _ => pts_nil) (fun _ _ _ _ _ => (pe_callTy (r := rTupOf K) call_tupOf (by rfl) T.n_tuple (by decide +kernel) (pa_cons (pv 3) pa_nil)))) pa_nil)))) pa_nil)))
      (pss_cons (ps_for PassesOwn.never rfl (pi_range1 rfl T.n_range (pa_cons pe_int pa_nil)) (pg_name (i := 5) nd rfl (Or.inl rfl)) (pss_cons (ps_set (i := 6) nd rfl (Or.inl rfl) (pe_cx c_semigroups (hr.mono (by omega)) (pa_cons (pv 1) pa_nil)))
      (pss_cons (ps_if (pt_cmpR op_ne (pe_callB (call_repr hg hr.units) (by rfl) T.n_repr (by decide +kernel) (pa_cons (pv 6) pa_nil)) (pe_callB (call_repr hg hr.units) (by rfl) T.n_repr (by decide +kernel) (pa_cons (pv 2) pa_nil)) (nomark _)) (pss_one (ps_ret pe_bl)) pss_nil)
      (pss_one (ps_expr (pe_bm0 PySem.F.plainAttrs_list PySem.F.slot_list_reverse PySem.F.type_list_reverse mt_reverse (pv 6)))))))
      (pss_cons (ps_set (i := 7) nd rfl (Or.inl rfl) (pe_lst (pa_cons pe_int (pa_cons pe_int (pa_cons (pe_un un_neg pe_int) (pa_cons pe_bl (pa_cons pe_non (pa_cons pe_str (pa_cons (pe_tup (pa_cons pe_int pa_nil)) (pa_cons (pe_lst (pa_cons pe_int pa_nil)) (pa_cons (pe_op op_pow pe_int pe_int) (pa_cons pe_dnewK pa_nil))))))))))))
      (pss_one (ps_ret (pe_cmpR (r := rEqD K) (op_eqD hr.units) (pe_lc (own := [("thing", 8)]) (g := (gName 8)) (by rfl) nd (pi_list (pv 7)) (blkOk_by (own := [("thing", 8)]) (N := N_law) (sc := defScope s_law) (by decide +kernel)) (fun _ _ _ _ _ => (pg_name (i := 8) nd rfl (Or.inl rfl))) (fun _ _ _ _ _ => (pts_one (pt_not (pt_val (pe_cc c_law_is_refused (hr.mono (by omega)) (pa_cons (pv 8) pa_nil)))))) (fun _ _ _ _ _ => (pv 8))) (pe_lst pa_nil) (nomark _)))))))), ?_⟩
    walk_at "op"
    walk_at "st"
    refine fun p hp0 => ?_
    have hp : upd H p (.lst [.int 0]) p = some (.lst [.int 0]) := upd_same
    have hS1 := sqL_same hS (same_new (o := .lst [V.int 0]) hp0)
    generalize upd H p (.lst [V.int 0]) = H1 at *
    refine ⟨a, p, ns.map V.int, [.int 0], rfl, rfl, hS1, SqL.of hp, by rw [List.length_map]; exact hn, fun S hS2 => ?_⟩
    obtain ⟨c, hc⟩ : ∃ c : Int, (ns.map V.int ++ [V.int 0])[0]? = some (V.int c) := by
      cases ns with
      | nil => exact ⟨0, rfl⟩
      | cons x r => exact ⟨x, rfl⟩
    refine ⟨S, _, 0, .int c, rfl, rfl, SqL.of upd_same, atI_nat (j := 0) hc, c, 3, rfl, rfl, by decide, 1, _, rfl, rfl, _, rfl, ?_⟩
    obtain ⟨m, em, h1, h3⟩ : ∃ m : Nat, 1 + c % 3 = (m : Int) ∧ 1 ≤ m ∧ m ≤ 3 := ⟨(1 + c % 3).toNat, by omega, by omega, by omega⟩
    rw [em]
    have hp := (same_new (o := .lst (ns.map V.int ++ [V.int 0])) hS2) _ _ hp
    generalize upd H1 S (.lst (ns.map V.int ++ [V.int 0])) = G0 at *
    refine ⟨m, p, _, rfl, h3, hp, fun q ws G hq hq' hW sG => ?_⟩
    refine ⟨q, rfl, ⟨_, SqL.of hq'⟩, fun D hD => ?_⟩
    have hwl : ws.length = (everyT m).length := by rw [hW.1, List.length_map]
    have hel : (everyT m).length ≤ 729 := by
      unfold everyT
      rw [List.length_map, fils_len]
      exact pow_small h3 (plc_len h3)
    have hDG0 := sameFree sG hD
    refine lI walk_list (fun j G2 => Same G G2 ∧ ∃ ds, G2 D = some (.lst ds) ∧ Dats G2 p ds ((((everyT m).take j).filter (holdsT m)).map tabD)) ⟨same_new hD, [], upd_same, Dats.nil⟩ (fun j G2 _ ⟨e, _⟩ => SqL.of (e _ _ hq')) ?_ ?_
    · rintro j x _ G2 hj ⟨s2, ds, hds, hdd⟩ ⟨rfl, hxj⟩
      have hjl : j < (everyT m).length := by omega
      have hgj : (everyT m)[j]? = some (everyT m)[j] := List.getElem?_eq_getElem hjl
      obtain ⟨e, he, hde⟩ := hW.at hxj
      rw [List.getElem?_map, hgj] at he
      cases he
      have Tt := every_tab h1 h3 _ (List.getElem_mem hjl)
      have hfs := filter_snoc (f := holdsT m) hgj
      have hdl : ds.length ≤ 729 := by
        rw [hdd.1, List.length_map]
        refine Nat.le_trans (List.length_filter_le _ _) ?_
        rw [List.length_take]
        omega
      generalize (everyT m)[j] = t at *
      have hde2 := hde.same s2
      refine ⟨rfl, ?_⟩
      refine ⟨_, rfl, x, q, m, t, rfl, hde2, Tt, by omega, ?_⟩
      refine ⟨_, rfl, ?_⟩
      show if holdsT m t = true then _ else _
      cases e : holdsT m t with
      | false =>
        rw [e] at hfs
        refine iteF ⟨s2, ds, hds, ?_⟩
        rw [hfs, if_neg (by decide), List.append_nil]
        exact hdd
      | true =>
        rw [e] at hfs
        refine iteT ?_
        obtain ⟨ta, xs, rfl, hta, hxl, hxs, _⟩ := tabL_parts hde2 Tt
        refine ⟨_, rfl, ta, rfl, ⟨_, SqL.of hta⟩, fun D2 hD2 => ?_⟩
        have sG2 := sG.trans s2
        have hD2G := sameFree s2 hD2
        refine lI walk_list (fun i G3 => Same G2 G3 ∧ ∃ ws2, G3 D2 = some (.lst ws2) ∧ Dats G3 p ws2 ((t.take i).map rowD)) ⟨same_new hD2, [], upd_same, Dats.nil⟩ (fun i G3 _ ⟨e, _⟩ => SqL.of (e _ _ hta)) ?_ ?_
        · rintro i y _ G3 hi ⟨s3, ws2, hw2, hd2⟩ ⟨rfl, hyi⟩
          obtain ⟨e', he', hdy⟩ := hxs.at hyi
          have hil : i < t.length := by rw [Tt.len, ← hxl]; exact hi
          have hgi : t[i]? = some t[i] := List.getElem?_eq_getElem hil
          rw [List.getElem?_map, hgi] at he'
          cases he'
          have htk := take_snoc hgi
          have hw23 : ws2.length ≤ 3 := by
            rw [hd2.1, List.length_map, List.length_take, Tt.len]
            omega
          generalize t[i] = r at *
          obtain ⟨ra, rfl, hra, _⟩ := rowL_parts hdy
          walk_at "op"
          refine ⟨rfl, ?_⟩
          refine iteT ?_
          refine ⟨_, rfl, ra, _, rfl, .inl ⟨SqL.of (s3 _ _ hra), fun l hl => ?_⟩⟩
          have hw3 := (same_new (o := .tup (r.map V.int)) hl) _ _ hw2
          refine ⟨ws2, hw3, small1000 (by omega), sameOff (s3.trans (same_new hl)) hD2, ws2 ++ [.ref l], upd_same, ?_⟩
          rw [htk, List.map_append]
          refine ((hd2.off hl).setL hw3 (rows_no _)).snoc (Dat.setL hw3 (.tup upd_same (pne_of hp (sG2.trans s3) hl) (by rw [List.length_map, List.length_map]) fun i x d a b => (Dats.ints (p := p) r).2 i x d a b) (rowD_no _))
        · rintro G3 ⟨s3, ws2, hw2, hd2⟩
          rw [hxl, ← Tt.len, List.take_length] at hd2
          refine ⟨D2, ws2, rfl, .inl ⟨SqL.of hw2, fun t1 ht1 => ?_⟩⟩
          have s4 := s3.trans (same_new (o := .tup ws2) ht1)
          have hds4 := s4 _ _ hds
          refine ⟨ds, hds4, small1000 (by omega), sameOff (s2.trans s4) hD, ds ++ [.ref t1], upd_same, ?_⟩
          have hdd4 : Dats (upd G3 t1 (.tup ws2)) p ds ((((everyT m).take j).filter (holdsT m)).map tabD) := ⟨hdd.1, fun i x d a b => (hdd.2 i x d a b).same s4⟩
          rw [hfs, if_pos rfl, List.map_append]
          exact (hdd4.setL hds4 (tabs_no _)).snoc (Dat.setL hds4 (Dat.new ht1 (pne_of hp (sG2.trans s3) ht1) hd2) (tabD_no t))
    · rintro G2 ⟨s2, ds, hds, hdd⟩
      rw [hwl, List.take_length, semis_holds h1 h3] at hdd
      refine ⟨D, p, ds, _, rfl, SqL.of hds, hdd, alike_tabs _, sortable_semis h1 h3, depth_semis h1 h3, fun dws L hL1 hL2 => ?_⟩
      have s02 := sG.trans s2
      have hL1 : Dats (upd G2 L (.lst dws)) p dws (dueD m) := ⟨hL1.1, fun i x d a b => (hL1.2 i x d a b).off hL2⟩
      have hLL : upd G2 L (.lst dws) L = some (.lst dws) := upd_same
      have nLp : L ≠ p := pne_of hp s02 hL2
      have hp3 := (s02.trans (same_new (o := .lst dws) hL2)) _ _ hp
      generalize upd G2 L (.lst dws) = G3 at *
      have hdue : Dat G3 p (.ref L) (.list (dueD m)) := .lst hLL nLp hL1.1 hL1.2
      refine ⟨_, rfl, by decide, by decide, ?_⟩
      refine fI walk_range (fun i σ G => Same G3 G ∧ ∃ u3 u4 u5 u6, σ = [some (.ref a), some (.int (m : Nat)), some (.ref L), u3, u4, u5, u6, none, none]) ⟨Same.refl _, _, _, _, _, rfl⟩ (fun _ _ _ _ _ => True.intro) ?_ ?_
      · rintro i x σ _ G4 hi ⟨s4, u3, u4, u5, u6, rfl⟩ ⟨rfl, rfl⟩
        walk_at "op"
        refine ⟨_, rfl, .int (m : Nat), p, _, .int (m : Nat), rfl, s4 _ _ hp3, .int _, fun m' em' _ _ B bws G5 hB hB' hBd s5 => ?_, fun no => absurd ⟨m, rfl, h1, h3⟩ no⟩
        obtain rfl : m = m' := by
          injection em' with em'
          omega
        have s35 := s4.trans s5
        have hBG3 := sameFree s4 hB
        refine ⟨_, rfl, .ref B, p, _, _, _, rfl, .lst hB' (pne_of hp3 s4 hB) hBd.1 hBd.2, fit_due h1 h3, by decide, by decide, _, rfl, .ref L, p, _, _, _, rfl, hdue.same s35, fit_due h1 h3, by decide, by decide, rfl, ?_⟩
        rw [decide_eq_true rfl]
        refine ⟨_, rfl, iteF ?_⟩
        exact ⟨_, rfl, .inl ⟨rfl, _, SqL.of hB'⟩, B, bws, rfl, rfl, hB', sameOff s35 hBG3, _, _, _, _, rfl⟩
      · rintro σ G4 ⟨s4, u3, u4, u5, u6, rfl⟩
        walk_at "op"
        have hp4 := s4 _ _ hp3
        refine ⟨1, rfl, by show 1 ≤ sizeLine; decide, fun T1 hT1 => ⟨by show 1 ≤ sizeLine; decide, fun L1 hL1' => ⟨10, 17, rfl, rfl, ?_, fun D1 hD1 => ⟨by show 10 ≤ sizeLine; decide, fun O hO => ?_⟩⟩⟩⟩
        · exact ⟨by decide, by decide, by decide⟩
        have t1 := same_new (o := .tup [V.int 2]) hT1
        have t2 := same_new (o := .lst [V.int 3]) hL1'
        have t3 := same_new (o := .dK []) hD1
        have d1 := Dat.new (p := p) (xs := [V.int 2]) (ds := [.int 2]) hT1 (pne_of hp4 (Same.refl _) hT1) (Dats.cons (.int 2) Dats.nil)
        have d2 : Dat (upd (upd G4 T1 (.tup [V.int 2])) L1 (.lst [V.int 3])) p (.ref L1) (.list [.int 3]) := .lst upd_same (pne_of hp4 t1 hL1') rfl (Dats.cons (.int 3) Dats.nil).2
        have d3 : Dat (upd (upd (upd G4 T1 (.tup [V.int 2])) L1 (.lst [V.int 3])) D1 (.dK [])) p (.ref D1) (.dict []) := .dct upd_same (pne_of hp4 (t1.trans t2) hD1)
        have t4 := same_new (o := .lst [V.int 0, V.int 4, V.int (-1), V.bl true, V.non, V.str (Str.ofString "2"), V.ref T1, V.ref L1, V.int ((10 : Int) ^ (17 : Int).toNat), V.ref D1]) hO
        have hodd := Dats.cons (.int 0) (Dats.cons (.int 4) (Dats.cons (.int (-1)) (Dats.cons (.bl true) (Dats.cons .non (Dats.cons (.str (Str.ofString "2")) (Dats.cons (((d1.same t2).same t3).same t4) (Dats.cons ((d2.same t3).same t4) (Dats.cons (.int ((10 : Int) ^ (17 : Int).toNat)) (Dats.cons (d3.same t4) Dats.nil)))))))))
        have hOO : upd (upd (upd (upd G4 T1 (.tup [V.int 2])) L1 (.lst [V.int 3])) D1 (.dK [])) O (.lst [V.int 0, V.int 4, V.int (-1), V.bl true, V.non, V.str (Str.ofString "2"), V.ref T1, V.ref L1, V.int ((10 : Int) ^ (17 : Int).toNat), V.ref D1]) O = some (.lst [V.int 0, V.int 4, V.int (-1), V.bl true, V.non, V.str (Str.ofString "2"), V.ref T1, V.ref L1, V.int ((10 : Int) ^ (17 : Int).toNat), V.ref D1]) := upd_same
        have hp5 := (((t1.trans t2).trans t3).trans t4) _ _ hp4
        refine ⟨_, rfl, O, rfl, ⟨_, SqL.of hOO⟩, fun R hR => ?_⟩
        generalize upd (upd (upd (upd G4 T1 (.tup [V.int 2])) L1 (.lst [V.int 3])) D1 (.dK [])) O (.lst [V.int 0, V.int 4, V.int (-1), V.bl true, V.non, V.str (Str.ofString "2"), V.ref T1, V.ref L1, V.int ((10 : Int) ^ (17 : Int).toNat), V.ref D1]) = G6 at *
        refine lI walk_list (fun j G => Same G6 G ∧ G R = some (.lst [])) ⟨same_new hR, upd_same⟩ (fun j G _ ⟨e, _⟩ => SqL.of (e _ _ hOO)) ?_ ?_
        · rintro j x _ G hj ⟨s6, hRG⟩ ⟨rfl, hxj⟩
          obtain ⟨d, hd1, hd2⟩ := hodd.at hxj
          have hno := odd_no d (List.mem_of_getElem? hd1)
          refine ⟨rfl, ?_⟩
          refine ⟨_, rfl, x, p, _, d, rfl, s6 _ _ hp5, hd2.same s6, hno, fun G7 s7 => ?_⟩
          exact ⟨_, rfl, s6.trans s7, s7 _ _ hRG⟩
        · rintro G ⟨s6, hRG⟩
          refine ⟨Nat.zero_le _, fun E hE => ⟨.list [], .list [], .lst (SqL.of ((same_new hE) _ _ hRG)) .nil, .lst (SqL.of upd_same) .nil, by decide, by decide, ?_⟩⟩
          rw [show PyData.eqv (.list []) (.list []) = true from by simp [PyData.eqv, PyData.eqvAll]]
          exact k _
end
end Fm
end FS9
section FFmAll45
set_option Elab.async false
set_option linter.all false
set_option maxRecDepth 100000
set_option maxHeartbeats 4000000
namespace Fm
open PySem PySem.Spec PyProof.Rows L2
theorem df_mk {K : PySem.W.Frag} {mg : Str → Option Value} {h : Heap} {x : Str} {st : Stmt} {ps : List Str} {f : Addr} (X : K.In h) (G : h.Ns mainGlobals mg) {oc : Value} {od an : Option Addr} {osl : Array (Option Value)} {kV doc pm cdv ct : Value}
    (a : PySem.W.nsIn K mainGlobals x = some (some (.ref f))) (l : K.lookup f = some ⟨oc, od, .func (PySem.W.fnOf x x (defArgs st) (defBody st) (defScope st) .none kV doc pm an cdv ct), osl⟩)
    (c : PySem.W.codeIn K cdv x = true) (k : PySem.W.keepIn K (.ref f) = true)
    (b : ∀ (kV doc pm : Value) (an : Option Addr) (cdv ct : Value) (us : List Value), us.length = ps.length → bindArgs (PySem.W.fnOf x x (defArgs st) (defBody st) (defScope st) .none kV doc pm an cdv ct) ⟨us, []⟩ = pure (ps.zip us)) : Df K mg x st ps :=
  ⟨f, _, fun_mk l c k, PySem.W.mg_of X G a, (fun_mk l c k).binds b⟩
abbrev DfOf {K : PySem.W.Frag} {h : Heap} (_ : K.In h) (mg : Str → Option Value) (x : Str) (st : Stmt) (ps : List Str) : Prop := Df K mg x st ps
theorem law_mk {P : Program} {w : World} {K : PySem.W.Frag} {h : Heap} {mg : Str → Option Value} {fa f : Addr} (X : K.In h) (G : h.Ns mainGlobals mg) (hfa : mg "law" = some (.ref fa)) {oc : Value} {od an : Option Addr} {osl : Array (Option Value)} {kV doc pm cdv ct : Value}
    (a : PySem.W.nsIn K mainGlobals "law" = some (some (.ref f))) (l : K.lookup f = some ⟨oc, od, .func (PySem.W.fnOf "law" "law" (defArgs s_law) (defBody s_law) (defScope s_law) .none kV doc pm an cdv ct), osl⟩)
    (c : PySem.W.codeIn K cdv "law" = true) (k : PySem.W.keepIn K (.ref f) = true) (T : Nms mg) (n_sorted : mg "sorted" = none)
    (Ds_is_whole : Df K mg "is_whole" s_is_whole ["thing"])
    (Ds_is_up_to : Df K mg "is_up_to" s_is_up_to ["thing", "most"])
    (Ds_threes : Df K mg "threes" s_threes ["m"])
    (Ds_orders : Df K mg "orders" s_orders ["three"])
    (Ds_filled_table : Df K mg "filled_table" s_filled_table ["m", "places", "filling"])
    (Ds_is_semigroup : Df K mg "is_semigroup" s_is_semigroup ["table"])
    (Ds_every_table : Df K mg "every_table" s_every_table ["m"])
    (Ds_semigroups : Df K mg "semigroups" s_semigroups ["m"])
    (Ds_law_all_tables : Df K mg "_law_all_tables" s_law_all_tables ["m"])
    (Ds_law_holds : Df K mg "_law_holds" s_law_holds ["rows"])
    (Ds_law_is_refused : Df K mg "_law_is_refused" s_law_is_refused ["thing"])
    {tS : Tok} (c_MOST_IN_SEMIGROUPS : mg "MOST_IN_SEMIGROUPS" = some (.int 3 tS)) {C M : Addr} (EX : Exn K mg "NotLike" C M) (g_MeetError : mg "MeetError" = some (.ref M)) (z3 : PySem.W.kitOne K (.ref C) (.ref C) = some true) :
    ∃ fd : FuncData, (∀ (s : Shared) (u : Value), BindsTo s fd ⟨[u], []⟩ [("script", u)]) ∧ ∀ base : Heap, K.In base → base.Ns mainGlobals mg → RunG P w K mg base 5 fa fd ["script"] (spLaw K) := by
  have e := hfa.symm.trans (PySem.W.mg_of X G a)
  cases e
  refine ⟨PySem.W.fnOf "law" "law" (defArgs s_law) (defBody s_law) (defScope s_law) .none kV doc pm an cdv ct, fun s v => .of_eq rfl, fun base _ _ => ?_⟩
  have c1 := ok_is_whole (P := P) (w := w) (base := base) Ds_is_whole T
  have c2 := ok_is_up_to Ds_is_up_to T c1
  have c3 := ok_threes (P := P) (w := w) (base := base) Ds_threes T
  have c4 := ok_orders (P := P) (w := w) (base := base) Ds_orders T
  have c5 := ok_filled_table (P := P) (w := w) (base := base) Ds_filled_table T
  have c6 := ok_is_semigroup Ds_is_semigroup T c3 c4
  have c7 := ok_every_table Ds_every_table T c5
  have c8 := ok_semigroups Ds_semigroups T n_sorted c_MOST_IN_SEMIGROUPS EX c2 c7 c6
  have b1 := ok_law_all_tables (P := P) (w := w) (base := base) Ds_law_all_tables T
  have b2 := ok_law_holds (P := P) (w := w) (base := base) Ds_law_holds T
  have b3 := ok_law_is_refused Ds_law_is_refused T EX g_MeetError z3 c8
  exact ok_law (fun_mk l c k) T n_sorted b1 b2 b3 c8
end Fm
end FFmAll45
open PySem PySem.W PyProof.Rows
set_option maxRecDepth 100000 in
set_option maxHeartbeats 0 in
theorem PySem.Challenge.cw_floormeet_k45_all_semigroups_holds : PySem.Challenge.rw_floormeet_k45_all_semigroups.Holds := by
  w_on; o_law; k_head; (case hw => w_witness2)
  k_fill
  refine Fm.walk_g (l := PySem.Challenge.rw_floormeet_k45_all_semigroups) (n := 63) (k := 5) (x := "script") (sp := Fm.spLaw) rfl (by decide) rfl ⟨rfl, by decide, by decide⟩ (fun w h Y => PySem.W.kIn_of Y) ?F ?S
  case S =>
    exact fun K H a ns hl hS _ => ⟨a, ns, rfl, Nat.le_trans (Nat.succ_le_succ hl) (by decide), hS, fun _ => rfl⟩
  case F =>
    intro w mg fa h KX G hmg
    have n_len : mg "len" = none := by
      refine PySem.W.mg_none_of KX G ?z
      (case z => k_is)
    have n_range : mg "range" = none := by
      refine PySem.W.mg_none_of KX G ?z
      (case z => k_is)
    have n_min : mg "min" = none := by
      refine PySem.W.mg_none_of KX G ?z
      (case z => k_is)
    have n_max : mg "max" = none := by
      refine PySem.W.mg_none_of KX G ?z
      (case z => k_is)
    have n_tuple : mg "tuple" = none := by
      refine PySem.W.mg_none_of KX G ?z
      (case z => k_is)
    have n_list : mg "list" = none := by
      refine PySem.W.mg_none_of KX G ?z
      (case z => k_is)
    have n_isinstance : mg "isinstance" = none := by
      refine PySem.W.mg_none_of KX G ?z
      (case z => k_is)
    have n_repr : mg "repr" = none := by
      refine PySem.W.mg_none_of KX G ?z
      (case z => k_is)
    have n_int : mg "int" = none := by
      refine PySem.W.mg_none_of KX G ?z
      (case z => k_is)
    have n_bool : mg "bool" = none := by
      refine PySem.W.mg_none_of KX G ?z
      (case z => k_is)
    have n_sum : mg "sum" = none := by
      refine PySem.W.mg_none_of KX G ?z
      (case z => k_is)
    have n_str : mg "str" = none := by
      refine PySem.W.mg_none_of KX G ?z
      (case z => k_is)
    have n_enumerate : mg "enumerate" = none := by
      refine PySem.W.mg_none_of KX G ?z
      (case z => k_is)
    have n_zip : mg "zip" = none := by
      refine PySem.W.mg_none_of KX G ?z
      (case z => k_is)
    have n_sorted : mg "sorted" = none := by
      refine PySem.W.mg_none_of KX G ?z
      (case z => k_is)
    have T : Fm.Nms mg := ⟨n_len, n_range, n_min, n_max, n_tuple, n_list, n_isinstance, n_repr, n_int, n_bool, n_sum, n_str, n_enumerate, n_zip⟩
    have Ds_is_whole : Fm.DfOf KX mg "is_whole" Fm.s_is_whole ["thing"] := by
      refine' Fm.df_mk KX G ?a ?l ?c ?k (fun _ _ _ _ _ _ us hl => match us, hl with | [_], _ => rfl)
      (case a => k_is); (case l => k_is); (case c => k_is); (case k => k_is)
    have Ds_is_up_to : Fm.DfOf KX mg "is_up_to" Fm.s_is_up_to ["thing", "most"] := by
      refine' Fm.df_mk KX G ?a ?l ?c ?k (fun _ _ _ _ _ _ us hl => match us, hl with | [_, _], _ => rfl)
      (case a => k_is); (case l => k_is); (case c => k_is); (case k => k_is)
    have Ds_threes : Fm.DfOf KX mg "threes" Fm.s_threes ["m"] := by
      refine' Fm.df_mk KX G ?a ?l ?c ?k (fun _ _ _ _ _ _ us hl => match us, hl with | [_], _ => rfl)
      (case a => k_is); (case l => k_is); (case c => k_is); (case k => k_is)
    have Ds_orders : Fm.DfOf KX mg "orders" Fm.s_orders ["three"] := by
      refine' Fm.df_mk KX G ?a ?l ?c ?k (fun _ _ _ _ _ _ us hl => match us, hl with | [_], _ => rfl)
      (case a => k_is); (case l => k_is); (case c => k_is); (case k => k_is)
    have Ds_filled_table : Fm.DfOf KX mg "filled_table" Fm.s_filled_table ["m", "places", "filling"] := by
      refine' Fm.df_mk KX G ?a ?l ?c ?k (fun _ _ _ _ _ _ us hl => match us, hl with | [_, _, _], _ => rfl)
      (case a => k_is); (case l => k_is); (case c => k_is); (case k => k_is)
    have Ds_is_semigroup : Fm.DfOf KX mg "is_semigroup" Fm.s_is_semigroup ["table"] := by
      refine' Fm.df_mk KX G ?a ?l ?c ?k (fun _ _ _ _ _ _ us hl => match us, hl with | [_], _ => rfl)
      (case a => k_is); (case l => k_is); (case c => k_is); (case k => k_is)
    have Ds_every_table : Fm.DfOf KX mg "every_table" Fm.s_every_table ["m"] := by
      refine' Fm.df_mk KX G ?a ?l ?c ?k (fun _ _ _ _ _ _ us hl => match us, hl with | [_], _ => rfl)
      (case a => k_is); (case l => k_is); (case c => k_is); (case k => k_is)
    have Ds_semigroups : Fm.DfOf KX mg "semigroups" Fm.s_semigroups ["m"] := by
      refine' Fm.df_mk KX G ?a ?l ?c ?k (fun _ _ _ _ _ _ us hl => match us, hl with | [_], _ => rfl)
      (case a => k_is); (case l => k_is); (case c => k_is); (case k => k_is)
    have Ds_law_all_tables : Fm.DfOf KX mg "_law_all_tables" Fm.s_law_all_tables ["m"] := by
      refine' Fm.df_mk KX G ?a ?l ?c ?k (fun _ _ _ _ _ _ us hl => match us, hl with | [_], _ => rfl)
      (case a => k_is); (case l => k_is); (case c => k_is); (case k => k_is)
    have Ds_law_holds : Fm.DfOf KX mg "_law_holds" Fm.s_law_holds ["rows"] := by
      refine' Fm.df_mk KX G ?a ?l ?c ?k (fun _ _ _ _ _ _ us hl => match us, hl with | [_], _ => rfl)
      (case a => k_is); (case l => k_is); (case c => k_is); (case k => k_is)
    have Ds_law_is_refused : Fm.DfOf KX mg "_law_is_refused" Fm.s_law_is_refused ["thing"] := by
      refine' Fm.df_mk KX G ?a ?l ?c ?k (fun _ _ _ _ _ _ us hl => match us, hl with | [_], _ => rfl)
      (case a => k_is); (case l => k_is); (case c => k_is); (case k => k_is)
    refine' Fm.law_mk KX G hmg ?a ?l ?c ?k T n_sorted Ds_is_whole Ds_is_up_to Ds_threes Ds_orders Ds_filled_table Ds_is_semigroup Ds_every_table Ds_semigroups Ds_law_all_tables Ds_law_holds Ds_law_is_refused (PySem.W.mg_of KX G ?mf) ⟨PySem.W.mg_of KX G ?xg, ?xe, ?xk, ?xb, ?xt, ⟨?c1, ?c2, ?c3, ?c4, ?c5, ?c6, ?c7, ?c8⟩, ?xm⟩ (PySem.W.mg_of KX G ?me) ?z3
    (case a => k_is); (case l => k_is); (case c => k_is); (case k => k_is)
    (case mf => k_is); (case me => k_is)
    (case xg => k_is); (case xe => k_exc); (case xk => k_is); (case xb => k_is); (case xt => k_is)
    (case c1 => k_is); (case c2 => k_is); (case c3 => k_is); (case c4 => k_is); (case c5 => k_is); (case c6 => k_is); (case c7 => k_is); (case c8 => k_is)
    (case xm => first | rfl | k_is)
    (case z3 => first | rfl | k_is)
