import PyProof.Rows.All
import Wide.All
import OpenK.AllK
import Wide.FinOn
import HandS.ForMost
import HandS.Wide
import HandS.IsInst
import HandS.TupAny
import HandS.TupMul
import HandS.TryOnly
import HandS.ExcOwn
import HandS.WordsExc
import HandS.RaiseMore
import HandS.Style
import PyProof.ReprRoads
import HandS.ExcValue
import HandS.ExcIs
import HandS.Ends
import PyProof.FactsAll.tuple_2
import KE.KRevSl
import KE.KTupSum
import KE.GoesEnum
import HandS.Zip
import HandS.Walk
import KE.GoesZip
import HandS.ExcInit
import HandS.Nested
import KE.KExcSuper
import HandS.Conv
import PyProof.Rows.SeqMore
import KE.KIndexOf
import PyProof.SeqIndex
import HandS.SortInts
import HandS.ExcField
import KE.KExcIs
import PySem.Challenge.RW_floormeet_k05_runs
section FFmBase
set_option Elab.async false
set_option maxRecDepth 100000
namespace Fm
open PySem PySem.Spec PyProof.Rows L2
/-- a def of the top, by its name -/
structure Df (K : PySem.W.Frag) (mg : Str → Option Value) (x : Str) (st : Stmt) (ps : List Str) : Prop where
  ex : ∃ f fd, Fun K x x st f fd ∧ mg x = some (.ref f) ∧ Binds K fd ps []
/-- a def that keeps a promise, as whoever calls it wants it -/
def CallOk (P : Program) (w : World) (K : PySem.W.Frag) (mg : Str → Option Value) (base : Heap) (CX : CXT) (k : Nat) (x : Str) (ps : List Str) (sp : Sp) : Prop :=
  ∃ f fd, FnOk P w K mg base CX k f fd ps sp ∧ mg x = some (.ref f) ∧ PySem.W.keepIn K (.ref f) = true ∧ Binds K fd ps []
/-- the built-in names that stand for themselves -/
structure Nms (mg : Str → Option Value) : Prop where
  n_len : mg "len" = none
  n_range : mg "range" = none
  n_min : mg "min" = none
  n_max : mg "max" = none
  n_tuple : mg "tuple" = none
  n_list : mg "list" = none
  n_isinstance : mg "isinstance" = none
  n_repr : mg "repr" = none
  n_int : mg "int" = none
  n_bool : mg "bool" = none
  n_sum : mg "sum" = none
  n_str : mg "str" = none
  n_enumerate : mg "enumerate" = none
  n_zip : mg "zip" = none
section
variable {P : Program} {w : World} {K : PySem.W.Frag} {mg : Str → Option Value} {base : Heap}
theorem df_ok {x : Str} {st : Stmt} {N ps : List Str} {k : Nat} {sp : Sp} (D : Df K mg x st ps) (S : FnScope N ps (defScope st)) (hl : ∀ vs H Q E, sp vs H Q E → vs.length = ps.length)
    (b : ∀ (f : Addr) (cdv : Value) (A : Around) (outer : List Env) (s : Shared) (H : Hp) (vs : List V) (Q : VK) (E : XK), Room k (A.deeper (envOfC x (defScope st) s.heap.objs.size f cdv)) → sp vs H Q E →
      ∃ t, PSs (cxOf CX0 P w K mg base N x (defScope st) f cdv A outer s H E).nox (defBody st) t ∧ t { nx := fun _ H' => Q .non H', rt := Q } (start N vs) H) :
    CallOk P w K mg base CX0 (k + 1) x ps sp := by
  obtain ⟨f, fd, F, hm, hb⟩ := D.ex
  exact ⟨f, fd, F.ok S hl (b f), hm, F.kp, hb⟩
theorem df_okX {x : Str} {st : Stmt} {N ps : List Str} {k : Nat} {sp : Sp} (D : Df K mg x st ps) (S : FnScope N ps (defScope st)) (hl : ∀ vs H Q E, sp vs H Q E → vs.length = ps.length)
    (b : ∀ (f : Addr) (cdv : Value) (A : Around) (outer : List Env) (s : Shared) (H : Hp) (vs : List V) (Q : VK) (E : XK), Room k (A.deeper (envOfC x (defScope st) s.heap.objs.size f cdv)) → sp vs H Q E →
      ∃ t, PSs (cxOf (L2.CX P w) P w K mg base N x (defScope st) f cdv A outer s H E) (defBody st) t ∧ t { nx := fun _ H' => Q .non H', rt := Q } (start N vs) H) :
    CallOk P w K mg base (L2.CX P w) (k + 1) x ps sp := by
  obtain ⟨f, fd, F, hm, hb⟩ := D.ex
  exact ⟨f, fd, F.okX S hl (b f), hm, F.kp, hb⟩
theorem CallOk.mono {CX : CXT} {i k : Nat} {x : Str} {ps : List Str} {sp : Sp} (c : CallOk P w K mg base CX i x ps sp) (h : i ≤ k) : CallOk P w K mg base CX k x ps sp := by
  obtain ⟨f, fd, F, r⟩ := c
  exact ⟨f, fd, F.mono h, r⟩
theorem CallOk.imp {CX : CXT} {k : Nat} {x : Str} {ps : List Str} {sp sq : Sp} (c : CallOk P w K mg base CX k x ps sp) (h : ∀ vs H Q E, sq vs H Q E → sp vs H Q E) : CallOk P w K mg base CX k x ps sq := by
  obtain ⟨f, fd, F, r⟩ := c
  exact ⟨f, fd, F.imp h, r⟩
end
section
variable {X : Cx} {k : Nat} {x : Str} {ps : List Str} {sp : Sp} {p pos : Pos} {e : Expr} {es : List Expr} {t : TA} {E : XK}
theorem pe_cc (c : CallOk X.prog X.w X.K X.mg X.base CX0 k x ps sp) (hr : Room k X.A) (ha : PA X (e :: es) t) (hg : Gl X x := by rfl) (hd : (x == ("__debug__" : Str)) = false := by decide)
    (he : starEach (e :: es) X.env = (false, eval e X.env) :: starEach es X.env := by rfl) (hp : (backTo pos (starEach es X.env)).any (·.1) = false := by rfl) :
    PE X (.Call (.Name x p) (e :: es) [] pos) (tCall sp [] E0 t) := by
  obtain ⟨f, fd, F, hm, hk, hb⟩ := c
  exact pe_call F hr hg hm hk hb .nil pass0 ha hd he hp
/-- of a def that may raise, where it doesn't -/
theorem pe_cx (c : CallOk X.prog X.w X.K X.mg X.base (L2.CX X.prog X.w) k x ps sp) (hr : Room k X.A) (ha : PA X (e :: es) t) (hg : Gl X x := by rfl) (hd : (x == ("__debug__" : Str)) = false := by decide)
    (he : starEach (e :: es) X.env = (false, eval e X.env) :: starEach es X.env := by rfl) (hp : (backTo pos (starEach es X.env)).any (·.1) = false := by rfl) :
    PE X (.Call (.Name x p) (e :: es) [] pos) (tCall sp [] E0 t) := by
  obtain ⟨f, fd, F, hm, hk, hb⟩ := c
  exact pe_call F hr hg hm hk hb .nil passL ha hd he hp
/-- a call that may raise, under a wish -/
theorem pe_cs {W : WX} (c : CallOk X.prog X.w X.K X.mg X.base (L2.CX X.prog X.w) k x ps sp) (tk : Takes X W) (hr : Room k X.A) (ha : PA X (e :: es) t) (hg : Gl X x := by rfl) (hd : (x == ("__debug__" : Str)) = false := by decide)
    (he : starEach (e :: es) X.env = (false, eval e X.env) :: starEach es X.env := by rfl) (hp : (backTo pos (starEach es X.env)).any (·.1) = false := by rfl) :
    PE X (.Call (.Name x p) (e :: es) [] pos) (tCallS sp (fun σ => WE W σ) t) := by
  obtain ⟨f, fd, F, hm, hk, hb⟩ := c
  exact pe_callS F hr hg hm hk hb (fun σ => passAt tk σ) ha hd he hp
end
/-- all that was tracked but p is as it was -/
def Ext (p : Addr) (H H' : Hp) : Prop := ∀ b o, H b = some o → b ≠ p → H' b = some o
theorem Ext.refl (p : Addr) (H : Hp) : Ext p H H := fun _ _ h _ => h
theorem Ext.trans {p : Addr} {H H1 H2 : Hp} (a : Ext p H H1) (b : Ext p H1 H2) : Ext p H H2 := fun c o h n => b c o (a c o h n) n
theorem Same.ext {H H' : Hp} (s : Same H H') (p : Addr) : Ext p H H' := fun b o h _ => s b o h
theorem same_new {H : Hp} {q : Addr} {o : HO} (h : H q = none) : Same H (upd H q o) := fun b u e => by
  rw [upd_ne (ne_of_none e h)]
  exact e
theorem ext_at {H : Hp} {p : Addr} {o : HO} : Ext p H (upd H p o) := fun b u e n => by
  rw [upd_ne n]
  exact e
/-- the bag of draws at p -/
def Bag (H : Hp) (p : Addr) : Prop := ∃ x y c : Int, H p = some (.lst [.int x, .int y, .int c])
def spPick : Sp := fun vs H Q _ => ∃ (p : Addr) (m : Int), vs = [.ref p, .int m] ∧ 0 < m ∧ m.natAbs.log2 < 9000 ∧ Bag H p ∧ ∀ (k : Int) (H' : Hp), 0 ≤ k → k < m → Bag H' p → Ext p H H' → Q (.int k) H'
def spBag : Sp := fun vs H Q _ => ∃ c : Int, vs = [.int c] ∧ ∀ (p : Addr) (H' : Hp), H p = none → Bag H' p → Same H H' → Q (.ref p) H'
end Fm
end FFmBase
section FFmDat
set_option Elab.async false
set_option maxRecDepth 100000
namespace Fm
open PySem PySem.Spec PyProof.Rows L2
/-- the data that a value stands for: tuples, lists, the empty dict, flat things; no list or dict of it stands at p -/
inductive Dat (H : Hp) (p : Addr) : V → PyData → Prop
  | non : Dat H p .non .none
  | bl (b : Bool) : Dat H p (.bl b) (.bool b)
  | int (i : Int) : Dat H p (.int i) (.int i)
  | str (x : Str) : Dat H p (.str x) (.str x)
  | tup {a : Addr} {xs : List V} {ds : List PyData} : H a = some (.tup xs) → a ≠ p → xs.length = ds.length → (∀ (i : Nat) (x : V) (d : PyData), xs[i]? = some x → ds[i]? = some d → Dat H p x d) → Dat H p (.ref a) (.tuple ds)
  | lst {a : Addr} {xs : List V} {ds : List PyData} : H a = some (.lst xs) → a ≠ p → xs.length = ds.length → (∀ (i : Nat) (x : V) (d : PyData), xs[i]? = some x → ds[i]? = some d → Dat H p x d) → Dat H p (.ref a) (.list ds)
  | dct {a : Addr} : H a = some (.dK []) → a ≠ p → Dat H p (.ref a) (.dict [])
theorem Dat.ext {H H' : Hp} {p : Addr} {v : V} {d : PyData} (e : Ext p H H') (h : Dat H p v d) : Dat H' p v d := by
  induction h with
  | non => exact .non
  | bl b => exact .bl b
  | int i => exact .int i
  | str x => exact .str x
  | tup h1 h2 h3 _ ih => exact .tup (e _ _ h1 h2) h2 h3 ih
  | lst h1 h2 h3 _ ih => exact .lst (e _ _ h1 h2) h2 h3 ih
  | dct h1 h2 => exact .dct (e _ _ h1 h2) h2
theorem Dat.same {H H' : Hp} {p : Addr} {v : V} {d : PyData} (e : Same H H') (h : Dat H p v d) : Dat H' p v d := h.ext (Same.ext e p)
/-- rows of data -/
abbrev Dats (H : Hp) (p : Addr) (xs : List V) (ds : List PyData) : Prop := xs.length = ds.length ∧ ∀ (i : Nat) (x : V) (d : PyData), xs[i]? = some x → ds[i]? = some d → Dat H p x d
theorem Dats.ext {H H' : Hp} {p : Addr} {xs : List V} {ds : List PyData} (e : Ext p H H') (h : Dats H p xs ds) : Dats H' p xs ds := ⟨h.1, fun i x d a b => (h.2 i x d a b).ext e⟩
theorem Dats.nil {H : Hp} {p : Addr} : Dats H p [] [] := ⟨rfl, fun _ _ _ a _ => by simp at a⟩
theorem Dats.snoc {H : Hp} {p : Addr} {xs : List V} {ds : List PyData} {v : V} {d : PyData} (h : Dats H p xs ds) (k : Dat H p v d) : Dats H p (xs ++ [v]) (ds ++ [d]) := by
  refine ⟨by simp [h.1], fun i x e a b => ?_⟩
  by_cases hi : i < xs.length
  · rw [List.getElem?_append_left hi] at a
    rw [List.getElem?_append_left (by rw [← h.1]; exact hi)] at b
    exact h.2 i x e a b
  · rw [List.getElem?_append_right (by omega)] at a
    rw [List.getElem?_append_right (by rw [← h.1]; omega)] at b
    rw [h.1] at a
    cases e0 : i - ds.length with
    | zero =>
      rw [e0] at a b
      simp at a b
      subst a b
      exact k
    | succ j =>
      rw [e0] at a
      simp at a
theorem Dats.cons {H : Hp} {p : Addr} {xs : List V} {ds : List PyData} {v : V} {d : PyData} (k : Dat H p v d) (h : Dats H p xs ds) : Dats H p (v :: xs) (d :: ds) := by
  refine ⟨by simp [h.1], fun i x e a b => ?_⟩
  cases i with
  | zero =>
    simp at a b
    subst a b
    exact k
  | succ j =>
    simp at a b
    exact h.2 j x e a b
theorem Dats.ints {H : Hp} {p : Addr} (ns : List Int) : Dats H p (ns.map V.int) (ns.map PyData.int) := by
  refine ⟨by simp, fun i x d a b => ?_⟩
  rw [List.getElem?_map] at a b
  cases e : ns[i]? with
  | none => rw [e] at a; cases a
  | some n =>
    rw [e] at a b
    simp at a b
    subst a b
    exact .int n
theorem Dats.at {H : Hp} {p : Addr} {xs : List V} {ds : List PyData} (h : Dats H p xs ds) {i : Nat} {x : V} (e : xs[i]? = some x) : ∃ d, ds[i]? = some d ∧ Dat H p x d := by
  have hi : i < xs.length := (List.getElem?_eq_some_iff.mp e).1
  have hj : i < ds.length := by rw [← h.1]; exact hi
  exact ⟨ds[i], List.getElem?_eq_getElem hj, h.2 i x _ e (List.getElem?_eq_getElem hj)⟩
theorem Dats.back {H : Hp} {p : Addr} {xs : List V} {ds : List PyData} (h : Dats H p xs ds) {i : Nat} {d : PyData} (e : ds[i]? = some d) : ∃ x, xs[i]? = some x ∧ Dat H p x d := by
  have hi : i < ds.length := (List.getElem?_eq_some_iff.mp e).1
  have hj : i < xs.length := by rw [h.1]; exact hi
  exact ⟨xs[i], List.getElem?_eq_getElem hj, h.2 i _ d (List.getElem?_eq_getElem hj) e⟩
/-- a new tuple of data -/
theorem Dat.new {H : Hp} {p q : Addr} {xs : List V} {ds : List PyData} (hq : H q = none) (hp : q ≠ p) (h : Dats H p xs ds) : Dat (upd H q (.tup xs)) p (.ref q) (.tuple ds) :=
  .tup upd_same hp h.1 fun i x d a b => (h.2 i x d a b).same (same_new hq)
theorem Dat.newL {H : Hp} {p q : Addr} {xs : List V} {ds : List PyData} (hq : H q = none) (hp : q ≠ p) (h : Dats H p xs ds) : Dat (upd H q (.lst xs)) p (.ref q) (.list ds) :=
  .lst upd_same hp h.1 fun i x d a b => (h.2 i x d a b).same (same_new hq)
theorem Dat.isTup {H : Hp} {p : Addr} {v : V} {ds : List PyData} (h : Dat H p v (.tuple ds)) : ∃ a xs, v = .ref a ∧ H a = some (.tup xs) ∧ a ≠ p ∧ Dats H p xs ds := by
  cases h with
  | tup h1 h2 h3 h4 => exact ⟨_, _, rfl, h1, h2, h3, h4⟩
theorem Dat.isInt {H : Hp} {p : Addr} {v : V} {i : Int} (h : Dat H p v (.int i)) : v = .int i := by
  cases h with
  | int i => rfl
/-! ### types -/
def tyName : PyData → String
  | .none => "NoneType"
  | .bool _ => "bool"
  | .int _ => "int"
  | .str _ => "str"
  | .list _ => "list"
  | .tuple _ => "tuple"
  | .dict _ => "dict"
theorem Dat.ty {K : PySem.W.Frag} {H : Hp} {p : Addr} {v : V} {d : PyData} (h : Dat H p v d) : TyX K H v (.type (tyName d)) := by
  cases h with
  | non => exact .base .non
  | bl b => exact .base (.bl b)
  | int i => exact .base (.int i)
  | str x => exact .base (.str x)
  | tup h1 => exact .base (.tup h1)
  | lst h1 => exact .base (.lst h1)
  | dct h1 => exact .base (.dK h1)
def isI : PyData → Bool
  | .int _ => true
  | .bool _ => true
  | _ => false
def isB : PyData → Bool
  | .bool _ => true
  | _ => false
def isTu : PyData → Bool
  | .tuple _ => true
  | _ => false
theorem kit_int : ∀ d : PyData, kitB (tyName d) "int" = some (isI d)
  | .none => (by decide +kernel : kitB "NoneType" "int" = some false)
  | .bool _ => (by decide +kernel : kitB "bool" "int" = some true)
  | .int _ => (by decide +kernel : kitB "int" "int" = some true)
  | .str _ => (by decide +kernel : kitB "str" "int" = some false)
  | .list _ => (by decide +kernel : kitB "list" "int" = some false)
  | .tuple _ => (by decide +kernel : kitB "tuple" "int" = some false)
  | .dict _ => (by decide +kernel : kitB "dict" "int" = some false)
theorem kit_bool : ∀ d : PyData, kitB (tyName d) "bool" = some (isB d)
  | .none => (by decide +kernel : kitB "NoneType" "bool" = some false)
  | .bool _ => (by decide +kernel : kitB "bool" "bool" = some true)
  | .int _ => (by decide +kernel : kitB "int" "bool" = some false)
  | .str _ => (by decide +kernel : kitB "str" "bool" = some false)
  | .list _ => (by decide +kernel : kitB "list" "bool" = some false)
  | .tuple _ => (by decide +kernel : kitB "tuple" "bool" = some false)
  | .dict _ => (by decide +kernel : kitB "dict" "bool" = some false)
theorem kit_tuple : ∀ d : PyData, kitB (tyName d) "tuple" = some (isTu d)
  | .none => (by decide +kernel : kitB "NoneType" "tuple" = some false)
  | .bool _ => (by decide +kernel : kitB "bool" "tuple" = some false)
  | .int _ => (by decide +kernel : kitB "int" "tuple" = some false)
  | .str _ => (by decide +kernel : kitB "str" "tuple" = some false)
  | .list _ => (by decide +kernel : kitB "list" "tuple" = some false)
  | .tuple _ => (by decide +kernel : kitB "tuple" "tuple" = some true)
  | .dict _ => (by decide +kernel : kitB "dict" "tuple" = some false)
theorem isTu_iff {d : PyData} : isTu d = true ↔ ∃ ds, d = .tuple ds := by
  cases d <;> simp [isTu]
/-! ### texts -/
def noList : PyData → Bool
  | .list _ => false
  | .tuple xs => xs.attach.all fun ⟨x, _⟩ => noList x
  | _ => true
theorem noList_tup {ds : List PyData} (h : noList (.tuple ds) = true) : ∀ d ∈ ds, noList d = true := by
  intro d hd
  unfold noList at h
  rw [List.all_eq_true] at h
  exact h ⟨d, hd⟩ (List.mem_attach _ _)
theorem noList_of {ds : List PyData} (h : ∀ d ∈ ds, noList d = true) : noList (.tuple ds) = true := by
  unfold noList
  rw [List.all_eq_true]
  exact fun ⟨d, hd⟩ _ => h d hd
theorem readsAll_of {h : Heap} : ∀ {xs : List V} {us : List Value} {ds : List PyData}, Vals xs us → xs.length = ds.length →
    (∀ (i : Nat) (x : V) (d : PyData), xs[i]? = some x → ds[i]? = some d → ∀ u, RelV x u → ∃ as, Reads h u d as ∧ (noList d = true → sysModules ∉ as)) →
    ∃ as, ReadsAll h us ds as ∧ ((∀ d ∈ ds, noList d = true) → sysModules ∉ as)
  | [], _, ds, r, hl, _ => by
    cases r
    cases ds with
    | nil => exact ⟨[], .nil, fun _ => by simp⟩
    | cons d r => simp at hl
  | x :: xs, _, ds, r, hl, hr => by
    cases r with
    | cons r1 r2 =>
      cases ds with
      | nil => simp at hl
      | cons d ds =>
        obtain ⟨a1, h1, n1⟩ := hr 0 x d rfl rfl _ r1
        obtain ⟨a2, h2, n2⟩ := readsAll_of r2 (by simpa using hl) fun i y e q1 q2 => hr (i + 1) y e (by simpa using q1) (by simpa using q2)
        exact ⟨a1 ++ a2, .cons h1 h2, fun hn hm => by
          rcases List.mem_append.mp hm with hm | hm
          · exact n1 (hn d List.mem_cons_self) hm
          · exact n2 (fun e he => hn e (List.mem_cons_of_mem _ he)) hm⟩
theorem Dat.reads {X : Cx} {pins : List (Addr × Obj)} {σ : L2.St} {H : Hp} {s : Shared} {p : Addr} {v : V} {d : PyData} (I : Inv X pins σ H s) (h : Dat H p v d) :
    ∀ u, RelV v u → ∃ as, Reads s.heap u d as ∧ (noList d = true → sysModules ∉ as) := by
  induction h with
  | non => intro u r; cases r; exact ⟨[], .none, fun _ => by simp⟩
  | bl b => intro u r; cases r; exact ⟨[], .bool b, fun _ => by simp⟩
  | int i => intro u r; obtain ⟨t, rfl⟩ := r; exact ⟨[], .int i t, fun _ => by simp⟩
  | str x => intro u r; obtain ⟨t, rfl⟩ := r; exact ⟨[], .str x t, fun _ => by simp⟩
  | tup h1 h2 h3 _ ih =>
    intro u r
    cases r
    obtain ⟨its, rv, ⟨o, e, hc, n, hd⟩, _⟩ := I.tuple (SqT.of h1)
    obtain ⟨as, ha, hn⟩ := readsAll_of rv h3 ih
    exact ⟨as, .tuple e hc hd (by simpa using ha), fun z => hn (noList_tup z)⟩
  | lst h1 h2 h3 _ ih =>
    intro u r
    cases r
    obtain ⟨its, rv, ⟨o, n, e, hc, _, hd⟩, _⟩ := I.list (SqL.of h1)
    obtain ⟨as, ha, hn⟩ := readsAll_of rv h3 ih
    exact ⟨_, .list e hc hd (by simpa using ha), fun z => by unfold noList at z; cases z⟩
  | @dct a h1 h2 =>
    intro u r
    cases r
    obtain ⟨_, hs, vs, kv, o, es, ep, e, hx, hd, he⟩ := (show ObjOk X.prog X.w H s.heap a (.dK []) from I.hok a _ h1)
    cases kv
    have e0 : es.toList = [] := by
      have q := he.2.1
      cases z : es.toList with
      | nil => rfl
      | cons x r =>
        rw [z] at q
        exact absurd q (by intro w; cases w)
    refine ⟨_, .dict (as := []) (bs := []) e hx.1 hd (by rw [e0]; exact .nil) (by rw [e0]; exact .nil), fun _ hm => ?_⟩
    simp at hm
    rw [hm] at hs
    simp at hs
/-- a bound of what is shown -/
structure Fit (n k : Nat) (d : PyData) : Prop where
  len : d.shown.length ≤ n
  dep : d.depth ≤ k
  sh : d.showable = true
  ok : d.hasDict = false ∨ noList d = true
theorem fit_int {i : Int} (h : i.natAbs < 10 ^ 40) : Fit 41 0 (.int i) := by
  refine ⟨?_, ?_, ?_, ?_⟩
  · have q := int_text_length_le10 (a := i) (k := 40) (by decide) h
    simp only [PyData.shown]
    show (Str.ofString (toString i)).length ≤ 41
    rw [PySem.ofString_length]
    omega
  · simp only [PyData.depth]; omega
  · simp only [PyData.showable]
    have l : i.natAbs < 2 ^ 133 := Nat.lt_of_lt_of_le h (by decide)
    have l2 := PySem.Flt.log2_lt_of (by decide : 0 < 133) l
    exact decide_eq_true (by omega)
  · exact .inl (by simp only [PyData.hasDict])
theorem fit_bool (b : Bool) : Fit 5 0 (.bool b) := by
  refine ⟨?_, ?_, ?_, ?_⟩
  · simp only [PyData.shown]
    cases b <;> decide
  · simp only [PyData.depth]; omega
  · simp only [PyData.showable]
  · exact .inl (by simp only [PyData.hasDict])
theorem fit_none : Fit 5 0 .none := by
  refine ⟨?_, ?_, ?_, ?_⟩
  · simp only [PyData.shown]
    decide
  · simp only [PyData.depth]; omega
  · simp only [PyData.showable]
  · exact .inl (by simp only [PyData.hasDict])
theorem fit_str {x : Str} (h : (reprText x).length ≤ 41) : Fit 41 0 (.str x) := by
  refine ⟨?_, ?_, ?_, ?_⟩
  · simpa only [PyData.shown] using h
  · simp only [PyData.depth]; omega
  · simp only [PyData.showable]
  · exact .inl (by simp only [PyData.hasDict])
theorem Fit.mono {n k n' k' : Nat} {d : PyData} (F : Fit n k d) (h : n ≤ n') (h' : k ≤ k') : Fit n' k' d := ⟨Nat.le_trans F.len h, Nat.le_trans F.dep h', F.sh, F.ok⟩
theorem all_fit {n k : Nat} : ∀ {ds : List PyData}, (∀ d ∈ ds, Fit n k d) → piled (PyData.shownAll ds) ≤ (n + 2) * ds.length ∧ PyData.depthAll ds ≤ k ∧ PyData.showableAll ds = true ∧ (PyData.shownAll ds).length = ds.length
  | [], _ => by simp [PyData.shownAll, PyData.depthAll, PyData.showableAll, piled]
  | d :: r, h => by
    obtain ⟨h1, h2, h3, h4⟩ := all_fit fun e he => h e (List.mem_cons_of_mem _ he)
    have F := h d List.mem_cons_self
    have l := F.len
    have e := F.dep
    refine ⟨?_, ?_, ?_, ?_⟩
    · simp only [PyData.shownAll, piled_cons, List.length_cons]
      rw [Nat.mul_add]
      omega
    · simp only [PyData.depthAll]
      omega
    · simp only [PyData.showableAll, F.sh, h3, Bool.and_self]
    · simp only [PyData.shownAll, List.length_cons, h4]
theorem hasDict_all : ∀ {ds : List PyData}, (∀ d ∈ ds, d.hasDict = false) → PyData.hasDictAll ds = false
  | [], _ => by simp only [PyData.hasDictAll]
  | d :: r, h => by
    simp only [PyData.hasDictAll, h d List.mem_cons_self, hasDict_all fun e he => h e (List.mem_cons_of_mem _ he), Bool.or_self]
theorem tupleText_len (ts : List Str) : (tupleText ts).length ≤ piled ts + 3 := by
  unfold tupleText
  rw [strLen_append, strLen_append]
  have e : (Str.ofString (if ts.length == 1 then ",)" else ")" : String)).length ≤ 2 := by split <;> decide
  have e1 : ("(" : Str).length = 1 := rfl
  by_cases h : ts = []
  · subst h
    have : (Str.join ", " []).length = 0 := rfl
    omega
  · have := join_length_add ts h
    omega
theorem listText_len (ts : List Str) : (listText ts).length ≤ piled ts + 3 := by
  cases ts with
  | nil => decide
  | cons t r =>
    have h := textFrom_length_pos r 1 (("[" : Str) ++ (if (0 : Nat) > 0 then ", " else "" : String) ++ t) (Nat.succ_pos 0)
    have e : (("[" : Str) ++ (if (0 : Nat) > 0 then ", " else "" : String) ++ t).length = 1 + t.length := by rw [strLen_append, strLen_append]; rfl
    show (textFrom 1 (("[" : Str) ++ (if (0 : Nat) > 0 then ", " else "" : String) ++ t) r ++ "]").length ≤ _
    rw [strLen_append, h, e, piled_cons]
    have e2 : ("]" : Str).length = 1 := rfl
    omega
theorem fit_tup {n k : Nat} {ds : List PyData} (h : ∀ d ∈ ds, Fit n k d) (hn : ∀ d ∈ ds, noList d = true) : Fit ((n + 2) * ds.length + 3) (k + 1) (.tuple ds) := by
  obtain ⟨h1, h2, h3, h4⟩ := all_fit h
  refine ⟨?_, ?_, ?_, ?_⟩
  · simp only [PyData.shown]
    exact Nat.le_trans (tupleText_len _) (by omega)
  · simp only [PyData.depth]; omega
  · simpa only [PyData.showable] using h3
  · exact .inr (noList_of hn)
/-- tuples and lists without a dict -/
theorem fit_tupD {n k : Nat} {ds : List PyData} (h : ∀ d ∈ ds, Fit n k d) (hn : ∀ d ∈ ds, d.hasDict = false) : Fit ((n + 2) * ds.length + 3) (k + 1) (.tuple ds) := by
  obtain ⟨h1, h2, h3, h4⟩ := all_fit h
  refine ⟨?_, ?_, ?_, ?_⟩
  · simp only [PyData.shown]
    exact Nat.le_trans (tupleText_len _) (by omega)
  · simp only [PyData.depth]; omega
  · simpa only [PyData.showable] using h3
  · exact .inl (by simp only [PyData.hasDict]; exact hasDict_all hn)
theorem fit_lst {n k : Nat} {ds : List PyData} (h : ∀ d ∈ ds, Fit n k d) (hn : ∀ d ∈ ds, d.hasDict = false) : Fit ((n + 2) * ds.length + 3) (k + 1) (.list ds) := by
  obtain ⟨h1, h2, h3, h4⟩ := all_fit h
  refine ⟨?_, ?_, ?_, ?_⟩
  · simp only [PyData.shown]
    exact Nat.le_trans (listText_len _) (by omega)
  · simp only [PyData.depth]; omega
  · simpa only [PyData.showable] using h3
  · exact .inl (by simp only [PyData.hasDict]; exact hasDict_all hn)
theorem call_repr {X : Cx} (hg : X.A.guards = some []) (hu : X.A.units + 64 < cLine) : CallR X (.builtin "repr") (fun xs H Q => ∃ (v : V) (p : Addr) (d : PyData) (n k : Nat), xs = [v] ∧ Dat H p v d ∧ Fit n k d ∧ n ≤ sizeLine ∧ k ≤ 60 ∧ Q (.str d.shown) H) := by
  intro pins s σ H xs us Q I r h
  obtain ⟨v, p, d, n, k, rfl, hd, F, hn, hk, q⟩ := h
  obtain ⟨u, rfl, ru⟩ := vals1 r
  obtain ⟨as, R, hm⟩ := hd.reads I u ru
  have hz : d.shown.length ≤ sizeLine := Nat.le_trans F.len hn
  have fin : ∀ tk t, EP X pins σ Q (.str d.shown t) { s with toks := tk } := fun tk t => ⟨.str d.shown, H, I.tok tk, ⟨t, rfl⟩, q⟩
  cases hd with
  | non => cases ru; exact PySem.P.repr_of_none (by simpa only [PyData.shown] using fin _ _)
  | bl b => cases ru; exact PySem.P.repr_of_bool (by simpa only [PyData.shown] using fin _ _)
  | int i => obtain ⟨t, rfl⟩ := ru; exact PySem.P.repr_of_int (by simpa only [PyData.showable, decide_eq_true_eq] using F.sh) (by simpa only [PyData.shown] using fin _ _)
  | str x => obtain ⟨t, rfl⟩ := ru; exact PySem.P.repr_of_str (by simpa only [PyData.shown] using fin _ _) (by simpa only [PyData.shown] using hz)
  | tup h1 h2 h3 h4 =>
    cases ru
    exact repr_of_reads' R F.sh (fun hd => hm (F.ok.resolve_left (by rw [hd]; exact Bool.noConfusion))) hg (by have := F.dep; omega) (fun _ _ e => e) (fun h' u tk hk' => ⟨.str _, H, I.kept (t' := tk) hk', ⟨u, rfl⟩, q⟩) hz
  | lst h1 h2 h3 h4 =>
    cases ru
    exact repr_of_reads' R F.sh (fun hd => hm (F.ok.resolve_left (by rw [hd]; exact Bool.noConfusion))) hg (by have := F.dep; omega) (fun _ _ e => e) (fun h' u tk hk' => ⟨.str _, H, I.kept (t' := tk) hk', ⟨u, rfl⟩, q⟩) hz
  | dct h1 h2 =>
    cases ru
    exact repr_of_reads' R F.sh (fun hd => hm (F.ok.resolve_left (by rw [hd]; exact Bool.noConfusion))) hg (by have := F.dep; omega) (fun _ _ e => e) (fun h' u tk hk' => ⟨.str _, H, I.kept (t' := tk) hk', ⟨u, rfl⟩, q⟩) hz
end Fm
end FFmDat
section FFmLoop
set_option Elab.async false
set_option maxRecDepth 100000
namespace Fm
open PySem PySem.Spec PyProof.Rows L2
/-- a loop over what J yields -/
def ForB (J : It) (g : TG) (tb : TS) (D : Ends) (σ : L2.St) (H : Hp) : Prop := ∃ W : Nat → Nat → L2.St → Hp → Prop, (∃ m, W 0 m σ H) ∧ ∀ i m σ H, W i m σ H →
  (J.stop i H ∧ D.nx σ H) ∨ (J.go i H ∧ ∃ N : L2.St → Hp → Prop, (∀ σ' H', N σ' H' → ∃ m', m' < m ∧ W (i + 1) m' σ' H') ∧ ∀ x H', J.yld i H x H' → g x σ H' fun σ2 H2 => tb { D with nx := N, ct := N, bk := D.nx } σ2 H2)
theorem tFor_eq {wi : TI} {g : TG} {tb : TS} {D : Ends} {σ : L2.St} {H : Hp} : tFor wi g tb D σ H = wi σ H fun J H1 => ForB J g tb D σ H1 := rfl
/-- a comprehension over what J yields, its list at D -/
def LcB (J : It) (g : TG) (tt : TT) (te : TE) (vs : List Nat) (σ : L2.St) (H1 : Hp) (D : Addr) (Qd : Hp → Prop) : Prop := ∃ W : Nat → Nat → Hp → Prop, (∃ m, W 0 m (upd H1 D (.lst []))) ∧ ∀ i m H, W i m H →
  (J.stop i H ∧ Qd H) ∨ (J.go i H ∧ ∃ Nx : Hp → Prop, (∀ H', Nx H' → ∃ m', m' < m ∧ W (i + 1) m' H') ∧ ∀ x H', J.yld i H x H' → g x (wipe σ vs) H' fun σ2 H2 => wipe σ2 vs = wipe σ vs ∧ tt σ2 H2 fun b H3 =>
    if b = true then te σ2 H3 fun y H4 => ∃ acc, H4 D = some (.lst acc) ∧ acc.length < sizeLine ∧ Nx (upd H4 D (.lst (acc ++ [y]))) else Nx H3)
theorem tLc_eq {wi : TI} {g : TG} {tt : TT} {te : TE} {vs : List Nat} {σ : L2.St} {H : Hp} {Q : VK} : tLc wi g tt te vs σ H Q = wi σ H fun J H1 => ∀ A, H1 A = none → LcB J g tt te vs σ H1 A (fun H => Q (.ref A) H) := rfl
section
variable {K : PySem.W.Frag} {a : Addr} {xs : List V} {g : TG} {tb : TS} {D : Ends} {σ : L2.St} {H : Hp}
theorem fT (Pv : Nat → L2.St → Hp → Prop) (h0 : Pv 0 σ H) (hl : ∀ i σ H, i ≤ xs.length → Pv i σ H → SqT K H a xs)
    (hs : ∀ i x σ H, xs[i]? = some x → Pv i σ H → g x σ H fun σ2 H2 => tb { D with nx := Pv (i + 1), ct := Pv (i + 1), bk := D.nx } σ2 H2) (hd : ∀ σ H, Pv xs.length σ H → D.nx σ H) : ForB (Itt K a) g tb D σ H := for_tup Pv h0 hl hs hd
theorem fL (Pv : Nat → L2.St → Hp → Prop) (h0 : Pv 0 σ H) (hl : ∀ i σ H, i ≤ xs.length → Pv i σ H → SqL K H a xs)
    (hs : ∀ i x σ H, xs[i]? = some x → Pv i σ H → g x σ H fun σ2 H2 => tb { D with nx := Pv (i + 1), ct := Pv (i + 1), bk := D.nx } σ2 H2) (hd : ∀ σ H, Pv xs.length σ H → D.nx σ H) : ForB (Itl K a) g tb D σ H := for_list Pv h0 hl hs hd
theorem fR {lo : Int} {n : Nat} (Pv : Nat → L2.St → Hp → Prop) (h0 : Pv 0 σ H)
    (hs : ∀ i σ H, i < n → Pv i σ H → g (.int (lo + i)) σ H fun σ2 H2 => tb { D with nx := Pv (i + 1), ct := Pv (i + 1), bk := D.nx } σ2 H2) (hd : ∀ σ H, Pv n σ H → D.nx σ H) : ForB (Itr lo n) g tb D σ H := for_range Pv h0 hs hd
end
section
variable {K : PySem.W.Frag} {a : Addr} {xs : List V} {g : TG} {tt : TT} {te : TE} {vs : List Nat} {σ : L2.St} {H1 : Hp} {D : Addr} {Qd : Hp → Prop}
theorem lR {lo : Int} {n : Nat} (Pv : Nat → Hp → Prop) (h0 : Pv 0 (upd H1 D (.lst [])))
    (hs : ∀ i H, i < n → Pv i H → g (.int (lo + i)) (wipe σ vs) H fun σ2 H2 => wipe σ2 vs = wipe σ vs ∧ tt σ2 H2 fun b H3 =>
      if b = true then te σ2 H3 fun y H4 => ∃ acc, H4 D = some (.lst acc) ∧ acc.length < sizeLine ∧ Pv (i + 1) (upd H4 D (.lst (acc ++ [y]))) else Pv (i + 1) H3) (hd : ∀ H, Pv n H → Qd H) : LcB (Itr lo n) g tt te vs σ H1 D Qd := lc_range Pv h0 hs hd
theorem lL (Pv : Nat → Hp → Prop) (h0 : Pv 0 (upd H1 D (.lst []))) (hl : ∀ i H, i ≤ xs.length → Pv i H → SqL K H a xs)
    (hs : ∀ i x H, xs[i]? = some x → Pv i H → g x (wipe σ vs) H fun σ2 H2 => wipe σ2 vs = wipe σ vs ∧ tt σ2 H2 fun b H3 =>
      if b = true then te σ2 H3 fun y H4 => ∃ acc, H4 D = some (.lst acc) ∧ acc.length < sizeLine ∧ Pv (i + 1) (upd H4 D (.lst (acc ++ [y]))) else Pv (i + 1) H3) (hd : ∀ H, Pv xs.length H → Qd H) : LcB (Itl K a) g tt te vs σ H1 D Qd := lc_list Pv h0 hl hs hd
theorem lT (Pv : Nat → Hp → Prop) (h0 : Pv 0 (upd H1 D (.lst []))) (hl : ∀ i H, i ≤ xs.length → Pv i H → SqT K H a xs)
    (hs : ∀ i x H, xs[i]? = some x → Pv i H → g x (wipe σ vs) H fun σ2 H2 => wipe σ2 vs = wipe σ vs ∧ tt σ2 H2 fun b H3 =>
      if b = true then te σ2 H3 fun y H4 => ∃ acc, H4 D = some (.lst acc) ∧ acc.length < sizeLine ∧ Pv (i + 1) (upd H4 D (.lst (acc ++ [y]))) else Pv (i + 1) H3) (hd : ∀ H, Pv xs.length H → Qd H) : LcB (Itt K a) g tt te vs σ H1 D Qd := lc_tup Pv h0 hl hs hd
end
/-! ### what a house is, as data -/
def UpTo (mv : V) (d : PyData) : Prop := ∃ i : Int, d = .int i ∧ 0 ≤ i ∧ ∀ M, mv = .int M → i ≤ M
def RowD (m : Nat) (d : PyData) : Prop := ∃ ds, d = .tuple ds ∧ ds.length = m ∧ ∀ e ∈ ds, ∃ i : Int, e = .int i ∧ 0 ≤ i ∧ i < m
def cellD (rs : List PyData) (a b : Nat) : PyData := match rs[a]? with
  | some (.tuple r) => r[b]?.getD .none
  | _ => .none
def TabD (m : Nat) (d : PyData) : Prop := ∃ rs, d = .tuple rs ∧ rs.length = m ∧ (∀ r ∈ rs, RowD m r) ∧ ∀ a b, a < m → b < m → cellD rs a b = cellD rs b a
def FloorD (m : Nat) (d : PyData) : Prop := ∃ s u, d = .tuple [s, u] ∧ TabD m s ∧ TabD m u
def HouseN (m n : Nat) (d : PyData) : Prop := ∃ fs, d = .tuple fs ∧ fs.length = n ∧ 1 ≤ n ∧ n ≤ 4 ∧ 1 ≤ m ∧ m ≤ 6 ∧ ∀ f ∈ fs, FloorD m f
def HouseD (d : PyData) : Prop := ∃ m n, HouseN m n d
/-! ### promises of the program's looks -/
def spWhole : Sp := fun vs H Q _ => ∃ (v : V) (p : Addr) (d : PyData), vs = [v] ∧ Dat H p v d ∧ ∀ b : Bool, (b = true ↔ ∃ i, d = .int i) → Q (.bl b) H
def spUpTo : Sp := fun vs H Q _ => ∃ (v mv : V) (p : Addr) (d : PyData), vs = [v, mv] ∧ Dat H p v d ∧ (mv = .non ∨ ∃ M, mv = .int M) ∧ ∀ b : Bool, (b = true ↔ UpTo mv d) → Q (.bl b) H
def spTupOf : Sp := fun vs H Q _ => ∃ (v : V) (n : Int) (p : Addr) (d : PyData), vs = [v, .int n] ∧ Dat H p v d ∧ ∀ b : Bool, (b = true ↔ ∃ ds, d = .tuple ds ∧ (ds.length : Int) = n) → Q (.bl b) H
def spAre : Sp := fun vs H Q _ => ∃ (v mv : V) (n : Int) (p : Addr) (d : PyData), vs = [v, .int n, mv] ∧ Dat H p v d ∧ (mv = .non ∨ ∃ M, mv = .int M) ∧
  ∀ b : Bool, (b = true ↔ ∃ ds, d = .tuple ds ∧ (ds.length : Int) = n ∧ ∀ e ∈ ds, UpTo mv e) → Q (.bl b) H
def spTable : Sp := fun vs H Q _ => ∃ (v : V) (m : Nat) (p : Addr) (d : PyData), vs = [v, .int m] ∧ m ≤ 1000 ∧ Dat H p v d ∧ ∀ b : Bool, (b = true ↔ TabD m d) → Q (.bl b) H
def spHouse : Sp := fun vs H Q _ => ∃ (v : V) (p : Addr) (d : PyData), vs = [v] ∧ Dat H p v d ∧ ∀ b : Bool, (b = true ↔ HouseD d) → Q (.bl b) H
end Fm
end FFmLoop
section FFmTry
set_option Elab.async false
set_option linter.all false
set_option maxRecDepth 100000
set_option maxHeartbeats 2000000
namespace Fm
open PySem PySem.Spec PyProof.Rows L2
/-- an exception of the class cls, caught and kept at a -/
def ExK (cls : Value) (d : Option Addr) (a : Addr) : HO := .ext fun h => ∃ (oe : Obj) (vs : Array Value), h.get? a = some oe ∧ Zc cls d oe ∧ oe.data = .fields vs
section
variable {X : Cx} {pins : List (Addr × Obj)} {σ : L2.St} {H : Hp} {s sI : Shared}
/-- what is pinned, and is new since the entry, may be tracked -/
theorem track {a : Addr} {oe : Obj} {vs : Array Value} {cls : Value} {d : Option Addr} (I : Inv X ((a, oe) :: pins) σ H s) (hz : Zc cls d oe) (hv : oe.data = .fields vs)
    (h0 : X.s_0.heap.get? a = none) (hp : ∀ q ∈ X.pn ++ pins, q.1 ≠ a) : Inv X pins σ (upd H a (ExK cls d a)) s := by
  obtain ⟨ga, na, nl, nf, nc⟩ := I.pin (a, oe) (List.mem_append_right _ List.mem_cons_self)
  dsimp only at ga na nl nf nc
  have nb : ∀ {b o}, X.s_0.heap.get? b = some o → b ≠ a := fun {b o} e z => by
    rw [z, h0] at e
    cases e
  have hne : ∀ {b u}, H b = some u → b ≠ a := fun {b u} e => ne_of_none e na
  refine ⟨I.ok, I.os, I.bare, ⟨fun b o e n x y => ?_, fun b o e n x y => ?_, fun b o e n x => ?_, fun b o e x => ?_, fun b xs e => ?_, fun b o u e => ?_, fun b ps e => ?_⟩, I.loc, I.cell, ?_, fun x c e => ?_, fun q hq => ?_, fun b u e => ?_, I.len⟩
  · exact I.base.keep b o e n x y
  · exact I.base.slot b o e n x y
  · rw [upd_ne (nb e)]
    exact I.base.free b o e n x
  · exact I.base.there b o e x
  · have q := I.base.tups b xs e
    rw [upd_ne (hne q)]
    exact q
  · have q := I.base.frzs b o u e
    rw [upd_ne (hne q)]
    exact q
  · obtain ⟨m, q⟩ := I.base.tbls b ps e
    exact ⟨m, by rw [upd_ne (hne q)]; exact q⟩
  · rw [upd_ne (Ne.symm nl)]
    exact I.free
  · have hca : c ≠ a := fun z => by
      obtain ⟨v, o, ho, hd⟩ := I.cell x c e
      rw [z, ga] at ho
      cases ho
      exact nc v hd
    rw [upd_ne hca]
    exact I.freeC x c e
  · have hq2 : q ∈ X.pn ++ (a, oe) :: pins := by
      rcases List.mem_append.mp hq with z | z
      · exact List.mem_append_left _ z
      · exact List.mem_append_right _ (List.mem_cons_of_mem _ z)
    obtain ⟨e1, e2, e3⟩ := I.pin q hq2
    exact ⟨e1, by rw [upd_ne (hp q hq)]; exact e2, e3⟩
  · by_cases hb : b = a
    · subst hb
      rw [upd_same] at e
      cases e
      exact ⟨⟨oe, vs, ga, hz, hv⟩, ⟨oe, ga⟩, fun h1 h2 ⟨o, v, q, r⟩ k => ⟨o, v, k o q, r⟩⟩
    · rw [upd_ne hb] at e
      exact (I.hok b u e).stay (fun c w _ q => q) (fun c q => by rw [upd_ne (hne q)]; exact q) fun c xs q => by rw [upd_ne (hne q)]; exact q
end
/-- what the clause wishes that keeps its exception in a name: i the clause's own name, j the name that keeps it -/
def wKeep (K : PySem.W.Frag) (c : Value) (i j : Nat) (D : Ends) : WX := fun cls d σ H =>
  PySem.W.exmOne K cls c = some true ∧ ∀ a, H a = none → D.nx (((σ.set i (some (.ref a))).set j (some (.ref a))).set i none) (upd H a (ExK cls d a))
section
variable {X : Cx} {x n y : Str} {c : Value} {i j : Nat} {body : List Stmt} {np pos pos' py pn sp : Pos} {tb : WX → TS}
theorem ps_try_keep (hs : X.stack = X.env :: X.outer) (hf : X.env.frame = some X.env.locals) (hex : X.ex = []) (hN : X.N.Nodup) (hi : X.N[i]? = some n) (hln : X.env.kindOf n = some .local) (hj : X.N[j]? = some y) (hly : X.env.kindOf y = some .local) (hc : Names X x c)
    (hd1 : (n == ("__debug__" : Str)) = false) (hd2 : (n == ("__classdict__" : Str)) = false) (hsw : swapsWith (.Name n pn) (some (.Name y py)) sp.line X.env = pure false) (hil : i < X.N.length)
    (hb : ∀ (W : WX) (pn : List (Addr × Obj)) (xe : Value → Shared → Prop), Takes (X.tr pn xe) W → PassesOwn (model X.prog X.w) X.A X.env xe → PSs (X.tr pn xe) body (tb W)) :
    PS X (.Try body [.ExceptHandler (some (.Name x np)) (some n) [.Assign [.Name y py] (.Name n pn) sp] pos'] [] [] pos) (fun D σ H => tb (wKeep X.K c i j D) D σ H) := by
  refine ⟨fun pins s σ H D I h => ?_⟩
  have ok := I.ok
  have fr1 : X.A.frames = some (X.env :: X.outer) := by rw [ok.frames, hs]
  have lc1 : Loc X.env.scope n := .inl hln
  refine wpAny_Try_except ?_
  refine wpAny_mono ((hb (wKeep X.K c i j D) (X.pn ++ pins) (fun e t1 => wpAny (model X.prog X.w) X.A (noteFrame e X.env) (fun _ t2 => wpAny (model X.prog X.w) X.A (setFlight e none) (fun _ t3 =>
    wpAny (model X.prog X.w) X.A (handleBy e X.env [.ExceptHandler (some (.Name x np)) (some n) [.Assign [.Name y py] (.Name n pn) sp] pos']) (SP X pins D) X.xe t3) X.xe t2) X.xe t1) (fun u s' xx => ?_) PassesOwn.looking).run [] s σ H D (I.toTry _) h) (fun f s1 hsp => ?_) (fun e s1 he => he)
  · obtain ⟨a, B, sI, pins', σ1, H1, cls, d, rfl, J0, nb, up, sky, na, os, ag, hx1, hyes⟩ := xx
    have J : Inv X pins σ1 H1 sI := J0.ofTry ok
    have sk : Sky B (X.env :: X.outer) a (Zc cls d) X.env.locals s'.heap := hs ▸ sky
    show wpAny (model X.prog X.w) X.A (noteFrame (.ref a) X.env) _ _ _
    refine Sky.land Zc.steady fr1 hf sk fun g3 f3 u3 => ?_
    have K3 : Inv X pins σ1 H1 { s' with heap := g3 } := J.landed nb f3.1 (up.trans u3) os ag
    obtain ⟨o3, v3, e3, z3, d3⟩ := f3.there
    have off : a ∉ frs (X.env :: X.outer) := fun hm => by
      obtain ⟨_, o', e', hq⟩ := (show g3.FunFrames B (X.env :: X.outer) from f3.2.2.1).mem hm
      rw [e3] at e'
      cases e'
      exact hq _ d3
    have offL : a ≠ X.env.locals := fun z => off (List.mem_filterMap.mpr ⟨X.env, List.mem_cons_self, by rw [hf, z]⟩)
    have offF : a ∉ X.fs := fun hm => by
      obtain ⟨e, he, q⟩ := List.mem_filterMap.mp hm
      exact off (List.mem_filterMap.mpr ⟨e, List.mem_cons_of_mem _ he, q⟩)
    have newI : sI.heap.get? a = none := by
      cases q : sI.heap.get? a with
      | none => rfl
      | some o =>
        have z := nb a o q (by rw [hs]; exact off)
        rw [f3.2.1] at z
        cases z
    have new0 : X.s_0.heap.get? a = none := by
      cases q : X.s_0.heap.get? a with
      | none => rfl
      | some o =>
        obtain ⟨o', z⟩ := J.base.there a o q (by rw [hex]; exact fun z => nomatch z)
        rw [newI] at z
        cases z
    have S3 := K3.suite e3 d3 na offL offF
    refine wpAny_handleBy_cons (codeAny_handlers_test ?_) (by intro q; cases q)
    have LT : PySem.W.Looks (model X.prog X.w) g3 (typeOf (.ref a)) cls := fun A Q E s k q => wpAny_typeOf_ref (k _ _ e3) (by rw [z3.1]; exact q)
    have LM := PySem.W.exm_one (M := model X.prog X.w) K3.kIn LT hx1
    have tst : ∀ {Q : Value → Shared → Prop} {E : Value → Shared → Prop}, Q c { s' with heap := g3 } → wpAny (model X.prog X.w) (X.A.mark (some (.ref a))) (eval (.Name x np) X.env) Q E { s' with heap := g3 } := fun {Q E} q => by
      obtain ⟨hg, hdb, hm | ⟨hm, hv, hnn⟩⟩ := hc
      · exact ld_glob (X := X.suite a ((a, o3) :: (X.pn ++ pins))) S3 hg hm q hdb
      · exact ld_blt (X := X.suite a ((a, o3) :: (X.pn ++ pins))) S3 hg hm hv q hnn hdb
    refine tst (LM.here ?_)
    refine codeAny_handlers_suite_as ?_
    refine HandSPX.lands_againZ f3 fun g4 f4 u4 => ?_
    have K4 : Inv X pins σ1 H1 { s' with heap := g4 } := J.landed nb f4.1 ((up.trans u3).trans u4) os ag
    obtain ⟨o4, v4, e4, z4, d4⟩ := f4.there
    have S4 := K4.suite e4 d4 na offL offF
    refine store_ok (X := X.suite a ((a, o4) :: (X.pn ++ pins))) (v := .ref a) S4 hN hi lc1 rfl (fun s5 S5 => ?_) (.inr hln)
    have step : PSs (X.suite a ((a, o4) :: (X.pn ++ pins))) [.Assign [.Name y py] (.Name n pn) sp] (tSeq (tAsg (tVar i) (gName j)) tNext) :=
      pss_cons (ps_set (i := j) hN hj (.inl hly) (pe_var (i := i) hi (.inl hln) hd1 hd2) hsw (.inr hly)) pss_nil
    have hlen : i < σ1.length := by rw [J.len]; exact hil
    refine wpAny_mono (step.run [] s5 _ H1 { nx := fun σ6 H6 => σ6 = (σ1.set i (some (.ref a))).set j (some (.ref a)) ∧ H6 = H1, rt := fun _ _ => False } S5 ⟨.ref a, by rw [List.getElem?_set_self hlen], rfl, rfl⟩) (fun f s6 hsp => ?_) (fun _ _ z => False.elim z)
    cases f with
    | next =>
      obtain ⟨σ6, H6, S6, rfl, rfl⟩ := hsp
      have U : Inv X ((a, o4) :: pins) ((σ1.set i (some (.ref a))).set j (some (.ref a))) H6 s6 := ⟨ok, S6.os, S6.bare, S6.base, S6.loc, S6.cell, S6.free, S6.freeC, fun q hq => S6.pin q (List.mem_append_left _ (by
        rcases List.mem_append.mp hq with z | z
        · exact List.mem_cons_of_mem _ (List.mem_append_left _ z)
        · rcases List.mem_cons.mp z with z | z
          · rw [z]; exact List.mem_cons_self
          · exact List.mem_cons_of_mem _ (List.mem_append_right _ z))), S6.hok, S6.len⟩
      refine gone_ok U hN hi hln fun s7 J7 => ?_
      refine ⟨_, _, track J7 z4 d4 new0 (fun q hq z => ?_), hyes a na⟩
      have e := (J.pin q hq).1
      rw [z, newI] at e
      cases e
    | brk =>
      obtain ⟨_, _, _, q⟩ := hsp
      exact False.elim q
    | cont =>
      obtain ⟨_, _, _, q⟩ := hsp
      exact False.elim q
    | ret u =>
      obtain ⟨_, _, _, _, _, q⟩ := hsp
      exact False.elim q
  · cases f with
    | next =>
      obtain ⟨σ', H', J', q⟩ := hsp
      exact wpAny_execs_nil ⟨σ', H', J'.ofTry ok, q⟩
    | brk =>
      obtain ⟨σ', H', J', q⟩ := hsp
      exact ⟨σ', H', J'.ofTry ok, q⟩
    | cont =>
      obtain ⟨σ', H', J', q⟩ := hsp
      exact ⟨σ', H', J'.ofTry ok, q⟩
    | ret u =>
      obtain ⟨v, σ', H', J', r, q⟩ := hsp
      exact ⟨v, σ', H', J'.ofTry ok, r, q⟩
end
end Fm
end FFmTry
section FFmExc
set_option Elab.async false
set_option linter.all false
set_option maxRecDepth 100000
set_option maxHeartbeats 2000000
namespace Fm
open PySem PySem.Spec PyProof.Rows L2
/-- an error class of the program, straight under MeetError at M -/
structure Exn (K : PySem.W.Frag) (mg : Str → Option Value) (x : Str) (C M : Addr) : Prop where
  g : mg x = some (.ref C)
  e : PySem.W.excIn K C [.type "ValueError", .type "Exception", .type "BaseException", .type "object"] "ValueError.__new__" = true
  k : PySem.W.keepIn K (.ref C) = true
  b : PySem.W.subIn K (.ref C) (.type "BaseException") = some true
  t : PySem.W.typeIn K (.ref C) = some (.type "type")
  c : ExcC K C
  m : PySem.W.exmOne K (.ref C) (.ref M) = some true
/-- isinstance(e, c), e a kept error -/
def rIsK (K : PySem.W.Frag) (D : Addr) : List V → Hp → VK → Prop := fun xs H Q => ∃ (a : Addr) (c : V) (u : Value) (b : Bool), xs = [.ref a, c] ∧ H a = some (ExK (.ref D) none a) ∧ ClsV c u ∧ PySem.W.kitOne K (.ref D) u = some b ∧ Q (.bl b) H
def rIsKT (K : PySem.W.Frag) (D : Addr) : List V → Hp → VK → Prop := fun xs H Q => ∃ (a tp : Addr) (cs : List V) (us : List Value) (b : Bool), xs = [.ref a, .ref tp] ∧ H a = some (ExK (.ref D) none a) ∧ H tp = some (.tup cs) ∧ Paired ClsV cs us ∧ PySem.W.kitAny K (.ref D) us = some b ∧ Q (.bl b) H
section
variable {X : Cx} {D : Addr}
theorem kept_inst {pins : List (Addr × Obj)} {σ : L2.St} {H : Hp} {s : Shared} {a : Addr} (I : Inv X pins σ H s) (h : H a = some (ExK (.ref D) none a)) : ∃ oe, PySem.W.InstAt s.heap a oe D none := by
  obtain ⟨⟨oe, vs, hg, hz, hv⟩, _, _⟩ := I.hok a _ h
  obtain ⟨oc, od, oda, osl⟩ := oe
  obtain ⟨h1, h2⟩ := hz
  dsimp only at h1 h2 hv
  subst h1 h2 hv
  exact ⟨_, hg, rfl, rfl, trivial⟩
theorem call_isK (C : ExcC X.K D) : CallR X (.builtin "isinstance") (rIsK X.K D) := by
  intro pins s σ H xs us Q I r h
  obtain ⟨a, c, u, b, rfl, ha, hc, e, q⟩ := h
  obtain ⟨u1, u2, rfl, r1, r2⟩ := vals2 r
  cases r1
  have e2 := hc.eq r2
  subst e2
  obtain ⟨oe, J⟩ := kept_inst I ha
  exact PySem.W.kia_one (PySem.W.handS_kitx_exc C.hg C.hk C.hs C.hd C.ha C.hn C.ht C.hm) I.kIn J e (fun z => nomatch z) fun tk => ⟨.bl b, H, I.tok tk, rfl, q⟩
theorem call_isKT (C : ExcC X.K D) : CallR X (.builtin "isinstance") (rIsKT X.K D) := by
  intro pins s σ H xs us Q I r h
  obtain ⟨a, tp, cs, ws, b, rfl, ha, hT, hc, e, q⟩ := h
  obtain ⟨u1, u2, rfl, r1, r2⟩ := vals2 r
  cases r1
  cases (show u2 = Value.ref tp from r2)
  obtain ⟨oe, J⟩ := kept_inst I ha
  obtain ⟨_, its, rv, o, h1, h2, n, h3⟩ := (show ObjOk X.prog X.w H s.heap tp (.tup cs) from I.hok tp _ hT)
  have e3 := ClsV.all hc rv
  subst e3
  obtain ⟨oc, od, dt, sl⟩ := o
  simp only at h2 h3
  subst h2 h3
  exact PySem.W.kia_tup (PySem.W.handS_kitx_exc C.hg C.hk C.hs C.hd C.ha C.hn C.ht C.hm) I.kIn J h1 e (fun z => nomatch z) fun tk => ⟨.bl b, H, I.tok tk, rfl, q⟩
end
/-- raise C('..') of such a class -/
theorem ps_raiseE {X : Cx} {W : WX} {x m : Str} {C M : Addr} {j : Nat} {p p2 p3 pos : Pos} (hc : X.calm = true) (tk : Takes X W) (E : Exn X.K X.mg x C M) (hg : Gl X x) (hd : (x == ("__debug__" : Str)) = false := by decide) :
    PS X (.Raise (some (.Call (.Name x p) [.Constant (.str m) j p2] [] p3)) none pos) (fun _ σ H => W (.ref C) none σ H) :=
  ps_raise hc tk (pmk_own PySem.F.excBase_ValueError E.e E.g E.k (raises_own E.b E.t) hg hd)
/-- size's promise: C is NoHouse -/
def spSize (C : Addr) : Sp := fun vs H Q E => ∃ (v : V) (p : Addr) (d : PyData), vs = [v] ∧ Dat H p v d ∧ (∀ m n, HouseN m n d → ∀ q H', H q = none → H' q = some (.tup [.int m, .int n]) → Same H H' → Q (.ref q) H') ∧ (¬ HouseD d → E (.ref C) none H)
end Fm
end FFmExc
section FFmEnd
set_option Elab.async false
set_option linter.all false
set_option maxRecDepth 100000
set_option maxHeartbeats 2000000
namespace Fm
open PySem PySem.Spec PyProof.Rows L2
/-- a def's promise where no text is being made of anything around it, and nothing is raised -/
def RunG (P : Program) (w : World) (K : PySem.W.Frag) (mg : Str → Option Value) (base : Heap) (k : Nat) (f : Addr) (fd : FuncData) (ps : List Str) (sp : Sp) : Prop :=
  ∀ (A : Around) (outer : List Env) (s : Shared) (H : Hp) (args : Args) (us : List Value) (vs : List V) (Q : VK), A.guards = some [] → Room k A → Env0 P w K mg base A outer s H → BindsTo s fd args (ps.zip us) → Vals vs us → vs.length = ps.length → sp vs H Q E0 →
    codeAny (model P w) A (.call (.ref f) args) (fun r s' => ∃ u, r = .ok (.ret u) ∧ CE outer P w H s Q u s') s
theorem run_g {P : Program} {w : World} {K : PySem.W.Frag} {mg : Str → Option Value} {base : Heap} {x : Str} {st : Stmt} {f : Addr} {fd : FuncData} {N ps : List Str} {k : Nat} {sp : Sp} (F : Fun K x x st f fd) (S : FnScope N ps (defScope st))
    (b : ∀ (cdv : Value) (A : Around) (outer : List Env) (s : Shared) (H : Hp) (vs : List V) (Q : VK), (A.deeper (envOfC x (defScope st) s.heap.objs.size f cdv)).guards = some [] → Room k (A.deeper (envOfC x (defScope st) s.heap.objs.size f cdv)) → sp vs H Q E0 →
      ∃ t, PSs (cxOf CX0 P w K mg base N x (defScope st) f cdv A outer s H E0).nox (defBody st) t ∧ t { nx := fun _ H' => Q .non H', rt := Q } (start N vs) H) : RunG P w K mg base (k + 1) f fd ps sp := by
  obtain ⟨oc, od, kV, doc, pm, an, cdv, ct, osl, rfl, lk, hcd⟩ := F.ex
  intro A outer s H args us vs Q hg hr e0 hb r hl hsp
  have KX : K.In s.heap := e0.mod.kin.keeps fun c o e => (e0.bs c o e).1
  have nl : s.heap.NoLimit := e0.mod.nolimit.keeps fun c o e => (e0.bs c o e).1
  have kinds : ∀ z ∈ ps.zip us, (defScope st).names.lookup z.1 = some .local ∨ ((defScope st).names.lookup z.1 = some .cell ∧ ((cellsFrom (s.heap.objs.size + 1) (defScope st).names []).lookup z.1).isSome = true) := fun ⟨n, v⟩ hz => by
    rcases S.par n (List.of_mem_zip hz).1 with q | q
    · exact .inl q
    · exact .inr ⟨q, PySem.W.cellsFrom_some _ _ _ (.inl q)⟩
  refine codeAny_call_function hr.depth (KX _ _ lk) rfl S.co S.gen rfl (PySem.W.codeRec_of KX hcd) (hb _ _ _ _ ?_)
  refine wpAny_newFunctionEnv_cells S.kind kinds fun env he s1 y => ?_
  subst he
  refine ⟨nl.keeps y.toInCall.keep, codeAny_func ?_⟩
  obtain ⟨t, ht, hq⟩ := b cdv A outer s H vs Q hg (hr.deeper _) hsp
  have I := inv_start (CX := CX0) (P := P) (w := w) (qual := x) (f := f) (cd := cdv) (E := E0) S hr.hd e0 hl r y
  refine wpAny_mono (ht.nox.run [] s1 (start N vs) H _ I hq) (fun fl s' hs => ?_) (fun e s' hs => ?_)
  · cases fl with
    | ret u =>
      obtain ⟨v, σ', H', J, rv, q⟩ := hs
      exact ⟨u, rfl, v, H', J.os, J.bare, J.base, J.hok, rv, q⟩
    | next =>
      obtain ⟨σ', H', J, q⟩ := hs
      exact ⟨.none, rfl, .non, H', J.os, J.bare, J.base, J.hok, rfl, q⟩
    | brk =>
      obtain ⟨_, _, _, q⟩ := hs
      exact False.elim q
    | cont =>
      obtain ⟨_, _, _, q⟩ := hs
      exact False.elim q
  · exact wpAny_mono hs (fun _ _ z => False.elim z) fun _ _ z => False.elim z
/-- the law's call, at what the top has left -/
theorem end_g {P : Program} {w : World} {K : PySem.W.Frag} {mg mb : Str → Option Value} {k : Nat} {fa a : Addr} {fd : FuncData} {x : Str} {sp : Sp} {t : Shared} {vs : List Value} {ns : List Int}
    (KX : K.In t.heap) (g1 : t.heap.Ns mainGlobals mg) (g2 : t.heap.Ns builtinsNs mb) (g3 : ∀ y : Str, y ≠ "__name__" → mb y = bootBuiltins y) (g4 : t.heap.NoLimit) (g5 : t.gens = #[])
    (ha : t.heap.get? a = some { cls := .type "list", data := .seq vs.toArray }) (hi : IntsAre vs ns) (hl : ns.length ≤ sizeLine) (hr : Room k callerA)
    (F : ∀ base : Heap, K.In base → base.Ns mainGlobals mg → RunG P w K mg base k fa fd [x] sp) (hb : ∀ (s : Shared) (u : Value), BindsTo s fd ⟨[u], []⟩ [(x, u)])
    (hs : ∀ H : Hp, SqL K H a (ns.map V.int) → (∀ b, H b = none ∨ b = a) → sp [.ref a] H (fun v _ => v = .bl true) E0) :
    codeAny (model P w) callerA (.call (.ref fa) ⟨[.ref a], []⟩) (fun r s' => r = .ok (.ret (.bool true)) ∧ OldK t.heap s'.heap ∧ s'.os = t.os ∧ AllBare s'.gens) t := by
  have rv := vals_ints hi
  have lv := hi.length
  suffices core : ∀ H : Hp, SqL K H a (ns.map V.int) → HOk P w H t.heap → (∀ b, H b = none ∨ (b = a ∧ ∃ o us, H b = some (.frz o (.lst us)))) → (H a ≠ none → K.lookup a = none) →
      codeAny (model P w) callerA (.call (.ref fa) ⟨[.ref a], []⟩) (fun r s' => r = .ok (.ret (.bool true)) ∧ OldK t.heap s'.heap ∧ s'.os = t.os ∧ AllBare s'.gens) t by
    cases hk : K.lookup a with
    | some o =>
      have e := KX a o hk
      rw [ha] at e
      cases e
      exact core (fun _ => none) (.inr ⟨_, vs.toArray, _, hk, rfl, rfl, rfl, by rw [List.size_toArray, lv]; exact hl, by simpa using rv⟩) (fun b u z => by cases (show (none : Option HO) = some u from z)) (fun b => .inl rfl) fun z => absurd rfl z
    | none =>
      have at1 : ∀ b u, (if b = a then some (HO.frz { cls := .type "list", data := .seq vs.toArray } (.lst (ns.map V.int))) else none) = some u → b = a ∧ u = .frz { cls := .type "list", data := .seq vs.toArray } (.lst (ns.map V.int)) := fun b u z => by
        by_cases hba : b = a
        · rw [if_pos hba] at z
          exact ⟨hba, (Option.some.inj z).symm⟩
        · rw [if_neg hba] at z
          cases z
      refine core (fun b => if b = a then some (.frz { cls := .type "list", data := .seq vs.toArray } (.lst (ns.map V.int))) else none) (.inl (.inr ⟨{ cls := .type "list", data := .seq vs.toArray }, if_pos rfl⟩)) (fun b u z => ?_) (fun b => ?_) fun _ => hk
      · obtain ⟨rfl, rfl⟩ := at1 b u z
        exact ⟨ha, by rw [List.length_map]; exact hl, vs, _, rv, ha⟩
      · by_cases hba : b = a
        · exact .inr ⟨hba, _, _, if_pos hba⟩
        · exact .inl (if_neg hba)
  intro H hS hok hA hK
  have ex : ∀ {b : Addr} {u : HO}, H b = some u → b = a := fun {b u} e => by
    rcases hA b with z | ⟨z, _⟩
    · rw [e] at z
      cases z
    · exact z
  have off : ∀ {b : Addr} {o : Obj} {es : Array DictEntry} {ep : Nat}, t.heap.get? b = some o → o.data = .dict es ep → H b = none := fun {b o es ep} e d => by
    cases q : H b with
    | none => rfl
    | some u =>
      rw [ex q, ha] at e
      cases e
      cases (show Data.seq vs.toArray _ = Data.dict es ep from d)
  have ns : ∀ {b : Addr} {m : Str → Option Value}, t.heap.Ns b m → (hidT t.heap H).Ns b m := fun {b m} ⟨o, es, ep, e, d, r⟩ => ⟨o, es, ep, hidT_get e (off e d), d, r⟩
  have kin : K.In (hidT t.heap H) := fun b o e => hidT_get (KX b o e) (by
    cases q : H b with
    | none => rfl
    | some u =>
      have z := ex q
      subst z
      rw [hK (by rw [q]; exact fun y => by cases y)] at e
      cases e)
  have md : Mod K mg (hidT t.heap H) := ⟨kin, ns g1, ⟨mb, ns g2, g3⟩, let ⟨mc, y1, y2⟩ := g4; ⟨mc, ns y1, y2⟩⟩
  have e0 : Env0 P w K mg (hidT t.heap H) callerA [] t H := ⟨rfl, md, fun b o e => of_hidT e, Nat.le_of_eq (hidT_size _ _), trivial, fun b z => (by cases z), hok, .of_eq g5⟩
  refine codeAny_mono (F _ kin (ns g1) callerA [] t H ⟨[.ref a], []⟩ [.ref a] [.ref a] _ rfl hr e0 (hb t (.ref a)) (.cons rfl .nil) rfl (hs H hS fun b => (hA b).imp id fun z => z.1)) fun r s' h => ?_
  obtain ⟨u, rfl, v, H', os, bare, un, hok', r', q⟩ := h
  have q' : v = .bl true := q
  subst q'
  obtain rfl : u = Value.bool true := r'
  refine ⟨rfl, OldK.of_keep fun b o e => ?_, os, bare⟩
  rcases hA b with q | ⟨_, ob, us, q⟩
  · exact un.keep b o e q (by intro z; cases z) (by intro z; cases z)
  · obtain ⟨d1, _⟩ := hok b _ q
    obtain ⟨d2, _⟩ := hok' b _ (un.frzs b ob _ q)
    rw [e] at d1
    cases d1
    exact d2
/-- the goal that k_head leaves -/
theorem walk_g {l : PySem.W.OpenLaw} {n k : Nat} {q : Program} {loose : List Str} {XP : (Str → Option Value) → Heap → Prop} {YP : World → Heap → Prop} {d : DefRec} {K : Params → PySem.W.Frag} {sp : PySem.W.Frag → Sp} {x : Str}
    (hn : l.most = some n) (hn2 : n ≤ sizeLine) (hdf : d.params.defaults = []) (hr : Room k callerA) (hY : ∀ (w : World) (h : Heap), YP w h → (K w.params).In h)
    (F : ∀ (w : World) (mg : Str → Option Value) (fa : Addr) (h : Heap), (K w.params).In h → h.Ns mainGlobals mg → mg d.name = some (.ref fa) →
      ∃ fd : FuncData, (∀ (s : Shared) (u : Value), BindsTo s fd ⟨[u], []⟩ [(x, u)]) ∧ ∀ base : Heap, (K w.params).In base → base.Ns mainGlobals mg → RunG l.prog w (K w.params) mg base k fa fd [x] (sp (K w.params)))
    (hs : ∀ (K : PySem.W.Frag) (H : Hp) (a : Addr) (ns : List Int), ns.length ≤ n → SqL K H a (ns.map V.int) → (∀ b, H b = none ∨ b = a) → sp K [.ref a] H (fun v _ => v = .bl true) E0) :
    PySem.W.WalkO q loose XP YP l.row.toRowW d [] (fun f vs => PySem.call f vs) := by
  refine Att.attach_call hn hdf fun w s0 t mg mb fa o pm cd doc a vs ns G Y ho hd hcd hmg hobj hints hlen hg => ?_
  have KX := hY w _ Y
  obtain ⟨fd, hb, hF⟩ := F w mg fa _ KX G.T.g hmg
  exact end_g KX G.T.g G.T.b G.T.builtins G.T.nolimit hg hobj hints (Nat.le_trans hlen hn2) hr hF hb fun H h1 h2 => hs _ H a ns hlen h1 h2
end Fm
end FFmEnd
section FFmSeq
set_option Elab.async false
set_option linter.all false
set_option maxRecDepth 100000
set_option maxHeartbeats 4000000
namespace Fm
open PySem PySem.Spec PyProof.Rows L2 HT
theorem rev_adjust (n : Nat) : Builtin.Slice.sliceAdjust none none (-1) (n : Int) = ((n : Int) - 1, -1) := by
  unfold Builtin.Slice.sliceAdjust
  simp
theorem rev_places (n : Nat) : Builtin.Slice.slicePlaces ((n : Int) - 1) (-1) (-1) = n := by
  unfold Builtin.Slice.slicePlaces
  have h1 : ¬ ((-1 : Int) > 0) := by decide
  simp only [h1, if_false]
  have e : ((n : Int) - 1 - -1 - 1) / (- -1) = (n : Int) - 1 := by
    rw [show (- -1 : Int) = 1 by decide, Int.ediv_one]
    omega
  rw [e]
  split <;> omega
theorem fm_congr {α β : Type} {f g : α → Option β} : ∀ {l : List α}, (∀ x ∈ l, f x = g x) → l.filterMap f = l.filterMap g
  | [], _ => rfl
  | x :: r, h => by
    rw [List.filterMap_cons, List.filterMap_cons, h x List.mem_cons_self, fm_congr fun y hy => h y (List.mem_cons_of_mem _ hy)]
theorem rev_pick (xs : Array Value) : ((List.range xs.size).filterMap fun (m : Nat) => xs[((xs.size : Int) - 1 + (m : Int) * -1).toNat]?).toArray = xs.toList.reverse.toArray := by
  congr 1
  have h := PySem.W.krv_all xs
  rw [← h, ← List.filterMap_reverse, ← PySem.W.krv_range, List.filterMap_map]
  apply fm_congr
  intro m hm
  have := List.mem_range.mp hm
  have e : ((xs.size : Int) - 1 + (m : Int) * -1).toNat = xs.size - 1 - m := by omega
  rw [e]
  rfl
section
variable {prog : Program} {w : World} {A : Around} {E : Value → Shared → Prop} {s : Shared}
theorem rev_applied {sl : Addr} {vs : Value} {n : Nat} {Q : Int × Int × Nat → Shared → Prop} (hs : s.heap.IsSliceOf sl .none .none vs) (ps : IsPart vs (some (-1))) (h : Q ((n : Int) - 1, -1, n) s) :
    wpAny (model prog w) A (Builtin.Slice.sliceApplied (.ref sl) (pure (n : Int))) Q E s := by
  obtain ⟨os, hos, hcs, hds⟩ := id hs
  unfold Builtin.Slice.sliceApplied Builtin.Slice.sliceFields
  refine wpAny_bind (wpAny_bind (wpAny_field hos hds (x := .none) rfl (wpAny_bind (wpAny_field hos hds (x := .none) rfl (wpAny_bind (wpAny_field hos hds (x := vs) rfl (wpAny_pure ?_)))))))
  refine wpAny_bind (slicePart_ ps ?_)
  show wpAny _ _ (if ((-1 : Int) == 0) = true then _ else _) _ _ s
  rw [if_neg (by decide)]
  refine wpAny_bind (slicePart_none (wpAny_bind (slicePart_none (wpAny_bind (wpAny_pure ?_)))))
  show wpAny _ _ (match Builtin.Slice.sliceAdjust none none (-1) (n : Int) with | (lo, hi) => pure (lo, (-1 : Int), Builtin.Slice.slicePlaces lo hi (-1))) _ _ s
  rw [rev_adjust]
  show wpAny _ _ (pure ((n : Int) - 1, (-1 : Int), Builtin.Slice.slicePlaces ((n : Int) - 1) (-1) (-1))) _ _ s
  rw [rev_places]
  exact wpAny_pure h
theorem rev_item {t sl : Addr} {items : Array Value} {vs : Value} {Q : Value → Shared → Prop} (ht : IsTup s.heap t items) (hs : s.heap.IsSliceOf sl .none .none vs) (ps : IsPart vs (some (-1)))
    (h : Q (.ref s.heap.objs.size) { s with heap := s.heap.push { cls := .type "tuple", data := .seq items.toList.reverse.toArray } }) (hsz : items.size ≤ sizeLine) : wpAny (model prog w) A (getItem (.ref t) (.ref sl)) Q E s := by
  have ok : sizeOk (.seq items.toList.reverse.toArray) := by
    show items.toList.reverse.toArray.size ≤ sizeLine
    rw [List.size_toArray, List.length_reverse, Array.length_toList]
    exact hsz
  obtain ⟨os, hos, hcs, hds⟩ := id hs
  have tS : s.TypeIs (.ref sl) "slice" := ⟨os, hos, hcs⟩
  unfold getItem
  try with_reducible refine wpAny_holding ?_
  first | refine wpAny_bind (wpAny_pure ?_) | skip
  refine wpAny_bind (wpAny_sequenceKey ht.typeIs (by decide) ?_)
  refine wpAny_bind (wpAny_callSpecial?_slot (name := Str.ofString "__getitem__") ht.typeIs PyProof.Rows.slot_tuple_getitem
    (wpAny_call_entry PyProof.Rows.slot_tuple_getitem ht.typeIs entry_tuple_getitem ?_ (args_tuple_getitem _ _)))
  show wpAny _ _ (Builtin.Tuple.tupleItemsOf (.ref t) >>= _) _ _ s
  refine wpAny_bind (tupleItemsOf_ ht (wpAny_bind (wpAny_typeOf tS ?_)))
  rw [if_pos (by decide)]
  refine wpAny_bind (rev_applied hs ps ?_)
  have no : ¬ ((((items.size : Int) - 1) == 0 && (-1 : Int) == 1 && items.size == items.size) = true) := by
    rw [show ((-1 : Int) == 1) = false by decide, Bool.and_false, Bool.false_and]
    exact Bool.false_ne_true
  show wpAny _ _ (if (((items.size : Int) - 1) == 0 && (-1 : Int) == 1 && items.size == items.size) = true then _ else _) _ _ s
  rw [if_neg no, rev_pick]
  first
    | exact wpAny_bind (m := Builtin.Tuple.tupleExact _) (wpAny_newObj_type (wpAny_pure ⟨_, rfl, wpAny_pure h⟩) ok)
    | exact wpAny_bind (m := Builtin.Tuple.tupleExact _) (wpAny_newObj_type (wpAny_bind (wpAny_pure (wpAny_pure ⟨_, rfl, wpAny_pure h⟩))) ok)
    | exact wpAny_bind (wpAny_bind (m := Builtin.Tuple.tupleExact _) (wpAny_newObj_type (wpAny_pure (wpAny_pure ⟨_, rfl, wpAny_pure h⟩)) ok))
    | exact wpAny_bind (wpAny_bind (m := Builtin.Tuple.tupleExact _) (wpAny_newObj_type (wpAny_pure ⟨_, rfl, wpAny_pure h⟩) ok))
end
/-- t[::-1], a tuple -/
def tRevT (K : PySem.W.Frag) (te : TE) : TE := fun σ H Q => te σ H fun x H1 => ∃ a xs, x = .ref a ∧ SqT K H1 a xs ∧ ∀ p, H1 p = none → Q (.ref p) (upd H1 p (.tup xs.reverse))
theorem pe_REV {X : Cx} {e : Expr} {te : TE} {k : Nat} {p1 p2 p3 pos : Pos} (he : PE X e te) : PE X (.Subscript e (.Slice none none (some (.UnaryOp .USub (.Constant (.int 1) k p1) p2)) p3) pos) (tRevT X.K te) := by
  refine ⟨fun pins s σ H Q I h => ?_⟩
  refine Subscript_ (thn (he.run pins s σ H _ I h) fun v s1 ⟨x, H1, I1, r1, q1⟩ => ?_)
  obtain ⟨a, xs, ex, hx, q⟩ := q1
  subst ex
  cases r1
  have st : PO X (some (.UnaryOp .USub (.Constant (.int 1) k p1) p2)) (tPart (tUn (rU fun i => .int (-i)) (tC (.int 1)))) := po_some (pe_un un_neg pe_int)
  refine wpAny_Slice (thn (po_none.run pins s1 σ H1 (fun o H2 => o = none ∧ H2 = H1) I1 ⟨rfl, rfl⟩) fun vl s2 ⟨l, H2, I2, pl, el, e2⟩ => ?_)
  subst el e2
  refine thn (po_none.run pins s2 σ H2 (fun o H3 => o = none ∧ H3 = H2) I2 ⟨rfl, rfl⟩) fun vu s3 ⟨u, H3, I3, pu, eu, e3⟩ => ?_
  subst eu e3
  refine thn (st.run pins s3 σ H3 (fun o H4 => o = some (-1) ∧ H4 = H3) I3 ⟨1, rfl, -1, rfl, rfl, rfl⟩) fun vs s4 ⟨o, H4, I4, ps, eo, e4⟩ => ?_
  subst eo e4
  have I5 : Inv X pins σ H4 { s4 with heap := s4.heap.push { cls := .type "slice", data := .fields #[vl, vu, vs] } } := I4.kept (t' := s4.toks) fun b ob q => Heap.get?_push_of_some _ q
  obtain ⟨its, r, ht, hz⟩ := I5.tuple hx
  cases pl
  cases pu
  show wpAny (model X.prog X.w) X.A (subscriptTail e (.Slice none none (some (.UnaryOp .USub (.Constant (.int 1) k p1) p2)) p3) (.ref a) (.ref s4.heap.objs.size)) (EP X pins σ Q) X.xe { s4 with heap := s4.heap.push { cls := .type "slice", data := .fields #[.none, .none, vs] } }
  refine tail_any (ops := [.ref a, .ref s4.heap.objs.size]) ht.typeIs (PyProof.Rows.slot_tuple_getitem.lookup) ?_ (by with_unfolding_all rfl)
  refine rev_item ht (Heap.IsSliceOf.new _ .none .none vs) ps ?_ (by rw [List.size_toArray, ← r.length]; exact hz)
  refine ⟨.ref _, _, I5.laid (t' := s4.toks) (o := .tup xs.reverse) (fun b ob q => Heap.get?_push_of_some _ q) (Nat.le_refl _) ?_, rfl, q _ (I5.hok.fresh (Nat.le_refl _))⟩
  exact ⟨by rw [List.length_reverse]; exact hz, _, r.reverse, IsTup.new _ _⟩
/-- a tuple once -/
theorem once_meets (l : Addr) (items : Array Value) (n : Nat) (dd : Option Addr) (sl : Array (Option Value)) (u : Tok) :
    Meets (Builtin.«tuple.__mul__» ⟨[.ref l, .int 1 u], []⟩) (fun _ R s => s.heap.get? l = some { cls := .type "tuple", dict := dd, data := .seq items n, slots := sl } ∧ R (.ok (.ret (.ref l))) s) :=
  .of_wp fun prog w A R s h => by
    obtain ⟨hp, g, d, tk, os⟩ := s
    obtain ⟨hl, h⟩ := h
    have f1 := AutoSeq1.idx_int
    have c1 : (items.isEmpty || (1 : Int) == 1) = true := by simp
    wp_walk using wpAny_loadPart' hl
    repeat (first
      | (refine wpAny_ite_true (decide_eq_true c1) ?_; wp_walk using wpAny_loadPart' hl)
      | (refine wpAny_ite_true c1 ?_; wp_walk using wpAny_loadPart' hl))
    exact ⟨_, rfl, h⟩
def rOnce (K : PySem.W.Frag) : R2 := fun x y H Q => ∃ l xs, x = .ref l ∧ y = .int 1 ∧ SqT K H l xs ∧ Q (.ref l) H
theorem op_once {X : Cx} : OpR X (binaryOp .Mult) (rOnce X.K) := by
  intro pins s σ H x y v u Q I rx ry h
  obtain ⟨l, xs, rfl, rfl, hT, q⟩ := h
  cases rx
  obtain ⟨t, rfl⟩ := ry
  obtain ⟨its, r, ⟨⟨cls, dd, data, sl⟩, ho, hc, n, hd⟩, hs⟩ := I.tuple hT
  simp only at hc hd
  subst hc hd
  refine wpAny_binaryOp_repeat_ref (T := "tuple") (U := "int") (by decide) ⟨_, ho, rfl⟩ (fun s' => typeIs_int s' 1 t) noFill_tuple_mul F.fills_int_mul F.slot_int_rmul repeat_tuple F.slot_int_index.lookup
    (call_meets F.slot_int_rmul (typeIs_int s 1 t) F.entry_int_rmul (F.args_int_rmul_2 _ _) (int_rmul_tuple 1 t l its.toArray n dd sl)
      ⟨ho, rfl, ⟨_, ho, rfl⟩, call_meets F.slot_tuple_mul ⟨_, ho, rfl⟩ F.entry_tuple_mul (F.args_tuple_mul_2 _ _) (once_meets l its.toArray n dd sl t) ⟨ho, ⟨.ref l, H, I, rfl, q⟩⟩⟩)
/-- t * k, k one or more -/
def rTimes (K : PySem.W.Frag) : R2 := fun x y H Q => rOnce K x y H Q ∨ rRepT K x y H Q
theorem op_times {X : Cx} : OpR X (binaryOp .Mult) (rTimes X.K) := op_once.or op_repT
def rLenS (K : PySem.W.Frag) : List V → Hp → VK → Prop := fun xs H Q => ∃ p ys, xs = [.ref p] ∧ (SqL K H p ys ∨ SqT K H p ys) ∧ Q (.int ys.length) H
theorem call_lenS {X : Cx} : CallR X (.builtin "len") (rLenS X.K) := call_len_seq
def rTupOf (K : PySem.W.Frag) : List V → Hp → VK → Prop := fun xs H Q => ∃ p ys, xs = [.ref p] ∧ ((SqL K H p ys ∧ ∀ l, H l = none → Q (.ref l) (upd H l (.tup ys))) ∨ (SqT K H p ys ∧ Q (.ref p) H))
theorem call_tupOf {X : Cx} : CallR X (.type "tuple") (rTupOf X.K) := call_tuple_of
def rLstOf (K : PySem.W.Frag) : List V → Hp → VK → Prop := fun xs H Q => ∃ p ys, xs = [.ref p] ∧ (SqL K H p ys ∨ SqT K H p ys) ∧ ∀ l, H l = none → Q (.ref l) (upd H l (.lst ys))
theorem call_lstOf {X : Cx} : CallR X (.type "list") (rLstOf X.K) := call_list_of
end Fm
end FFmSeq
section FQ1
set_option Elab.async false
set_option linter.all false
set_option maxRecDepth 100000
set_option maxHeartbeats 4000000
local macro_rules | `(tactic| walk_at "ne") => `(tactic| first | assumption | (apply Ne.symm; assumption) | exact L2.ne_of_none (by assumption) (by assumption) | exact Ne.symm (L2.ne_of_none (by assumption) (by assumption)))
local macro_rules | `(tactic| walk_at "hl") => `(tactic| first | assumption | exact L2.upd_same | (refine Eq.trans (L2.upd_ne (by walk_at "ne")) ?_; walk_at "hl"))
local macro_rules | `(tactic| walk_at "sd") => `(tactic| first | (with_reducible show (_ : Int) < _; omega) | (with_reducible show (_ : Int) ≤ _; omega) | assumption | decide | exact ⟨by assumption, by assumption⟩ | exact ⟨by decide, by decide⟩ | exact Or.inr ⟨by decide, by decide⟩ | exact Or.inl ⟨by omega, by omega⟩ | rfl)
local macro_rules | `(tactic| walk_at "st1") => `(tactic| first
  | refine ⟨_, rfl, ?_⟩
  | refine ⟨_, _, rfl, rfl, ?_⟩
  | refine ⟨_, _, rfl, ?_⟩
  | (refine ⟨_, _, _, _, rfl, rfl, L2.SqL.of (by walk_at "hl"), rfl, ?_⟩)
  | (refine ⟨_, _, _, _, rfl, rfl, L2.SqT.of (by walk_at "hl"), rfl, ?_⟩)
  | (refine ⟨_, _, _, _, rfl, rfl, (by walk_at "hl"), rfl, ?_⟩)
  | (refine And.intro (by walk_at "sd") ?_)
  )
local macro_rules | `(tactic| walk_at "st") => `(tactic| repeat walk_at "st1")
local macro_rules | `(tactic| walk_at "op") => `(tactic| try dsimp only [L2.tSeq, L2.tAsg, L2.tOp, L2.tVar, L2.tC, L2.gSub, L2.rI, L2.rI0, L2.rIxL, L2.rIxT, L2.rSetL, L2.tIfS, L2.tTest, L2.tRet, L2.gName, L2.tNext, L2.tAnd, L2.tOr, L2.tNot, L2.tAndV, L2.tOrV, L2.tNotV, L2.tB, L2.tCB, L2.tCons, L2.tNil, L2.tCall, L2.tTup, L2.tLst, L2.tChain, L2.tUn, L2.tPar, L2.tDrop, L2.tIf, L2.tBM, L2.tBM0, L2.rAppend, L2.rCat, L2.rIsi, L2.rIsiT, L2.gTup, L2.gCons, L2.gNil, Fm.tFor_eq, Fm.tLc_eq, L2.iTup, L2.iList, L2.iRng1, L2.iRng2, L2.tSl, L2.tPart, L2.tNoPart, L2.rSlL, L2.rEq, L2.rNe, L2.rU, L2.rEqD, L2.rNeD, Fm.tRevT, Fm.rLenS, Fm.rTupOf, Fm.rLstOf, L2.tDNewK, L2.tCallS, L2.WE, Fm.wKeep, Fm.rIsK, Fm.rIsKT, List.cons_append, List.nil_append, L2.tYes])
namespace Fm
open PySem PySem.Spec PyProof.Rows L2
def top (i : Nat) : Stmt := PySem.Challenge.pw_floormeet_k05_runs.main.body.getD i (.Pass ⟨0, 0, 0, 0⟩)
abbrev s_is_whole : Stmt := top 7
abbrev N_is_whole : List Str := ["thing"]
theorem sc_is_whole : FnScope N_is_whole ["thing"] (defScope s_is_whole) := ⟨rfl, rfl, rfl, by decide +kernel, rfl, by decide +kernel, by decide +kernel⟩
abbrev s_is_up_to : Stmt := top 8
abbrev N_is_up_to : List Str := ["thing", "most"]
theorem sc_is_up_to : FnScope N_is_up_to ["thing", "most"] (defScope s_is_up_to) := ⟨rfl, rfl, rfl, by decide +kernel, rfl, by decide +kernel, by decide +kernel⟩
abbrev s_is_tuple_of : Stmt := top 9
abbrev N_is_tuple_of : List Str := ["thing", "many"]
theorem sc_is_tuple_of : FnScope N_is_tuple_of ["thing", "many"] (defScope s_is_tuple_of) := ⟨rfl, rfl, rfl, by decide +kernel, rfl, by decide +kernel, by decide +kernel⟩
abbrev s_are_up_to : Stmt := top 10
abbrev N_are_up_to : List Str := ["thing", "many", "most", "number"]
theorem sc_are_up_to : FnScope N_are_up_to ["thing", "many", "most"] (defScope s_are_up_to) := ⟨rfl, rfl, rfl, by decide +kernel, rfl, by decide +kernel, by decide +kernel⟩
section
variable {P : Program} {w : World} {K : PySem.W.Frag} {mg : Str → Option Value} {base : Heap}
theorem ok_is_whole (D : Df K mg "is_whole" s_is_whole ["thing"]) (T : Nms mg) : CallOk P w K mg base CX0 1 "is_whole" ["thing"] spWhole := by
  refine df_ok D sc_is_whole (fun vs H Q E h => ?_) (fun f cdv A outer s H vs Q E hr h => ?_)
  · obtain ⟨v, p, d, rfl, _⟩ := h
    rfl
  · obtain ⟨v, p, d, rfl, hd, k⟩ := h
    have nd := sc_is_whole.nd
    refine ⟨_, (pss_one (ps_ret (pe_and (pe_callB (r := rIsi K) call_isi (by rfl) T.n_isinstance (by decide +kernel) (pa_cons (pv 0) (pa_cons (pe_bltn (v := .ty "int") (by rfl) T.n_int (by decide +kernel) rfl) pa_nil))) (pe_one (pe_not (pe_callB (r := rIsi K) call_isi (by rfl) T.n_isinstance (by decide +kernel) (pa_cons (pv 0) (pa_cons (pe_bltn (v := .ty "bool") (by rfl) T.n_bool (by decide +kernel) rfl) pa_nil)))))))), ?_⟩
    walk_at "op"
    walk_at "st"
    refine ⟨_, _, _, _, _, rfl, .ty _, hd.ty, kit_ty (kit_int d), ?_⟩
    walk_at "st"
    refine ite2 (fun c1 => ?_) (fun c1 => ?_)
    · walk_at "st"
      refine ⟨_, _, _, _, _, rfl, .ty _, hd.ty, kit_ty (kit_bool d), ?_⟩
      walk_at "st"
      refine k _ ?_
      cases d <;> simp_all [isI, isB]
    · refine k _ ?_
      cases d <;> simp_all [isI, isB]
theorem ok_is_up_to (D : Df K mg "is_up_to" s_is_up_to ["thing", "most"]) (T : Nms mg) (c_is_whole : CallOk P w K mg base CX0 1 "is_whole" ["thing"] spWhole) : CallOk P w K mg base CX0 2 "is_up_to" ["thing", "most"] spUpTo := by
  refine df_ok D sc_is_up_to (fun vs H Q E h => ?_) (fun f cdv A outer s H vs Q E hr h => ?_)
  · obtain ⟨v, mv, p, d, rfl, _⟩ := h
    rfl
  · obtain ⟨v, mv, p, d, rfl, hd, hm, k⟩ := h
    have nd := sc_is_up_to.nd
    refine ⟨_, (pss_cons (ps_if (PW.pt (pw_or (pt_not (pt_val (pe_cc c_is_whole (hr.mono (by omega)) (pa_cons (pv 0) pa_nil)))) (pw_or1 (pt_cmpR op_lt (pv 0) pe_int (nomark _))))) (pss_one (ps_ret pe_bl)) pss_nil)
      (pss_one (ps_ret (pe_or (pe_cmpR op_isN (pv 1) pe_non (nomark _)) (pe_one (pe_cmpR op_le (pv 0) (pv 1) (nomark _))))))), ?_⟩
    walk_at "op"
    walk_at "st"
    refine ⟨v, p, d, rfl, hd, fun b hb => ?_⟩
    walk_at "st"
    cases b with
    | false =>
      refine iteT (iteT (k false ⟨fun z => Bool.noConfusion z, fun ⟨i, e, _⟩ => hb.mpr ⟨i, e⟩⟩))
    | true =>
      obtain ⟨i, rfl⟩ := hb.mp rfl
      obtain rfl := hd.isInt
      refine iteF ?_
      walk_at "st"
      refine ite2 (fun c0 => ?_) (fun c0 => ?_)
      · refine k false ⟨fun z => Bool.noConfusion z, fun ⟨j, e, h0, _⟩ => ?_⟩
        cases e
        have := of_decide_eq_true c0
        omega
      · have c1 : 0 ≤ i := by
          have := of_decide_eq_false (Bool.eq_false_iff.mpr c0)
          omega
        walk_at "st"
        rcases hm with rfl | ⟨M, rfl⟩
        · refine iteT (k true ⟨fun _ => ⟨i, rfl, c1, fun M z => by cases z⟩, fun _ => rfl⟩)
        · refine iteF ?_
          walk_at "st"
          refine k _ ⟨fun z => ⟨i, rfl, c1, fun N e => ?_⟩, fun ⟨j, e, _, hM⟩ => ?_⟩
          · cases e
            exact of_decide_eq_true z
          · cases e
            exact decide_eq_true (hM M rfl)
theorem ok_is_tuple_of (D : Df K mg "is_tuple_of" s_is_tuple_of ["thing", "many"]) (T : Nms mg) : CallOk P w K mg base CX0 1 "is_tuple_of" ["thing", "many"] spTupOf := by
  refine df_ok D sc_is_tuple_of (fun vs H Q E h => ?_) (fun f cdv A outer s H vs Q E hr h => ?_)
  · obtain ⟨v, n, p, d, rfl, _⟩ := h
    rfl
  · obtain ⟨v, n, p, d, rfl, hd, k⟩ := h
    have nd := sc_is_tuple_of.nd
    refine ⟨_, (pss_one (ps_ret (pe_and (pe_callB (r := rIsi K) call_isi (by rfl) T.n_isinstance (by decide +kernel) (pa_cons (pv 0) (pa_cons (pe_bltn (v := .ty "tuple") (by rfl) T.n_tuple (by decide +kernel) rfl) pa_nil))) (pe_one (pe_cmpR op_eq (pe_callB (r := rLenS K) call_lenS (by rfl) T.n_len (by decide +kernel) (pa_cons (pv 0) pa_nil)) (pv 1) (nomark _)))))), ?_⟩
    walk_at "op"
    walk_at "st"
    refine ⟨_, _, _, _, _, rfl, .ty _, hd.ty, kit_ty (kit_tuple d), ?_⟩
    walk_at "st"
    refine ite2 (fun c1 => ?_) (fun c1 => ?_)
    · obtain ⟨ds, rfl⟩ := isTu_iff.mp c1
      obtain ⟨a, xs, rfl, ha, _, hs⟩ := hd.isTup
      walk_at "st"
      refine ⟨_, _, rfl, .inr (SqT.of ha), ?_⟩
      walk_at "st"
      refine k _ ⟨fun z => ⟨ds, rfl, ?_⟩, fun ⟨es, e, z⟩ => ?_⟩
      · have := of_decide_eq_true z
        cases this
        rw [hs.1]
      · cases e
        rw [← hs.1] at z
        exact decide_eq_true (by rw [z])
    · exact k false ⟨fun z => Bool.noConfusion z, fun ⟨ds, e, _⟩ => absurd (isTu_iff.mpr ⟨ds, e⟩) c1⟩
theorem ok_are_up_to (D : Df K mg "are_up_to" s_are_up_to ["thing", "many", "most"]) (T : Nms mg) (c_is_tuple_of : CallOk P w K mg base CX0 1 "is_tuple_of" ["thing", "many"] spTupOf)
    (c_is_up_to : CallOk P w K mg base CX0 2 "is_up_to" ["thing", "most"] spUpTo) : CallOk P w K mg base CX0 3 "are_up_to" ["thing", "many", "most"] spAre := by
  refine df_ok D sc_are_up_to (fun vs H Q E h => ?_) (fun f cdv A outer s H vs Q E hr h => ?_)
  · obtain ⟨v, mv, n, p, d, rfl, _⟩ := h
    rfl
  · obtain ⟨v, mv, n, p, d, rfl, hd, hm, k⟩ := h
    have nd := sc_are_up_to.nd
    refine ⟨_, (pss_cons (ps_if (pt_not (pt_val (pe_cc c_is_tuple_of (hr.mono (by omega)) (pa_cons (pv 0) (pa_cons (pv 1) pa_nil))))) (pss_one (ps_ret pe_bl)) pss_nil)
      (pss_cons (ps_for PassesOwn.never rfl (pi_tup (pv 0)) (pg_name (i := 3) nd rfl (Or.inl rfl)) (pss_one (ps_if (pt_not (pt_val (pe_cc c_is_up_to (hr.mono (by omega)) (pa_cons (pv 3) (pa_cons (pv 2) pa_nil))))) (pss_one (ps_ret pe_bl)) pss_nil)))
      (pss_one (ps_ret pe_bl)))), ?_⟩
    walk_at "op"
    walk_at "st"
    refine ⟨v, n, p, d, rfl, hd, fun b hb => ?_⟩
    walk_at "st"
    cases b with
    | false =>
      refine iteT (k false ⟨fun z => Bool.noConfusion z, fun ⟨ds, e, hl, _⟩ => hb.mpr ⟨ds, e, hl⟩⟩)
    | true =>
      obtain ⟨ds, rfl, hl⟩ := hb.mp rfl
      obtain ⟨a, xs, rfl, ha, _, hs⟩ := hd.isTup
      refine iteF ?_
      walk_at "st"
      refine ⟨⟨_, SqT.of ha⟩, fT (xs := xs) (fun i σ H' => H' = H ∧ (∃ u, σ = [some (.ref a), some (.int n), some mv, u]) ∧ ∀ j e, j < i → ds[j]? = some e → UpTo mv e)
        ⟨rfl, ⟨none, rfl⟩, fun j e hj => absurd hj (Nat.not_lt_zero j)⟩ (fun i σ H' _ ⟨e, _⟩ => by rw [e]; exact SqT.of ha) ?_ ?_⟩
      · rintro i x σ H' hx ⟨rfl, ⟨u, rfl⟩, hi⟩
        obtain ⟨e, he, hde⟩ := hs.at hx
        walk_at "op"
        walk_at "st"
        refine ⟨x, mv, p, e, rfl, hde, hm, fun b hb => ?_⟩
        walk_at "st"
        cases b with
        | false =>
          refine iteT (k false ⟨fun z => Bool.noConfusion z, fun ⟨es, e1, _, h2⟩ => ?_⟩)
          cases e1
          exact hb.mpr (h2 e (List.mem_of_getElem? he))
        | true =>
          refine iteF ⟨rfl, ⟨_, rfl⟩, fun j e' hj he' => ?_⟩
          by_cases hji : j = i
          · subst hji
            rw [he] at he'
            cases he'
            exact hb.mp rfl
          · exact hi j e' (by omega) he'
      · rintro σ H' ⟨rfl, _, hi⟩
        walk_at "op"
        refine k true ⟨fun _ => ⟨ds, rfl, hl, fun e he => ?_⟩, fun _ => rfl⟩
        obtain ⟨j, hj⟩ := List.getElem?_of_mem he
        exact hi j e (by rw [hs.1]; exact (List.getElem?_eq_some_iff.mp hj).1) hj

end
end Fm
end FQ1
section FQ2
set_option Elab.async false
set_option linter.all false
set_option maxRecDepth 100000
set_option maxHeartbeats 4000000
local macro_rules | `(tactic| walk_at "ne") => `(tactic| first | assumption | (apply Ne.symm; assumption) | exact L2.ne_of_none (by assumption) (by assumption) | exact Ne.symm (L2.ne_of_none (by assumption) (by assumption)))
local macro_rules | `(tactic| walk_at "hl") => `(tactic| first | assumption | exact L2.upd_same | (refine Eq.trans (L2.upd_ne (by walk_at "ne")) ?_; walk_at "hl"))
local macro_rules | `(tactic| walk_at "sd") => `(tactic| first | (with_reducible show (_ : Int) < _; omega) | (with_reducible show (_ : Int) ≤ _; omega) | assumption | decide | exact ⟨by assumption, by assumption⟩ | exact ⟨by decide, by decide⟩ | exact Or.inr ⟨by decide, by decide⟩ | exact Or.inl ⟨by omega, by omega⟩ | rfl)
local macro_rules | `(tactic| walk_at "st1") => `(tactic| first
  | refine ⟨_, rfl, ?_⟩
  | refine ⟨_, _, rfl, rfl, ?_⟩
  | refine ⟨_, _, rfl, ?_⟩
  | (refine ⟨_, _, _, _, rfl, rfl, L2.SqL.of (by walk_at "hl"), rfl, ?_⟩)
  | (refine ⟨_, _, _, _, rfl, rfl, L2.SqT.of (by walk_at "hl"), rfl, ?_⟩)
  | (refine ⟨_, _, _, _, rfl, rfl, (by walk_at "hl"), rfl, ?_⟩)
  | (refine And.intro (by walk_at "sd") ?_)
  )
local macro_rules | `(tactic| walk_at "st") => `(tactic| repeat walk_at "st1")
local macro_rules | `(tactic| walk_at "op") => `(tactic| try dsimp only [L2.tSeq, L2.tAsg, L2.tOp, L2.tVar, L2.tC, L2.gSub, L2.rI, L2.rI0, L2.rIxL, L2.rIxT, L2.rSetL, L2.tIfS, L2.tTest, L2.tRet, L2.gName, L2.tNext, L2.tAnd, L2.tOr, L2.tNot, L2.tAndV, L2.tOrV, L2.tNotV, L2.tB, L2.tCB, L2.tCons, L2.tNil, L2.tCall, L2.tTup, L2.tLst, L2.tChain, L2.tUn, L2.tPar, L2.tDrop, L2.tIf, L2.tBM, L2.tBM0, L2.rAppend, L2.rCat, L2.rIsi, L2.rIsiT, L2.gTup, L2.gCons, L2.gNil, Fm.tFor_eq, Fm.tLc_eq, L2.iTup, L2.iList, L2.iRng1, L2.iRng2, L2.tSl, L2.tPart, L2.tNoPart, L2.rSlL, L2.rEq, L2.rNe, L2.rU, L2.rEqD, L2.rNeD, Fm.tRevT, Fm.rLenS, Fm.rTupOf, Fm.rLstOf, L2.tDNewK, L2.tCallS, L2.WE, Fm.wKeep, Fm.rIsK, Fm.rIsKT, List.cons_append, List.nil_append, L2.tYes])
namespace Fm
open PySem PySem.Spec PyProof.Rows L2
abbrev s_is_table : Stmt := top 15
abbrev N_is_table : List Str := ["thing", "m", "row", "a", "b"]
theorem sc_is_table : FnScope N_is_table ["thing", "m"] (defScope s_is_table) := ⟨rfl, rfl, rfl, by decide +kernel, rfl, by decide +kernel, by decide +kernel⟩
section
variable {P : Program} {w : World} {K : PySem.W.Frag} {mg : Str → Option Value} {base : Heap}
theorem row_iff {m : Nat} {d : PyData} : (∃ ds, d = .tuple ds ∧ (ds.length : Int) = m ∧ ∀ e ∈ ds, UpTo (.int ((m : Int) - 1)) e) ↔ RowD m d := by
  constructor
  · rintro ⟨ds, rfl, hl, h⟩
    refine ⟨ds, rfl, by omega, fun e he => ?_⟩
    obtain ⟨i, rfl, h0, hM⟩ := h e he
    exact ⟨i, rfl, h0, by have := hM _ rfl; omega⟩
  · rintro ⟨ds, rfl, hl, h⟩
    refine ⟨ds, rfl, by omega, fun e he => ?_⟩
    obtain ⟨i, rfl, h0, hM⟩ := h e he
    exact ⟨i, rfl, h0, fun M z => by cases z; omega⟩
theorem cell_at {H : Hp} {p : Addr} {xs : List V} {ds : List PyData} {m : Nat} (hs : Dats H p xs ds) (hl : ds.length = m) (hr : ∀ r ∈ ds, RowD m r) {a b : Nat} (ha : a < m) (hb : b < m) :
    ∃ (ra : Addr) (ys : List V) (i : Int), xs[a]? = some (.ref ra) ∧ H ra = some (.tup ys) ∧ ys[b]? = some (.int i) ∧ cellD ds a b = .int i ∧ 0 ≤ i ∧ i < m := by
  have e1 : ds[a]? = some ds[a] := List.getElem?_eq_getElem (by omega)
  obtain ⟨es, he, hes, hi⟩ := hr ds[a] (List.getElem_mem _)
  obtain ⟨x, hx, hd⟩ := hs.back e1
  rw [he] at hd
  obtain ⟨ra, ys, rfl, hra, _, hy⟩ := hd.isTup
  have e2 : es[b]? = some es[b] := List.getElem?_eq_getElem (by omega)
  obtain ⟨i, hei, h0, h1⟩ := hi es[b] (List.getElem_mem _)
  obtain ⟨y, hyb, hyd⟩ := hy.back e2
  rw [hei] at hyd
  obtain rfl := hyd.isInt
  refine ⟨ra, ys, i, hx, hra, hyb, ?_, h0, h1⟩
  unfold cellD
  rw [e1, he]
  simp only [e2, hei, Option.getD_some]
theorem ok_is_table (D : Df K mg "is_table" s_is_table ["thing", "m"]) (T : Nms mg) (c_is_tuple_of : CallOk P w K mg base CX0 1 "is_tuple_of" ["thing", "many"] spTupOf)
    (c_are_up_to : CallOk P w K mg base CX0 3 "are_up_to" ["thing", "many", "most"] spAre) : CallOk P w K mg base CX0 4 "is_table" ["thing", "m"] spTable := by
  refine df_ok D sc_is_table (fun vs H Q E h => ?_) (fun f cdv A outer s H vs Q E hr h => ?_)
  · obtain ⟨v, m, p, d, rfl, _⟩ := h
    rfl
  · obtain ⟨v, m, p, d, rfl, hm, hd, k⟩ := h
    have nd := sc_is_table.nd
    refine ⟨_, (pss_cons (ps_if (pt_not (pt_val (pe_cc c_is_tuple_of (hr.mono (by omega)) (pa_cons (pv 0) (pa_cons (pv 1) pa_nil))))) (pss_one (ps_ret pe_bl)) pss_nil)
      (pss_cons (ps_for PassesOwn.never rfl (pi_tup (pv 0)) (pg_name (i := 2) nd rfl (Or.inl rfl)) (pss_one (ps_if (pt_not (pt_val (pe_cc c_are_up_to (hr.mono (by omega)) (pa_cons (pv 2) (pa_cons (pv 1) (pa_cons (pe_op op_sub (pv 1) pe_int) pa_nil)))))) (pss_one (ps_ret pe_bl)) pss_nil)))
      (pss_cons (ps_for PassesOwn.never rfl (pi_range1 rfl T.n_range (pa_cons (pv 1) pa_nil)) (pg_name (i := 3) nd rfl (Or.inl rfl)) (pss_one (ps_for PassesOwn.never rfl (pi_range1 rfl T.n_range (pa_cons (pv 3) pa_nil)) (pg_name (i := 4) nd rfl (Or.inl rfl)) (pss_one (ps_if (pt_cmpR op_ne (pe_ix (r := rIxT K) ix_tup (pe_ix (r := rIxT K) ix_tup (pv 0) (pv 3) (fun _ _ => rfl)) (pv 4) (fun _ _ => rfl)) (pe_ix (r := rIxT K) ix_tup (pe_ix (r := rIxT K) ix_tup (pv 0) (pv 4) (fun _ _ => rfl)) (pv 3) (fun _ _ => rfl)) (nomark _)) (pss_one (ps_ret pe_bl)) pss_nil)))))
      (pss_one (ps_ret pe_bl))))), ?_⟩
    walk_at "op"
    walk_at "st"
    refine ⟨v, m, p, d, rfl, hd, fun b hb => ?_⟩
    walk_at "st"
    cases b with
    | false =>
      refine iteT (k false ⟨fun z => Bool.noConfusion z, fun ⟨ds, e, hl, _⟩ => hb.mpr ⟨ds, e, by omega⟩⟩)
    | true =>
      obtain ⟨ds, rfl, hl'⟩ := hb.mp rfl
      have hl : ds.length = m := by omega
      obtain ⟨a, xs, rfl, ha, _, hs⟩ := hd.isTup
      refine iteF ?_
      walk_at "st"
      refine ⟨⟨_, SqT.of ha⟩, fT (xs := xs) (fun i σ H' => H' = H ∧ (∃ u, σ = [some (.ref a), some (.int m), u, none, none]) ∧ ∀ j e, j < i → ds[j]? = some e → RowD m e)
        ⟨rfl, ⟨none, rfl⟩, fun j e hj => absurd hj (Nat.not_lt_zero j)⟩ (fun i σ H' _ ⟨e, _⟩ => by rw [e]; exact SqT.of ha) ?_ ?_⟩
      · rintro i x σ H' hx ⟨rfl, ⟨u, rfl⟩, hi⟩
        obtain ⟨e, he, hde⟩ := hs.at hx
        walk_at "op"
        walk_at "st"
        refine ⟨x, _, m, p, e, rfl, hde, .inr ⟨_, rfl⟩, fun b hb => ?_⟩
        rw [row_iff] at hb
        walk_at "st"
        cases b with
        | false =>
          refine iteT (k false ⟨fun z => Bool.noConfusion z, fun ⟨es, e1, _, h2, _⟩ => ?_⟩)
          cases e1
          exact hb.mpr (h2 e (List.mem_of_getElem? he))
        | true =>
          refine iteF ⟨rfl, ⟨_, rfl⟩, fun j e' hj he' => ?_⟩
          by_cases hji : j = i
          · subst hji
            rw [he] at he'
            cases he'
            exact hb.mp rfl
          · exact hi j e' (by omega) he'
      · rintro σ H' ⟨rfl, ⟨u, rfl⟩, hi⟩
        have hrow : ∀ r ∈ ds, RowD m r := fun r hr => by
          obtain ⟨j, hj⟩ := List.getElem?_of_mem hr
          exact hi j r (by rw [hs.1]; exact (List.getElem?_eq_some_iff.mp hj).1) hj
        walk_at "op"
        walk_at "st"
        rw [Int.toNat_natCast]
        refine fR (fun i σ H1 => H1 = H' ∧ (∃ u1 u2 u3, σ = [some (.ref a), some (.int m), u1, u2, u3]) ∧ ∀ x y, x < i → y < x → cellD ds x y = cellD ds y x)
          ⟨rfl, ⟨_, _, _, rfl⟩, fun x y hx => absurd hx (Nat.not_lt_zero x)⟩ ?_ ?_
        · rintro i σ H1 hi1 ⟨rfl, ⟨u1, u2, u3, rfl⟩, hsy⟩
          rw [Int.zero_add]
          walk_at "op"
          walk_at "st"
          rw [Int.toNat_natCast]
          refine fR (fun j σ H2 => H2 = H1 ∧ (∃ u1 u3, σ = [some (.ref a), some (.int m), u1, some (.int i), u3]) ∧ ∀ y, y < j → cellD ds i y = cellD ds y i)
            ⟨rfl, ⟨_, _, rfl⟩, fun y hy => absurd hy (Nat.not_lt_zero y)⟩ ?_ ?_
          · rintro j σ H2 hj ⟨rfl, ⟨u1, u3, rfl⟩, hsj⟩
            rw [Int.zero_add]
            obtain ⟨ra, ya, x1, a1, a2, a3, a4, _⟩ := cell_at hs hl hrow (a := i) (b := j) hi1 (by omega)
            obtain ⟨rb, yb, x2, b1, b2, b3, b4, _⟩ := cell_at hs hl hrow (a := j) (b := i) (by omega) hi1
            walk_at "op"
            walk_at "st"
            refine ⟨_, _, _, _, rfl, rfl, SqT.of ha, atI_nat a1, ?_⟩
            walk_at "st"
            refine ⟨_, _, _, _, rfl, rfl, SqT.of a2, atI_nat a3, ?_⟩
            walk_at "st"
            refine ⟨_, _, _, _, rfl, rfl, SqT.of ha, atI_nat b1, ?_⟩
            walk_at "st"
            refine ⟨_, _, _, _, rfl, rfl, SqT.of b2, atI_nat b3, rfl, ?_⟩
            walk_at "st"
            refine ite2 (fun c0 => ?_) (fun c0 => ?_)
            · refine k false ⟨fun z => Bool.noConfusion z, fun ⟨es, e1, _, _, h3⟩ => ?_⟩
              cases e1
              have q := h3 i j hi1 (by omega)
              rw [a4, b4] at q
              cases q
              simp at c0
            · refine ⟨rfl, ⟨_, _, rfl⟩, fun y hy => ?_⟩
              by_cases hyj : y = j
              · subst hyj
                rw [a4, b4]
                simp at c0
                rw [c0]
              · exact hsj y (by omega)
          · rintro σ H2 ⟨rfl, ⟨u1, u3, rfl⟩, hsj⟩
            refine ⟨rfl, ⟨_, _, _, rfl⟩, fun x y hx hy => ?_⟩
            by_cases hxi : x = i
            · subst hxi
              exact hsj y hy
            · exact hsy x y (by omega) hy
        · rintro σ H1 ⟨rfl, _, hsy⟩
          walk_at "op"
          refine k true ⟨fun _ => ⟨ds, rfl, hl, hrow, fun x y hx hy => ?_⟩, fun _ => rfl⟩
          rcases Nat.lt_trichotomy x y with h | h | h
          · exact (hsy y x hy h).symm
          · rw [h]
          · exact hsy x y hx h

end
end Fm
end FQ2
section FQ3
set_option Elab.async false
set_option linter.all false
set_option maxRecDepth 100000
set_option maxHeartbeats 4000000
local macro_rules | `(tactic| walk_at "ne") => `(tactic| first | assumption | (apply Ne.symm; assumption) | exact L2.ne_of_none (by assumption) (by assumption) | exact Ne.symm (L2.ne_of_none (by assumption) (by assumption)))
local macro_rules | `(tactic| walk_at "hl") => `(tactic| first | assumption | exact L2.upd_same | (refine Eq.trans (L2.upd_ne (by walk_at "ne")) ?_; walk_at "hl"))
local macro_rules | `(tactic| walk_at "sd") => `(tactic| first | (with_reducible show (_ : Int) < _; omega) | (with_reducible show (_ : Int) ≤ _; omega) | assumption | decide | exact ⟨by assumption, by assumption⟩ | exact ⟨by decide, by decide⟩ | exact Or.inr ⟨by decide, by decide⟩ | exact Or.inl ⟨by omega, by omega⟩ | rfl)
local macro_rules | `(tactic| walk_at "st1") => `(tactic| first
  | refine ⟨_, rfl, ?_⟩
  | refine ⟨_, _, rfl, rfl, ?_⟩
  | refine ⟨_, _, rfl, ?_⟩
  | (refine ⟨_, _, _, _, rfl, rfl, L2.SqL.of (by walk_at "hl"), rfl, ?_⟩)
  | (refine ⟨_, _, _, _, rfl, rfl, L2.SqT.of (by walk_at "hl"), rfl, ?_⟩)
  | (refine ⟨_, _, _, _, rfl, rfl, (by walk_at "hl"), rfl, ?_⟩)
  | (refine And.intro (by walk_at "sd") ?_)
  )
local macro_rules | `(tactic| walk_at "st") => `(tactic| repeat walk_at "st1")
local macro_rules | `(tactic| walk_at "op") => `(tactic| try dsimp only [L2.tSeq, L2.tAsg, L2.tOp, L2.tVar, L2.tC, L2.gSub, L2.rI, L2.rI0, L2.rIxL, L2.rIxT, L2.rSetL, L2.tIfS, L2.tTest, L2.tRet, L2.gName, L2.tNext, L2.tAnd, L2.tOr, L2.tNot, L2.tAndV, L2.tOrV, L2.tNotV, L2.tB, L2.tCB, L2.tCons, L2.tNil, L2.tCall, L2.tTup, L2.tLst, L2.tChain, L2.tUn, L2.tPar, L2.tDrop, L2.tIf, L2.tBM, L2.tBM0, L2.rAppend, L2.rCat, L2.rIsi, L2.rIsiT, L2.gTup, L2.gCons, L2.gNil, Fm.tFor_eq, Fm.tLc_eq, L2.iTup, L2.iList, L2.iRng1, L2.iRng2, L2.tSl, L2.tPart, L2.tNoPart, L2.rSlL, L2.rEq, L2.rNe, L2.rU, L2.rEqD, L2.rNeD, Fm.tRevT, Fm.rLenS, Fm.rTupOf, Fm.rLstOf, L2.tDNewK, L2.tCallS, L2.WE, Fm.wKeep, Fm.rIsK, Fm.rIsKT, List.cons_append, List.nil_append, L2.tYes])
namespace Fm
open PySem PySem.Spec PyProof.Rows L2
abbrev s_is_house : Stmt := top 14
abbrev N_is_house : List Str := ["thing", "floor", "first", "stay", "up"]
theorem sc_is_house : FnScope N_is_house ["thing"] (defScope s_is_house) := ⟨rfl, rfl, rfl, by decide +kernel, rfl, by decide +kernel, by decide +kernel⟩
section
variable {P : Program} {w : World} {K : PySem.W.Frag} {mg : Str → Option Value} {base : Heap}
theorem ok_is_house (D : Df K mg "is_house" s_is_house ["thing"]) (T : Nms mg) {tF tN : Tok} (c_MOST_FLOORS : mg "MOST_FLOORS" = some (.int 4 tF)) (c_MOST_NUMBERS : mg "MOST_NUMBERS" = some (.int 6 tN))
    (c_is_tuple_of : CallOk P w K mg base CX0 1 "is_tuple_of" ["thing", "many"] spTupOf) (c_is_table : CallOk P w K mg base CX0 4 "is_table" ["thing", "m"] spTable) : CallOk P w K mg base CX0 5 "is_house" ["thing"] spHouse := by
  refine df_ok D sc_is_house (fun vs H Q E h => ?_) (fun f cdv A outer s H vs Q E hr h => ?_)
  · obtain ⟨v, p, d, rfl, _⟩ := h
    rfl
  · obtain ⟨v, p, d, rfl, hd, k⟩ := h
    have nd := sc_is_house.nd
    refine ⟨_, (pss_cons (ps_if (PW.pt (pw_or (pt_not (pt_val (pe_callB (r := rIsi K) call_isi (by rfl) T.n_isinstance (by decide +kernel) (pa_cons (pv 0) (pa_cons (pe_bltn (v := .ty "tuple") (by rfl) T.n_tuple (by decide +kernel) rfl) pa_nil))))) (pw_or1 (pt_not (pt_chain op_le op_le pe_int (pe_callB (r := rLenS K) call_lenS (by rfl) T.n_len (by decide +kernel) (pa_cons (pv 0) pa_nil)) (pe_glob (v := .int 4) rfl c_MOST_FLOORS ⟨_, rfl⟩)))))) (pss_one (ps_ret pe_bl)) pss_nil)
      (pss_cons (ps_for PassesOwn.never rfl (pi_tup (pv 0)) (pg_name (i := 1) nd rfl (Or.inl rfl)) (pss_one (ps_if (pt_not (pt_val (pe_cc c_is_tuple_of (hr.mono (by omega)) (pa_cons (pv 1) (pa_cons pe_int pa_nil))))) (pss_one (ps_ret pe_bl)) pss_nil)))
      (pss_cons (ps_set (i := 2) nd rfl (Or.inl rfl) (pe_ix (r := rIxT K) ix_tup (pe_ix (r := rIxT K) ix_tup (pv 0) pe_int (fun _ _ => rfl)) pe_int (fun _ _ => rfl)))
      (pss_cons (ps_if (PW.pt (pw_or (pt_not (pt_val (pe_callB (r := rIsi K) call_isi (by rfl) T.n_isinstance (by decide +kernel) (pa_cons (pv 2) (pa_cons (pe_bltn (v := .ty "tuple") (by rfl) T.n_tuple (by decide +kernel) rfl) pa_nil))))) (pw_or1 (pt_not (pt_chain op_le op_le pe_int (pe_callB (r := rLenS K) call_lenS (by rfl) T.n_len (by decide +kernel) (pa_cons (pv 2) pa_nil)) (pe_glob (v := .int 6) rfl c_MOST_NUMBERS ⟨_, rfl⟩)))))) (pss_one (ps_ret pe_bl)) pss_nil)
      (pss_cons (ps_for PassesOwn.never rfl (pi_tup (pv 0)) (pg_tup rfl (pgs_cons (pg_name (i := 3) nd rfl (Or.inl rfl)) (pgs_cons (pg_name (i := 4) nd rfl (Or.inl rfl)) pgs_nil))) (pss_one (ps_if (PW.pt (pw_or (pt_not (pt_val (pe_cc c_is_table (hr.mono (by omega)) (pa_cons (pv 3) (pa_cons (pe_callB (r := rLenS K) call_lenS (by rfl) T.n_len (by decide +kernel) (pa_cons (pv 2) pa_nil)) pa_nil))))) (pw_or1 (pt_not (pt_val (pe_cc c_is_table (hr.mono (by omega)) (pa_cons (pv 4) (pa_cons (pe_callB (r := rLenS K) call_lenS (by rfl) T.n_len (by decide +kernel) (pa_cons (pv 2) pa_nil)) pa_nil)))))))) (pss_one (ps_ret pe_bl)) pss_nil)))
      (pss_one (ps_ret pe_bl))))))), ?_⟩
    walk_at "op"
    walk_at "st"
    refine ⟨_, _, _, _, _, rfl, .ty _, hd.ty, kit_ty (kit_tuple d), ?_⟩
    walk_at "st"
    by_cases ht : isTu d = true
    · obtain ⟨ds, rfl⟩ := isTu_iff.mp ht
      obtain ⟨a, xs, rfl, ha, _, hs⟩ := hd.isTup
      refine iteF ?_
      walk_at "st"
      refine ⟨_, _, rfl, .inr (SqT.of ha), ?_⟩
      walk_at "st"
      by_cases hlo : 1 ≤ xs.length ∧ xs.length ≤ 4
      · rw [decide_eq_true (show (1 : Int) ≤ (xs.length : Int) by omega)]
        refine iteT ?_
        walk_at "st"
        rw [decide_eq_true (show (xs.length : Int) ≤ 4 by omega)]
        refine iteF ?_
        walk_at "st"
        refine ⟨⟨_, SqT.of ha⟩, fT (xs := xs) (fun i σ H' => H' = H ∧ (∃ u, σ = [some (.ref a), u, none, none, none]) ∧ ∀ j e, j < i → ds[j]? = some e → ∃ es, e = .tuple es ∧ es.length = 2)
          ⟨rfl, ⟨none, rfl⟩, fun j e hj => absurd hj (Nat.not_lt_zero j)⟩ (fun i σ H' _ ⟨e, _⟩ => by rw [e]; exact SqT.of ha) ?_ ?_⟩
        · rintro i x σ H' hx ⟨rfl, ⟨u, rfl⟩, hi⟩
          obtain ⟨e, he, hde⟩ := hs.at hx
          walk_at "op"
          walk_at "st"
          refine ⟨x, 2, p, e, rfl, hde, fun b hb => ?_⟩
          walk_at "st"
          cases b with
          | false =>
            refine iteT (k false ⟨fun z => Bool.noConfusion z, fun ⟨m, n, fs, e1, _, _, _, _, _, h3⟩ => ?_⟩)
            cases e1
            obtain ⟨s1, u1, e2, _⟩ := h3 e (List.mem_of_getElem? he)
            exact hb.mpr ⟨_, e2, rfl⟩
          | true =>
            refine iteF ⟨rfl, ⟨_, rfl⟩, fun j e' hj he' => ?_⟩
            by_cases hji : j = i
            · subst hji
              rw [he] at he'
              cases he'
              obtain ⟨es, e1, e2⟩ := hb.mp rfl
              exact ⟨es, e1, by omega⟩
            · exact hi j e' (by omega) he'
        · rintro σ H' ⟨rfl, ⟨u, rfl⟩, hi⟩
          have hpair : ∀ (j : Nat) (e : PyData), ds[j]? = some e → ∃ s1 u1, e = .tuple [s1, u1] := fun j e he => by
            obtain ⟨es, e1, e2⟩ := hi j e (by rw [hs.1]; exact (List.getElem?_eq_some_iff.mp he).1) he
            match es, e2 with
            | [s1, u1], _ => exact ⟨s1, u1, e1⟩
          have hd0 : ds[0]? = some ds[0] := List.getElem?_eq_getElem (by rw [← hs.1]; omega)
          obtain ⟨s0, u0, e0⟩ := hpair 0 _ hd0
          rw [e0] at hd0
          obtain ⟨x0, hx0, hdx0⟩ := hs.back hd0
          obtain ⟨a0, y0, rfl, ha0, _, hs0⟩ := hdx0.isTup
          obtain ⟨z0, hz0, hdz0⟩ := hs0.back (i := 0) (d := s0) rfl
          walk_at "op"
          walk_at "st"
          refine ⟨_, _, _, _, rfl, rfl, SqT.of ha, atI_nat (j := 0) hx0, ?_⟩
          walk_at "st"
          refine ⟨_, _, _, _, rfl, rfl, SqT.of ha0, atI_nat (j := 0) hz0, ?_⟩
          walk_at "st"
          refine ⟨_, _, _, _, _, rfl, .ty _, hdz0.ty, kit_ty (kit_tuple s0), ?_⟩
          walk_at "st"
          have hfirst : ∀ m n, HouseN m n (.tuple ds) → TabD m s0 := fun m n ⟨fs, e1, _, _, _, _, _, h3⟩ => by
            cases e1
            obtain ⟨s1, u1, e2, h4, _⟩ := h3 _ (List.mem_of_getElem? hd0)
            cases e2
            exact h4
          by_cases ht0 : isTu s0 = true
          · obtain ⟨es0, rfl⟩ := isTu_iff.mp ht0
            obtain ⟨af, yf, rfl, haf, _, hsf⟩ := hdz0.isTup
            refine iteF ?_
            walk_at "st"
            refine ⟨_, _, rfl, .inr (SqT.of haf), ?_⟩
            walk_at "st"
            have hm0 : ∀ m n, HouseN m n (.tuple ds) → m = yf.length ∧ 1 ≤ m ∧ m ≤ 6 := fun m n hN => by
              obtain ⟨rs, e1, e2, _⟩ := hfirst m n hN
              cases e1
              obtain ⟨_, _, _, _, _, q1, q2, _⟩ := hN
              exact ⟨by rw [hsf.1, e2], q1, q2⟩
            by_cases hm1 : 1 ≤ yf.length ∧ yf.length ≤ 6
            · rw [decide_eq_true (show (1 : Int) ≤ (yf.length : Int) by omega)]
              refine iteT ?_
              walk_at "st"
              rw [decide_eq_true (show (yf.length : Int) ≤ 6 by omega)]
              refine iteF ?_
              walk_at "st"
              refine ⟨⟨_, SqT.of ha⟩, fT (xs := xs) (fun i σ H1 => H1 = H' ∧ (∃ u1 u2 u3, σ = [some (.ref a), u1, some (.ref af), u2, u3]) ∧ ∀ j e, j < i → ds[j]? = some e → FloorD yf.length e)
                ⟨rfl, ⟨_, _, _, rfl⟩, fun j e hj => absurd hj (Nat.not_lt_zero j)⟩ (fun i σ H1 _ ⟨e, _⟩ => by rw [e]; exact SqT.of ha) ?_ ?_⟩
              · rintro i x σ H1 hx ⟨rfl, ⟨u1, u2, u3, rfl⟩, hfl⟩
                obtain ⟨e, he, hde⟩ := hs.at hx
                obtain ⟨s1, v1, rfl⟩ := hpair i e he
                obtain ⟨ai, yi, rfl, hai, _, hsi⟩ := hde.isTup
                have hlen : yi.length = 2 := hsi.1
                match yi, hlen with
                | [w1, w2], _ =>
                have hw1 : Dat H1 p w1 s1 := hsi.2 0 w1 s1 rfl rfl
                have hw2 : Dat H1 p w2 v1 := hsi.2 1 w2 v1 rfl rfl
                walk_at "op"
                refine ⟨ai, _, rfl, SqT.of hai, rfl, _, _, rfl, _, _, rfl, rfl, ?_⟩
                walk_at "op"
                walk_at "st"
                refine ⟨_, _, rfl, .inr (SqT.of haf), ?_⟩
                refine ⟨w1, yf.length, p, s1, rfl, by omega, hw1, fun b1 hb1 => ?_⟩
                walk_at "st"
                cases b1 with
                | false =>
                  refine iteT (iteT (k false ⟨fun z => Bool.noConfusion z, fun ⟨m, n, hN⟩ => ?_⟩))
                  obtain ⟨rfl, _, _⟩ := hm0 m n hN
                  obtain ⟨fs, e1, _, _, _, _, _, h3⟩ := hN
                  cases e1
                  obtain ⟨s2, v2, e2, h4, _⟩ := h3 _ (List.mem_of_getElem? he)
                  cases e2
                  exact hb1.mpr h4
                | true =>
                  refine iteF ?_
                  walk_at "st"
                  refine ⟨_, _, rfl, .inr (SqT.of haf), ?_⟩
                  refine ⟨w2, yf.length, p, v1, rfl, by omega, hw2, fun b2 hb2 => ?_⟩
                  walk_at "st"
                  cases b2 with
                  | false =>
                    refine iteT (k false ⟨fun z => Bool.noConfusion z, fun ⟨m, n, hN⟩ => ?_⟩)
                    obtain ⟨rfl, _, _⟩ := hm0 m n hN
                    obtain ⟨fs, e1, _, _, _, _, _, h3⟩ := hN
                    cases e1
                    obtain ⟨s2, v2, e2, _, h4⟩ := h3 _ (List.mem_of_getElem? he)
                    cases e2
                    exact hb2.mpr h4
                  | true =>
                    refine iteF ⟨rfl, ⟨_, _, _, rfl⟩, fun j e' hj he' => ?_⟩
                    by_cases hji : j = i
                    · subst hji
                      rw [he] at he'
                      cases he'
                      exact ⟨s1, v1, rfl, hb1.mp rfl, hb2.mp rfl⟩
                    · exact hfl j e' (by omega) he'
              · rintro σ H1 ⟨rfl, _, hfl⟩
                walk_at "op"
                refine k true ⟨fun _ => ⟨yf.length, xs.length, ds, rfl, hs.1.symm, hlo.1, hlo.2, hm1.1, hm1.2, fun e he => ?_⟩, fun _ => rfl⟩
                obtain ⟨j, hj⟩ := List.getElem?_of_mem he
                exact hfl j e (by rw [hs.1]; exact (List.getElem?_eq_some_iff.mp hj).1) hj
            · have no : ¬ HouseD (.tuple ds) := fun ⟨m, n, hN⟩ => by
                obtain ⟨e1, q1, q2⟩ := hm0 m n hN
                exact hm1 (by omega)
              by_cases h1 : 1 ≤ yf.length
              · rw [decide_eq_true (show (1 : Int) ≤ (yf.length : Int) by omega)]
                refine iteT ?_
                walk_at "st"
                rw [decide_eq_false (show ¬ (yf.length : Int) ≤ 6 by omega)]
                exact iteT (k false ⟨fun z => Bool.noConfusion z, fun z => (no z).elim⟩)
              · rw [decide_eq_false (show ¬ (1 : Int) ≤ (yf.length : Int) by omega)]
                refine iteF ?_
                walk_at "st"
                exact iteT (k false ⟨fun z => Bool.noConfusion z, fun z => (no z).elim⟩)
          · have no : ¬ HouseD (.tuple ds) := fun ⟨m, n, hN⟩ => by
              obtain ⟨rs, e1, _⟩ := hfirst m n hN
              exact ht0 (isTu_iff.mpr ⟨rs, e1⟩)
            rw [Bool.eq_false_iff.mpr ht0]
            exact iteT (iteT (k false ⟨fun z => Bool.noConfusion z, fun z => (no z).elim⟩))
      · have no : ¬ HouseD (.tuple ds) := fun ⟨m, n, fs, e1, e2, q1, q2, _⟩ => by
          cases e1
          exact hlo (by rw [hs.1]; omega)
        by_cases h1 : 1 ≤ xs.length
        · rw [decide_eq_true (show (1 : Int) ≤ (xs.length : Int) by omega)]
          refine iteT ?_
          walk_at "st"
          rw [decide_eq_false (show ¬ (xs.length : Int) ≤ 4 by omega)]
          exact iteT (k false ⟨fun z => Bool.noConfusion z, fun z => (no z).elim⟩)
        · rw [decide_eq_false (show ¬ (1 : Int) ≤ (xs.length : Int) by omega)]
          refine iteF ?_
          walk_at "st"
          exact iteT (k false ⟨fun z => Bool.noConfusion z, fun z => (no z).elim⟩)
    · have no : ¬ HouseD d := fun ⟨m, n, fs, e1, _⟩ => ht (isTu_iff.mpr ⟨fs, e1⟩)
      rw [Bool.eq_false_iff.mpr ht]
      exact iteT (iteT (k false ⟨fun z => Bool.noConfusion z, fun z => (no z).elim⟩))

end
end Fm
end FQ3
section FR4
set_option Elab.async false
set_option linter.all false
set_option maxRecDepth 100000
set_option maxHeartbeats 4000000
local macro_rules | `(tactic| walk_at "ne") => `(tactic| first | assumption | (apply Ne.symm; assumption) | exact L2.ne_of_none (by assumption) (by assumption) | exact Ne.symm (L2.ne_of_none (by assumption) (by assumption)))
local macro_rules | `(tactic| walk_at "hl") => `(tactic| first | assumption | exact L2.upd_same | (refine Eq.trans (L2.upd_ne (by walk_at "ne")) ?_; walk_at "hl"))
local macro_rules | `(tactic| walk_at "sd") => `(tactic| first | (with_reducible show (_ : Int) < _; omega) | (with_reducible show (_ : Int) ≤ _; omega) | assumption | decide | exact ⟨by assumption, by assumption⟩ | exact ⟨by decide, by decide⟩ | exact Or.inr ⟨by decide, by decide⟩ | exact Or.inl ⟨by omega, by omega⟩ | rfl)
local macro_rules | `(tactic| walk_at "st1") => `(tactic| first
  | refine ⟨_, rfl, ?_⟩
  | refine ⟨_, _, rfl, rfl, ?_⟩
  | refine ⟨_, _, rfl, ?_⟩
  | (refine ⟨_, _, _, _, rfl, rfl, L2.SqL.of (by walk_at "hl"), rfl, ?_⟩)
  | (refine ⟨_, _, _, _, rfl, rfl, L2.SqT.of (by walk_at "hl"), rfl, ?_⟩)
  | (refine ⟨_, _, _, _, rfl, rfl, (by walk_at "hl"), rfl, ?_⟩)
  | (refine And.intro (by walk_at "sd") ?_)
  )
local macro_rules | `(tactic| walk_at "st") => `(tactic| repeat walk_at "st1")
local macro_rules | `(tactic| walk_at "op") => `(tactic| try dsimp only [L2.tSeq, L2.tAsg, L2.tOp, L2.tVar, L2.tC, L2.gSub, L2.rI, L2.rI0, L2.rIxL, L2.rIxT, L2.rSetL, L2.tIfS, L2.tTest, L2.tRet, L2.gName, L2.tNext, L2.tAnd, L2.tOr, L2.tNot, L2.tAndV, L2.tOrV, L2.tNotV, L2.tB, L2.tCB, L2.tCons, L2.tNil, L2.tCall, L2.tTup, L2.tLst, L2.tChain, L2.tUn, L2.tPar, L2.tDrop, L2.tIf, L2.tBM, L2.tBM0, L2.rAppend, L2.rCat, L2.rIsi, L2.rIsiT, L2.gTup, L2.gCons, L2.gNil, Fm.tFor_eq, Fm.tLc_eq, L2.iTup, L2.iList, L2.iRng1, L2.iRng2, L2.tSl, L2.tPart, L2.tNoPart, L2.rSlL, L2.rEq, L2.rNe, L2.rU, L2.rEqD, L2.rNeD, Fm.tRevT, Fm.rLenS, Fm.rTupOf, Fm.rLstOf, L2.tDNewK, L2.tCallS, L2.WE, Fm.wKeep, Fm.rIsK, Fm.rIsKT, List.cons_append, List.nil_append, L2.tYes])
namespace Fm
open PySem PySem.Spec PyProof.Rows L2
abbrev s_size : Stmt := top 16
abbrev N_size : List Str := ["house"]
theorem sc_size : FnScope N_size ["house"] (defScope s_size) := ⟨rfl, rfl, rfl, by decide +kernel, rfl, by decide +kernel, by decide +kernel⟩
section
variable {P : Program} {w : World} {K : PySem.W.Frag} {mg : Str → Option Value} {base : Heap}
theorem ok_size (D : Df K mg "size" s_size ["house"]) (T : Nms mg) {C M : Addr} (EX : Exn K mg "NoHouse" C M) (c_is_house : CallOk P w K mg base CX0 5 "is_house" ["thing"] spHouse) : CallOk P w K mg base (L2.CX P w) 6 "size" ["house"] (spSize C) := by
  refine df_okX D sc_size (fun vs H Q E h => ?_) (fun f cdv A outer s H vs Q E hr h => ?_)
  · obtain ⟨v, p, d, rfl, _⟩ := h
    rfl
  · obtain ⟨v, p, d, rfl, hd, k1, k2⟩ := h
    have nd := sc_size.nd
    refine ⟨_, (pss_cons (ps_if (pt_not (pt_val (pe_cc c_is_house (hr.mono (by omega)) (pa_cons (pv 0) pa_nil)))) (pss_one (ps_raiseE rfl (takes_of rfl rfl rfl rfl) EX rfl)) pss_nil)
      (pss_one (ps_ret (pe_tup (pa_cons (pe_callB (r := rLenS K) call_lenS (by rfl) T.n_len (by decide +kernel) (pa_cons (pe_ix (r := rIxT K) ix_tup (pe_ix (r := rIxT K) ix_tup (pv 0) pe_int (fun _ _ => rfl)) pe_int (fun _ _ => rfl)) pa_nil)) (pa_cons (pe_callB (r := rLenS K) call_lenS (by rfl) T.n_len (by decide +kernel) (pa_cons (pv 0) pa_nil)) pa_nil)))))), ?_⟩
    walk_at "op"
    walk_at "st"
    refine ⟨v, p, d, rfl, hd, fun b hb => ?_⟩
    walk_at "st"
    cases b with
    | false => exact iteT (k2 fun z => Bool.noConfusion (hb.mpr z))
    | true =>
      obtain ⟨m, n, hN⟩ := hb.mp rfl
      obtain ⟨fs, rfl, hl, h1, _, _, _, hf⟩ := id hN
      obtain ⟨a, xs, rfl, ha, _, hs⟩ := hd.isTup
      have hd0 : fs[0]? = some fs[0] := List.getElem?_eq_getElem (by omega)
      obtain ⟨s0, u0, e0, ⟨rs, e1, e2, _⟩, _⟩ := hf fs[0] (List.getElem_mem _)
      rw [e0] at hd0
      subst e1
      obtain ⟨x0, hx0, hdx0⟩ := hs.back hd0
      obtain ⟨a0, y0, rfl, ha0, _, hs0⟩ := hdx0.isTup
      obtain ⟨z0, hz0, hdz0⟩ := hs0.back (i := 0) rfl
      obtain ⟨af, yf, rfl, haf, _, hsf⟩ := hdz0.isTup
      refine iteF ?_
      walk_at "op"
      walk_at "st"
      refine ⟨_, _, _, _, rfl, rfl, SqT.of ha, atI_nat (j := 0) hx0, ?_⟩
      walk_at "st"
      refine ⟨_, _, _, _, rfl, rfl, SqT.of ha0, atI_nat (j := 0) hz0, ?_⟩
      refine ⟨_, _, rfl, .inr (SqT.of haf), ?_⟩
      walk_at "st"
      refine ⟨_, _, rfl, .inr (SqT.of ha), ?_⟩
      refine ⟨by show 2 ≤ sizeLine; decide, fun q hq => ?_⟩
      refine k1 m n hN q _ hq ?_ (same_new hq)
      rw [upd_same, hsf.1, e2, hs.1, hl]

end
end Fm
end FR4
section FQ5
set_option Elab.async false
set_option linter.all false
set_option maxRecDepth 100000
set_option maxHeartbeats 4000000
local macro_rules | `(tactic| walk_at "ne") => `(tactic| first | assumption | (apply Ne.symm; assumption) | exact L2.ne_of_none (by assumption) (by assumption) | exact Ne.symm (L2.ne_of_none (by assumption) (by assumption)))
local macro_rules | `(tactic| walk_at "hl") => `(tactic| first | assumption | exact L2.upd_same | (refine Eq.trans (L2.upd_ne (by walk_at "ne")) ?_; walk_at "hl"))
local macro_rules | `(tactic| walk_at "sd") => `(tactic| first | (with_reducible show (_ : Int) < _; omega) | (with_reducible show (_ : Int) ≤ _; omega) | assumption | decide | exact ⟨by assumption, by assumption⟩ | exact ⟨by decide, by decide⟩ | exact Or.inr ⟨by decide, by decide⟩ | exact Or.inl ⟨by omega, by omega⟩ | rfl)
local macro_rules | `(tactic| walk_at "st1") => `(tactic| first
  | refine ⟨_, rfl, ?_⟩
  | refine ⟨_, _, rfl, rfl, ?_⟩
  | refine ⟨_, _, rfl, ?_⟩
  | (refine ⟨_, _, _, _, rfl, rfl, L2.SqL.of (by walk_at "hl"), rfl, ?_⟩)
  | (refine ⟨_, _, _, _, rfl, rfl, L2.SqT.of (by walk_at "hl"), rfl, ?_⟩)
  | (refine ⟨_, _, _, _, rfl, rfl, (by walk_at "hl"), rfl, ?_⟩)
  | (refine And.intro (by walk_at "sd") ?_)
  )
local macro_rules | `(tactic| walk_at "st") => `(tactic| repeat walk_at "st1")
local macro_rules | `(tactic| walk_at "op") => `(tactic| try dsimp only [L2.tSeq, L2.tAsg, L2.tOp, L2.tVar, L2.tC, L2.gSub, L2.rI, L2.rI0, L2.rIxL, L2.rIxT, L2.rSetL, L2.tIfS, L2.tTest, L2.tRet, L2.gName, L2.tNext, L2.tAnd, L2.tOr, L2.tNot, L2.tAndV, L2.tOrV, L2.tNotV, L2.tB, L2.tCB, L2.tCons, L2.tNil, L2.tCall, L2.tTup, L2.tLst, L2.tChain, L2.tUn, L2.tPar, L2.tDrop, L2.tIf, L2.tBM, L2.tBM0, L2.rAppend, L2.rCat, L2.rIsi, L2.rIsiT, L2.gTup, L2.gCons, L2.gNil, Fm.tFor_eq, Fm.tLc_eq, L2.iTup, L2.iList, L2.iRng1, L2.iRng2, L2.tSl, L2.tPart, L2.tNoPart, L2.rSlL, L2.rEq, L2.rNe, L2.rU, L2.rEqD, L2.rNeD, Fm.tRevT, Fm.rLenS, Fm.rTupOf, Fm.rLstOf, L2.tDNewK, L2.tCallS, L2.WE, Fm.wKeep, Fm.rIsK, Fm.rIsKT, List.cons_append, List.nil_append, L2.tYes])
namespace Fm
open PySem PySem.Spec PyProof.Rows L2
abbrev s_law_bag : Stmt := top 34
abbrev N_law_bag : List Str := ["cell"]
theorem sc_law_bag : FnScope N_law_bag ["cell"] (defScope s_law_bag) := ⟨rfl, rfl, rfl, by decide +kernel, rfl, by decide +kernel, by decide +kernel⟩
abbrev s_law_pick : Stmt := top 35
abbrev N_law_pick : List Str := ["bag", "many", "told", "first", "second"]
theorem sc_law_pick : FnScope N_law_pick ["bag", "many"] (defScope s_law_pick) := ⟨rfl, rfl, rfl, by decide +kernel, rfl, by decide +kernel, by decide +kernel⟩
abbrev s_law_table : Stmt := top 36
abbrev N_law_table : List Str := ["bag", "m", "way", "free", "k", "rows", "a", "row", "b", "least", "most", "some"]
theorem sc_law_table : FnScope N_law_table ["bag", "m"] (defScope s_law_table) := ⟨rfl, rfl, rfl, by decide +kernel, rfl, by decide +kernel, by decide +kernel⟩
section
variable {P : Program} {w : World} {K : PySem.W.Frag} {mg : Str → Option Value} {base : Heap}
theorem atI_of {xs : List V} {i : Int} {v : V} (h0 : 0 ≤ i) (h : xs[i.toNat]? = some v) : atI xs i = some v := by
  have e := atI_nat h
  rw [Int.toNat_of_nonneg h0] at e
  exact e
theorem ok_law_bag (D : Df K mg "_law_bag" s_law_bag ["cell"]) (T : Nms mg) : CallOk P w K mg base CX0 1 "_law_bag" ["cell"] spBag := by
  refine df_ok D sc_law_bag (fun vs H Q E h => ?_) (fun f cdv A outer s H vs Q E hr h => ?_)
  · obtain ⟨c, rfl, _⟩ := h
    rfl
  · obtain ⟨c, rfl, k⟩ := h
    have nd := sc_law_bag.nd
    refine ⟨_, (pss_one (ps_ret (pe_lst (pa_cons (pe_callB (call_max2 rfl) (by rfl) T.n_max (by decide +kernel) (pa_cons pe_int (pa_cons (pe_op op_sub (pv 0) (pe_op op_pow pe_int pe_int)) pa_nil))) (pa_cons (pv 0) (pa_cons pe_int pa_nil)))))), ?_⟩
    walk_at "op"
    walk_at "st"
    refine ⟨by show 3 ≤ sizeLine; decide, fun q hq => ?_⟩
    exact k q _ hq ⟨_, _, _, upd_same⟩ (same_new hq)
theorem ok_law_pick (D : Df K mg "_law_pick" s_law_pick ["bag", "many"]) (T : Nms mg) : CallOk P w K mg base CX0 1 "_law_pick" ["bag", "many"] spPick := by
  refine df_ok D sc_law_pick (fun vs H Q E h => ?_) (fun f cdv A outer s H vs Q E hr h => ?_)
  · obtain ⟨p, m, rfl, _⟩ := h
    rfl
  · obtain ⟨p, m, rfl, m0, ml, ⟨x, y, c, hp⟩, k⟩ := h
    have nd := sc_law_pick.nd
    refine ⟨_, (pss_cons (ps_asg (pe_op op_add (pe_ix (r := rIxL K) ix_list (pv 0) pe_int (fun _ _ => rfl)) pe_int) (pg_sub (pv 0) pe_int set_list))
      (pss_cons (ps_if (pt_cmpR op_gt (pe_ix (r := rIxL K) ix_list (pv 0) pe_int (fun _ _ => rfl)) pe_int (nomark _)) (pss_cons (ps_set (i := 2) nd rfl (Or.inl rfl) (pe_op op_mod (pe_ix (r := rIxL K) ix_list (pv 0) pe_int (fun _ _ => rfl)) (pv 1)))
      (pss_cons (ps_asg (pe_op op_fdivW (pe_ix (r := rIxL K) ix_list (pv 0) pe_int (fun _ _ => rfl)) (pv 1)) (pg_sub (pv 0) pe_int set_list))
      (pss_one (ps_ret (pv 2))))) pss_nil)
      (pss_cons (ps_set (i := 3) nd rfl (Or.inl rfl) (pe_op op_mod (pe_op op_add (pe_op op_add (pe_op op_mul (pe_op op_mod (pe_ix (r := rIxL K) ix_list (pv 0) pe_int (fun _ _ => rfl)) pe_int) pe_int) (pe_op op_mul (pe_ix (r := rIxL K) ix_list (pv 0) pe_int (fun _ _ => rfl)) pe_int)) pe_int) pe_int))
      (pss_cons (ps_set (i := 4) nd rfl (Or.inl rfl) (pe_op op_mod (pe_op op_add (pe_op op_mul (pv 3) (pv 3)) (pe_op op_mul (pe_ix (r := rIxL K) ix_list (pv 0) pe_int (fun _ _ => rfl)) pe_int)) pe_int))
      (pss_one (ps_ret (pe_op op_mod (pe_op op_fdivW (pe_op op_add (pe_op op_mul (pv 3) pe_int) (pv 4)) pe_int) (pv 1)))))))), ?_⟩
    walk_at "op"
    walk_at "st"
    refine ite2 (fun c0 => ?_) (fun c0 => ?_)
    · walk_at "st"
      refine k _ _ (Int.emod_nonneg _ (by omega)) (Int.emod_lt_of_pos _ m0) ⟨_, _, _, upd_same⟩ (ext_at.trans ext_at)
    · walk_at "st"
      refine k _ _ (Int.emod_nonneg _ (by omega)) (Int.emod_lt_of_pos _ m0) ⟨_, _, _, upd_same⟩ ext_at
/-- the seven ways of a table's number -/
def ways7 (fs : List Int) (m a b : Int) : List Int :=
  let lo := if b < a then b else a
  let hi := if b > a then b else a
  [fs.getD (lo * 6 + hi).toNat 0, hi, lo, (a + b) % m, if m - 1 < a + b then m - 1 else a + b, fs.getD 0 0, a * b % m]
theorem ways7_comm (fs : List Int) (m a b : Int) : ways7 fs m a b = ways7 fs m b a := by
  have e1 : (if b < a then b else a) = if a < b then a else b := by split <;> split <;> omega
  have e2 : (if b > a then b else a) = if a > b then a else b := by split <;> split <;> omega
  unfold ways7
  rw [e1, e2, Int.add_comm b a, Int.mul_comm b a]
theorem ways7_in {fs : List Int} {m : Nat} {a b : Nat} (hf : ∀ f ∈ fs, 0 ≤ f ∧ f < (m : Int)) (hl : fs.length = 36) (hm : m ≤ 6) (ha : a < m) (hb : b < m) : ∀ e ∈ ways7 fs m a b, 0 ≤ e ∧ e < (m : Int) := by
  have gd : ∀ i, i < 36 → 0 ≤ fs.getD i 0 ∧ fs.getD i 0 < (m : Int) := fun i hi => by
    rw [List.getD_eq_getElem?_getD, List.getElem?_eq_getElem (show i < fs.length by omega), Option.getD_some]
    exact hf _ (List.getElem_mem _)
  intro e he
  unfold ways7 at he
  simp only [List.mem_cons, List.not_mem_nil, or_false] at he
  have m0 : (0 : Int) < m := by omega
  rcases he with rfl | rfl | rfl | rfl | rfl | rfl | rfl
  · apply gd
    split <;> split <;> omega
  · split <;> omega
  · split <;> omega
  · exact ⟨Int.emod_nonneg _ (by omega), Int.emod_lt_of_pos _ m0⟩
  · split <;> omega
  · exact gd 0 (by omega)
  · exact ⟨Int.emod_nonneg _ (by omega), Int.emod_lt_of_pos _ m0⟩
def spTab : Sp := fun vs H Q _ => ∃ (p : Addr) (m : Nat), vs = [.ref p, .int m] ∧ 1 ≤ m ∧ m ≤ 6 ∧ Bag H p ∧ ∀ (v : V) (d : PyData) (H' : Hp), Bag H' p → Ext p H H' → Dat H' p v d → TabD m d → Q v H'
/-- rows made by a function of two places -/
theorem tab_of {m : Nat} {G : Nat → Nat → Int} (hs : ∀ a b, G a b = G b a) (hb : ∀ a b, a < m → b < m → 0 ≤ G a b ∧ G a b < (m : Int)) :
    TabD m (.tuple ((List.range m).map fun a => .tuple ((List.range m).map fun b => .int (G a b)))) := by
  refine ⟨_, rfl, by simp, fun r hr => ?_, fun a b ha hb => ?_⟩
  · obtain ⟨a, ha, rfl⟩ := List.mem_map.mp hr
    refine ⟨_, rfl, by simp, fun e he => ?_⟩
    obtain ⟨b, hb', rfl⟩ := List.mem_map.mp he
    exact ⟨_, rfl, hb a b (List.mem_range.mp ha) (List.mem_range.mp hb')⟩
  · have c : ∀ x y, x < m → y < m → cellD ((List.range m).map fun a => PyData.tuple ((List.range m).map fun b => .int (G a b))) x y = .int (G x y) := fun x y hx hy => by
      unfold cellD
      simp [hx, hy]
    rw [c a b ha hb, c b a hb ha, hs]
theorem range_snoc {α : Type} (f : Nat → α) (n : Nat) : (List.range (n + 1)).map f = (List.range n).map f ++ [f n] := by
  rw [List.range_succ, List.map_append]
  rfl
theorem Ext.off {H H' : Hp} {p L : Addr} {o : HO} (e : Ext p H H') (h : H L = none) : Ext p H (upd H' L o) := fun b u eb n => by
  rw [upd_ne (ne_of_none eb h)]
  exact e b u eb n
theorem Bag.up {H : Hp} {p L : Addr} {o : HO} (h : Bag H p) (n : p ≠ L) : Bag (upd H L o) p := by
  obtain ⟨x, y, c, q⟩ := h
  exact ⟨x, y, c, by rw [upd_ne n]; exact q⟩
theorem Bag.ne {H : Hp} {p L : Addr} (h : Bag H p) (n : H L = none) : p ≠ L := by
  obtain ⟨x, y, c, q⟩ := h
  exact ne_of_none q n
theorem Bag.here {H : Hp} {p : Addr} (h : Bag H p) : ∃ u, H p = some u := by
  obtain ⟨x, y, c, q⟩ := h
  exact ⟨_, q⟩
theorem ext_new {H : Hp} {p L : Addr} {o : HO} (h : H L = none) : Ext p H (upd H L o) := fun b u eb _ => by
  rw [upd_ne (ne_of_none eb h)]
  exact eb
theorem len_le {n : Nat} (h : n ≤ 1000) : n ≤ sizeLine := Nat.le_of_lt (small1000 h)
/-- what both makers of tables share: the rows so far -/
def RowsAt (H : Hp) (p R : Addr) (m a : Nat) (G : Nat → Nat → Int) : Prop :=
  ∃ xs, H R = some (.lst xs) ∧ Dats H p xs ((List.range a).map fun x => .tuple ((List.range m).map fun y => .int (G x y)))
def RowAt (H : Hp) (W : Addr) (a b : Nat) (G : Nat → Nat → Int) : Prop := H W = some (.lst (((List.range b).map fun y => G a y).map V.int))
theorem Ext.free {H H' : Hp} {p S : Addr} (e : Ext p H H') (n : S ≠ p) (h : H' S = none) : H S = none := by
  cases q : H S with
  | none => rfl
  | some u =>
    rw [e S u q n] at h
    cases h
theorem Dat.setL {H : Hp} {p R : Addr} {xs ys : List V} {v : V} {d : PyData} (hR : H R = some (.lst xs)) (h : Dat H p v d) : noList d = true → Dat (upd H R (.lst ys)) p v d := by
  induction h with
  | non => exact fun _ => .non
  | bl b => exact fun _ => .bl b
  | int i => exact fun _ => .int i
  | str x => exact fun _ => .str x
  | tup h1 h2 h3 h4 ih => exact fun hn => .tup (by rw [upd_ne (ne_of h1 hR (by intro z; cases z))]; exact h1) h2 h3 fun i x d a b => ih i x d a b (noList_tup hn d (List.mem_of_getElem? b))
  | lst h1 h2 h3 h4 ih => exact fun hn => by unfold noList at hn; cases hn
  | dct h1 h2 => exact fun _ => .dct (by rw [upd_ne (ne_of h1 hR (by intro z; cases z))]; exact h1) h2
theorem Dats.setL {H : Hp} {p R : Addr} {xs ys zs : List V} {ds : List PyData} (hR : H R = some (.lst xs)) (h : Dats H p zs ds) (hn : ∀ d ∈ ds, noList d = true) : Dats (upd H R (.lst ys)) p zs ds :=
  ⟨h.1, fun i x d a b => (h.2 i x d a b).setL hR (hn d (List.mem_of_getElem? b))⟩
theorem noList_ints {α : Type} (l : List α) (f : α → Int) : noList (.tuple (l.map fun x => .int (f x))) = true := noList_of fun d hd => by
  obtain ⟨x, _, rfl⟩ := List.mem_map.mp hd
  unfold noList
  rfl
theorem fs_at {fs : List Int} {i : Nat} (h : i < fs.length) : (fs.map V.int)[i]? = some (.int (fs.getD i 0)) := by
  rw [List.getElem?_map, List.getElem?_eq_getElem h, List.getD_eq_getElem?_getD, List.getElem?_eq_getElem h]
  rfl
theorem ok_law_table (D : Df K mg "_law_table" s_law_table ["bag", "m"]) (T : Nms mg) (c_law_pick : CallOk P w K mg base CX0 1 "_law_pick" ["bag", "many"] spPick) : CallOk P w K mg base CX0 2 "_law_table" ["bag", "m"] spTab := by
  refine df_ok D sc_law_table (fun vs H Q E h => ?_) (fun f cdv A outer s H vs Q E hr h => ?_)
  · obtain ⟨p, m, rfl, _⟩ := h
    rfl
  · obtain ⟨p, m, rfl, hm1, hm6, hB, k⟩ := h
    have nd := sc_law_table.nd
    have ml : (m : Int).natAbs.log2 < 9000 := Nat.lt_of_le_of_lt (Nat.log2_le_self _) (by omega)
    refine ⟨_, (pss_cons (ps_set (i := 2) nd rfl (Or.inl rfl) (pe_cc c_law_pick (hr.mono (by omega)) (pa_cons (pv 0) (pa_cons pe_int pa_nil))))
      (pss_cons (ps_setLc (i := 3) (own := [("k", 4)]) (g := (gName 4)) (tt := tYes) (by rfl) nd rfl rfl (sw_true rfl rfl rfl (by decide +kernel)) (pi_range1 rfl T.n_range (pa_cons pe_int pa_nil)) (blkOk_by (own := [("k", 4)]) (N := N_law_table) (sc := defScope s_law_table) (by decide +kernel)) (fun _ _ _ _ _ => (pg_name (i := 4) nd rfl (Or.inl rfl))) (fun _ _ _ _ _ => pts_nil) (fun _ _ _ _ _ => (pe_cc c_law_pick (hr.mono (by omega)) (pa_cons (pv 0) (pa_cons (pv 1) pa_nil)))))
      (pss_cons (ps_set (i := 5) nd rfl (Or.inl rfl) (pe_lst pa_nil))
      (pss_cons (ps_for PassesOwn.never rfl (pi_range1 rfl T.n_range (pa_cons (pv 1) pa_nil)) (pg_name (i := 6) nd rfl (Or.inl rfl)) (pss_cons (ps_set (i := 7) nd rfl (Or.inl rfl) (pe_lst pa_nil))
      (pss_cons (ps_for PassesOwn.never rfl (pi_range1 rfl T.n_range (pa_cons (pv 1) pa_nil)) (pg_name (i := 8) nd rfl (Or.inl rfl)) (pss_cons (ps_par (i := 9) (j := 10) (by rfl) nd rfl rfl (by decide) rfl rfl (pa_cons (pe_callB (call_min2 rfl) (by rfl) T.n_min (by decide +kernel) (pa_cons (pv 6) (pa_cons (pv 8) pa_nil))) (pa_cons (pe_callB (call_max2 rfl) (by rfl) T.n_max (by decide +kernel) (pa_cons (pv 6) (pa_cons (pv 8) pa_nil))) pa_nil)) (by rfl))
      (pss_cons (ps_set (i := 11) nd rfl (Or.inl rfl) (pe_lst (pa_cons (pe_ix (r := rIxL K) ix_list (pv 3) (pe_op op_add (pe_op op_mul (pv 9) pe_int) (pv 10)) (fun _ _ => rfl)) (pa_cons (pv 10) (pa_cons (pv 9) (pa_cons (pe_op op_mod (pe_op op_add (pv 6) (pv 8)) (pv 1)) (pa_cons (pe_callB (call_min2 rfl) (by rfl) T.n_min (by decide +kernel) (pa_cons (pe_op op_add (pv 6) (pv 8)) (pa_cons (pe_op op_sub (pv 1) pe_int) pa_nil))) (pa_cons (pe_ix (r := rIxL K) ix_list (pv 3) pe_int (fun _ _ => rfl)) (pa_cons (pe_op op_mod (pe_op op_mul (pv 6) (pv 8)) (pv 1)) pa_nil)))))))))
      (pss_one (ps_expr (pe_bm PySem.F.plainAttrs_list PySem.F.slot_list_append PySem.F.type_list_append mt_append (pv 7) (pa_cons (pe_ix (r := rIxL K) ix_list (pv 11) (pv 2) (fun _ _ => rfl)) pa_nil)))))))
      (pss_one (ps_expr (pe_bm PySem.F.plainAttrs_list PySem.F.slot_list_append PySem.F.type_list_append mt_append (pv 5) (pa_cons (pe_callTy (r := rTupOf K) call_tupOf (by rfl) T.n_tuple (by decide +kernel) (pa_cons (pv 7) pa_nil)) pa_nil)))))))
      (pss_one (ps_ret (pe_callTy (r := rTupOf K) call_tupOf (by rfl) T.n_tuple (by decide +kernel) (pa_cons (pv 5) pa_nil)))))))), ?_⟩
    walk_at "op"
    walk_at "st"
    refine fun way H1 hw0 hw7 hB1 x1 => ?_
    walk_at "st"
    refine fun L hL => ?_
    have nL := hB1.ne hL
    refine lR (fun i H2 => Bag H2 p ∧ Ext p H1 H2 ∧ ∃ fs : List Int, H2 L = some (.lst (fs.map V.int)) ∧ fs.length = i ∧ ∀ e ∈ fs, 0 ≤ e ∧ e < (m : Int)) ?_ ?_ ?_
    · exact ⟨hB1.up nL, ext_new hL, [], upd_same, rfl, fun e he => by simp at he⟩
    · rintro i H2 hi ⟨hB2, x2, fs, hLs, hl, hf⟩
      walk_at "op"
      refine ⟨rfl, ?_⟩
      walk_at "st"
      refine fun k' H3 k0 k1 hB3 x3 => ?_
      have hL3 := x3 _ _ hLs nL.symm
      refine ⟨_, hL3, by rw [List.length_map, hl]; exact small1000 (by have : Int.toNat 36 = 36 := rfl; omega), hB3.up nL, (x2.trans x3).off hL, fs ++ [k'], ?_, by simp [hl], fun e he => ?_⟩
      · rw [upd_same, List.map_append]
        rfl
      · rcases List.mem_append.mp he with he | he
        · exact hf e he
        · simp at he
          subst he
          exact ⟨k0, k1⟩
    · rintro H2 ⟨hB2, x2, fs, hLs, hl, hf⟩
      have hl36 : fs.length = 36 := hl
      clear hl
      have x02 := x1.trans x2
      let G : Nat → Nat → Int := fun a b => (ways7 fs m a b).getD way.toNat 0
      have hG : ∀ a b, G a b = G b a := fun a b => by show (ways7 fs m a b).getD _ 0 = (ways7 fs m b a).getD _ 0; rw [ways7_comm]
      have hGat : ∀ a b : Nat, (ways7 fs m a b)[way.toNat]? = some (G a b) := fun a b => by
        have hlen : way.toNat < (ways7 fs m a b).length := by show way.toNat < 7; omega
        show _ = some ((ways7 fs m a b).getD way.toNat 0)
        rw [List.getD_eq_getElem?_getD, List.getElem?_eq_getElem hlen, Option.getD_some]
      have hGb : ∀ a b, a < m → b < m → 0 ≤ G a b ∧ G a b < (m : Int) := fun a b ha hb => ways7_in hf hl36 hm6 ha hb _ (List.mem_of_getElem? (hGat a b))
      refine ⟨by show 0 ≤ sizeLine; omega, fun R hR => ?_⟩
      have nR := hB2.ne hR
      have nLR : L ≠ R := ne_of_none hLs hR
      walk_at "st"
      rw [Int.toNat_natCast]
      refine fR (fun a σ H3 => Bag H3 p ∧ Ext p H2 H3 ∧ (∃ u4 u6 u7 u8 u9 u10 u11, σ = [some (.ref p), some (.int m), some (.int way), some (.ref L), u4, some (.ref R), u6, u7, u8, u9, u10, u11]) ∧ RowsAt H3 p R m a G)
        ⟨hB2.up nR, ext_new hR, ⟨_, _, _, _, _, _, _, rfl⟩, [], upd_same, Dats.nil⟩ ?_ ?_
      · rintro a σ H3 ha ⟨hB3, x3, ⟨u4, u6, u7, u8, u9, u10, u11, rfl⟩, xs, hRs, hD⟩
        rw [Int.zero_add]
        have hL3 := x3 _ _ hLs nL.symm
        walk_at "op"
        refine ⟨by show 0 ≤ sizeLine; omega, fun W hW => ?_⟩
        have nW := hB3.ne hW
        have nLW : L ≠ W := ne_of_none hL3 hW
        have nRW : R ≠ W := ne_of_none hRs hW
        walk_at "st"
        rw [Int.toNat_natCast]
        refine fR (fun b σ H4 => Bag H4 p ∧ Ext p H3 H4 ∧ (∃ u8 u9 u10 u11, σ = [some (.ref p), some (.int m), some (.int way), some (.ref L), u4, some (.ref R), some (.int a), some (.ref W), u8, u9, u10, u11]) ∧ RowAt H4 W a b G)
          ⟨hB3.up nW, ext_new hW, ⟨_, _, _, _, rfl⟩, upd_same⟩ ?_ ?_
        · rintro b σ H4 hb ⟨hB4, x4, ⟨u8, u9, u10, u11, rfl⟩, hWs⟩
          rw [Int.zero_add]
          have hL4 := x4 _ _ hL3 nL.symm
          walk_at "op"
          walk_at "st"
          refine ⟨_, _, _, _, rfl, rfl, SqL.of hL4, atI_of (by split <;> split <;> omega) (fs_at (by rw [hl36]; split <;> split <;> omega)), ?_⟩
          walk_at "st"
          refine ⟨_, _, _, _, rfl, rfl, SqL.of hL4, atI_of (i := 0) (by decide) (fs_at (by rw [hl36]; decide)), ?_⟩
          walk_at "st"
          refine ⟨by show 7 ≤ sizeLine; decide, fun S hS => ?_⟩
          have nWS : W ≠ S := ne_of_none hWs hS
          have nS := hB4.ne hS
          walk_at "st"
          have hW5 : ∀ o, upd H4 S o W = some (.lst (((List.range b).map fun y => G a y).map V.int)) := fun o => by rw [upd_ne nWS]; exact hWs
          refine ⟨.inl ⟨rfl, _, SqL.of (hW5 _)⟩, ?_⟩
          walk_at "st"
          refine ⟨_, _, _, _, rfl, rfl, SqL.of upd_same, atI_of (v := .int (G a b)) hw0 (by show ((ways7 fs m a b).map V.int)[way.toNat]? = _; rw [List.getElem?_map, hGat]; rfl), ?_⟩
          refine ⟨_, _, _, rfl, rfl, hW5 _, by rw [List.length_map, List.length_map, List.length_range]; exact small1000 (by omega), ?_⟩
          refine ⟨(hB4.up nS).up nW, (x4.off (x4.free nS.symm hS)).off hW, ⟨_, _, _, _, rfl⟩, ?_⟩
          show _ = _
          rw [upd_same, range_snoc, List.map_append]
          rfl
        · rintro σ H4 ⟨hB4, x4, ⟨u8, u9, u10, u11, rfl⟩, hWs⟩
          have hR4 := x4 _ _ hRs nR.symm
          walk_at "op"
          walk_at "st"
          refine ⟨.inl ⟨rfl, _, SqL.of hR4⟩, ?_⟩
          walk_at "st"
          refine ⟨_, _, rfl, .inl ⟨SqL.of hWs, fun t ht => ?_⟩⟩
          have nRt : R ≠ t := ne_of_none hR4 ht
          have nt := hB4.ne ht
          refine ⟨_, _, _, rfl, rfl, (by rw [upd_ne nRt]; exact hR4), by rw [hD.1, List.length_map, List.length_range]; exact small1000 (by omega), ?_⟩
          refine ⟨(hB4.up nt).up nR, ((x3.trans x4).off ((x3.trans x4).free nt.symm ht)).off hR, ⟨_, _, _, _, _, _, _, rfl⟩, _, upd_same, ?_⟩
          rw [range_snoc]
          have hD4 : Dats (upd H4 t (.tup (((List.range m).map fun y => G a y).map V.int))) p xs _ := (hD.ext x4).ext (ext_new ht)
          refine Dats.snoc (hD4.setL (by rw [upd_ne nRt]; exact hR4) fun d hd => ?_) (Dat.setL (by rw [upd_ne nRt]; exact hR4) (Dat.new ht nt.symm ?_) (noList_ints _ _))
          · obtain ⟨x, _, rfl⟩ := List.mem_map.mp hd
            exact noList_ints _ _
          · have q := Dats.ints (H := H4) (p := p) ((List.range m).map fun y => G a y)
            rw [List.map_map (g := PyData.int)] at q
            exact q
      · rintro σ H3 ⟨hB3, x3, ⟨u4, u6, u7, u8, u9, u10, u11, rfl⟩, xs, hRs, hD⟩
        walk_at "op"
        walk_at "st"
        refine ⟨_, _, rfl, .inl ⟨SqL.of hRs, fun t ht => ?_⟩⟩
        have nt := hB3.ne ht
        exact k _ _ _ (hB3.up nt) ((x02.trans x3).trans (ext_new ht)) (Dat.new ht nt.symm hD) (tab_of hG hGb)

end
end Fm
end FQ5
section FQ6
set_option Elab.async false
set_option linter.all false
set_option maxRecDepth 100000
set_option maxHeartbeats 4000000
local macro_rules | `(tactic| walk_at "ne") => `(tactic| first | assumption | (apply Ne.symm; assumption) | exact L2.ne_of_none (by assumption) (by assumption) | exact Ne.symm (L2.ne_of_none (by assumption) (by assumption)))
local macro_rules | `(tactic| walk_at "hl") => `(tactic| first | assumption | exact L2.upd_same | (refine Eq.trans (L2.upd_ne (by walk_at "ne")) ?_; walk_at "hl"))
local macro_rules | `(tactic| walk_at "sd") => `(tactic| first | (with_reducible show (_ : Int) < _; omega) | (with_reducible show (_ : Int) ≤ _; omega) | assumption | decide | exact ⟨by assumption, by assumption⟩ | exact ⟨by decide, by decide⟩ | exact Or.inr ⟨by decide, by decide⟩ | exact Or.inl ⟨by omega, by omega⟩ | rfl)
local macro_rules | `(tactic| walk_at "st1") => `(tactic| first
  | refine ⟨_, rfl, ?_⟩
  | refine ⟨_, _, rfl, rfl, ?_⟩
  | refine ⟨_, _, rfl, ?_⟩
  | (refine ⟨_, _, _, _, rfl, rfl, L2.SqL.of (by walk_at "hl"), rfl, ?_⟩)
  | (refine ⟨_, _, _, _, rfl, rfl, L2.SqT.of (by walk_at "hl"), rfl, ?_⟩)
  | (refine ⟨_, _, _, _, rfl, rfl, (by walk_at "hl"), rfl, ?_⟩)
  | (refine And.intro (by walk_at "sd") ?_)
  )
local macro_rules | `(tactic| walk_at "st") => `(tactic| repeat walk_at "st1")
local macro_rules | `(tactic| walk_at "op") => `(tactic| try dsimp only [L2.tSeq, L2.tAsg, L2.tOp, L2.tVar, L2.tC, L2.gSub, L2.rI, L2.rI0, L2.rIxL, L2.rIxT, L2.rSetL, L2.tIfS, L2.tTest, L2.tRet, L2.gName, L2.tNext, L2.tAnd, L2.tOr, L2.tNot, L2.tAndV, L2.tOrV, L2.tNotV, L2.tB, L2.tCB, L2.tCons, L2.tNil, L2.tCall, L2.tTup, L2.tLst, L2.tChain, L2.tUn, L2.tPar, L2.tDrop, L2.tIf, L2.tBM, L2.tBM0, L2.rAppend, L2.rCat, L2.rIsi, L2.rIsiT, L2.gTup, L2.gCons, L2.gNil, Fm.tFor_eq, Fm.tLc_eq, L2.iTup, L2.iList, L2.iRng1, L2.iRng2, L2.tSl, L2.tPart, L2.tNoPart, L2.rSlL, L2.rEq, L2.rNe, L2.rU, L2.rEqD, L2.rNeD, Fm.tRevT, Fm.rLenS, Fm.rTupOf, Fm.rLstOf, L2.tDNewK, L2.tCallS, L2.WE, Fm.wKeep, Fm.rIsK, Fm.rIsKT, List.cons_append, List.nil_append, L2.tYes])
namespace Fm
open PySem PySem.Spec PyProof.Rows L2
abbrev s_law_up : Stmt := top 37
abbrev N_law_up : List Str := ["bag", "m", "stay", "way", "free", "k", "rows", "a", "row", "b", "least", "most", "some"]
theorem sc_law_up : FnScope N_law_up ["bag", "m", "stay"] (defScope s_law_up) := ⟨rfl, rfl, rfl, by decide +kernel, rfl, by decide +kernel, by decide +kernel⟩
section
variable {P : Program} {w : World} {K : PySem.W.Frag} {mg : Str → Option Value} {base : Heap}
/-- a number of rows of data -/
def cellI (rs : List PyData) (a b : Nat) : Int := match cellD rs a b with
  | .int i => i
  | _ => 0
theorem cellI_in {m : Nat} {rs : List PyData} (hl : rs.length = m) (hr : ∀ r ∈ rs, RowD m r) {a b : Nat} (ha : a < m) (hb : b < m) : 0 ≤ cellI rs a b ∧ cellI rs a b < (m : Int) := by
  have e1 : rs[a]? = some rs[a] := List.getElem?_eq_getElem (by omega)
  obtain ⟨es, he, hes, hi⟩ := hr rs[a] (List.getElem_mem _)
  have e2 : es[b]? = some es[b] := List.getElem?_eq_getElem (by omega)
  obtain ⟨i, hei, h0, h1⟩ := hi es[b] (List.getElem_mem _)
  have : cellD rs a b = .int i := by
    unfold cellD
    rw [e1, he]
    simp only [e2, hei, Option.getD_some]
  unfold cellI
  rw [this]
  exact ⟨h0, h1⟩
theorem cellI_comm {m : Nat} {rs : List PyData} (h : ∀ a b, a < m → b < m → cellD rs a b = cellD rs b a) {a b : Nat} (ha : a < m) (hb : b < m) : cellI rs a b = cellI rs b a := by
  unfold cellI
  rw [h a b ha hb]
theorem tab_of2 {m : Nat} {G : Nat → Nat → Int} (hs : ∀ a b, a < m → b < m → G a b = G b a) (hb : ∀ a b, a < m → b < m → 0 ≤ G a b ∧ G a b < (m : Int)) :
    TabD m (.tuple ((List.range m).map fun a => .tuple ((List.range m).map fun b => .int (G a b)))) := by
  refine ⟨_, rfl, by simp, fun r hr => ?_, fun a b ha hb => ?_⟩
  · obtain ⟨a, ha, rfl⟩ := List.mem_map.mp hr
    refine ⟨_, rfl, by simp, fun e he => ?_⟩
    obtain ⟨b, hb', rfl⟩ := List.mem_map.mp he
    exact ⟨_, rfl, hb a b (List.mem_range.mp ha) (List.mem_range.mp hb')⟩
  · have c : ∀ x y, x < m → y < m → cellD ((List.range m).map fun a => PyData.tuple ((List.range m).map fun b => .int (G a b))) x y = .int (G x y) := fun x y hx hy => by
      unfold cellD
      simp [hx, hy]
    rw [c a b ha hb, c b a hb ha, hs a b ha hb]
/-- the six ways of an up table's number -/
def ways6 (fs : List Int) (c m a b : Int) : List Int :=
  let lo := if b < a then b else a
  let hi := if b > a then b else a
  [fs.getD (lo * 6 + hi).toNat 0, lo, hi, (a + b) / m, fs.getD 0 0, c]
theorem ways6_comm (fs : List Int) (c m a b : Int) : ways6 fs c m a b = ways6 fs c m b a := by
  have e1 : (if b < a then b else a) = if a < b then a else b := by split <;> split <;> omega
  have e2 : (if b > a then b else a) = if a > b then a else b := by split <;> split <;> omega
  unfold ways6
  rw [e1, e2, Int.add_comm b a]
theorem ways6_in {fs : List Int} {c : Int} {m : Nat} {a b : Nat} (hf : ∀ f ∈ fs, 0 ≤ f ∧ f < (m : Int)) (hl : fs.length = 36) (hm : m ≤ 6) (ha : a < m) (hb : b < m) (hc : 0 ≤ c ∧ c < (m : Int)) : ∀ e ∈ ways6 fs c m a b, 0 ≤ e ∧ e < (m : Int) := by
  have gd : ∀ i, i < 36 → 0 ≤ fs.getD i 0 ∧ fs.getD i 0 < (m : Int) := fun i hi => by
    rw [List.getD_eq_getElem?_getD, List.getElem?_eq_getElem (show i < fs.length by omega), Option.getD_some]
    exact hf _ (List.getElem_mem _)
  intro e he
  unfold ways6 at he
  simp only [List.mem_cons, List.not_mem_nil, or_false] at he
  have m0 : (0 : Int) < m := by omega
  rcases he with rfl | rfl | rfl | rfl | rfl | rfl
  · apply gd
    split <;> split <;> omega
  · split <;> omega
  · split <;> omega
  · refine ⟨Int.ediv_nonneg (by omega) (by omega), ?_⟩
    apply Int.ediv_lt_of_lt_mul m0
    by_cases h1 : m = 1
    · subst h1
      omega
    · have : (m : Int) * m ≥ 2 * m := Int.mul_le_mul_of_nonneg_right (by omega) (by omega)
      omega
  · exact gd 0 (by omega)
  · exact hc
def spUp : Sp := fun vs H Q _ => ∃ (p : Addr) (m : Nat) (sv : V) (sd : PyData), vs = [.ref p, .int m, sv] ∧ 1 ≤ m ∧ m ≤ 6 ∧ Bag H p ∧ Dat H p sv sd ∧ TabD m sd ∧ ∀ (v : V) (d : PyData) (H' : Hp), Bag H' p → Ext p H H' → Dat H' p v d → TabD m d → Q v H'
theorem ok_law_up (D : Df K mg "_law_up" s_law_up ["bag", "m", "stay"]) (T : Nms mg) (c_law_pick : CallOk P w K mg base CX0 1 "_law_pick" ["bag", "many"] spPick) : CallOk P w K mg base CX0 2 "_law_up" ["bag", "m", "stay"] spUp := by
  refine df_ok D sc_law_up (fun vs H Q E h => ?_) (fun f cdv A outer s H vs Q E hr h => ?_)
  · obtain ⟨p, m, sv, sd, rfl, _⟩ := h
    rfl
  · obtain ⟨p, m, sv, sd, rfl, hm1, hm6, hB, hSD, hST, k⟩ := h
    obtain ⟨srs, rfl, hsl, hsr, hss⟩ := hST
    obtain ⟨sa, sx, rfl, hsa, hsp, hsD⟩ := hSD.isTup
    have nd := sc_law_up.nd
    have m0 : (0 : Int) < m := by omega
    have ml : (m : Int).natAbs.log2 < 9000 := Nat.lt_of_le_of_lt (Nat.log2_le_self _) (by omega)
    refine ⟨_, (pss_cons (ps_set (i := 3) nd rfl (Or.inl rfl) (pe_cc c_law_pick (hr.mono (by omega)) (pa_cons (pv 0) (pa_cons pe_int pa_nil))))
      (pss_cons (ps_setLc (i := 4) (own := [("k", 5)]) (g := (gName 5)) (tt := tYes) (by rfl) nd rfl rfl (sw_true rfl rfl rfl (by decide +kernel)) (pi_range1 rfl T.n_range (pa_cons pe_int pa_nil)) (blkOk_by (own := [("k", 5)]) (N := N_law_up) (sc := defScope s_law_up) (by decide +kernel)) (fun _ _ _ _ _ => (pg_name (i := 5) nd rfl (Or.inl rfl))) (fun _ _ _ _ _ => pts_nil) (fun _ _ _ _ _ => (pe_cc c_law_pick (hr.mono (by omega)) (pa_cons (pv 0) (pa_cons (pv 1) pa_nil)))))
      (pss_cons (ps_set (i := 6) nd rfl (Or.inl rfl) (pe_lst pa_nil))
      (pss_cons (ps_for PassesOwn.never rfl (pi_range1 rfl T.n_range (pa_cons (pv 1) pa_nil)) (pg_name (i := 7) nd rfl (Or.inl rfl)) (pss_cons (ps_set (i := 8) nd rfl (Or.inl rfl) (pe_lst pa_nil))
      (pss_cons (ps_for PassesOwn.never rfl (pi_range1 rfl T.n_range (pa_cons (pv 1) pa_nil)) (pg_name (i := 9) nd rfl (Or.inl rfl)) (pss_cons (ps_par (i := 10) (j := 11) (by rfl) nd rfl rfl (by decide) rfl rfl (pa_cons (pe_callB (call_min2 rfl) (by rfl) T.n_min (by decide +kernel) (pa_cons (pv 7) (pa_cons (pv 9) pa_nil))) (pa_cons (pe_callB (call_max2 rfl) (by rfl) T.n_max (by decide +kernel) (pa_cons (pv 7) (pa_cons (pv 9) pa_nil))) pa_nil)) (by rfl))
      (pss_cons (ps_set (i := 12) nd rfl (Or.inl rfl) (pe_lst (pa_cons (pe_ix (r := rIxL K) ix_list (pv 4) (pe_op op_add (pe_op op_mul (pv 10) pe_int) (pv 11)) (fun _ _ => rfl)) (pa_cons (pv 10) (pa_cons (pv 11) (pa_cons (pe_op op_fdivW (pe_op op_add (pv 7) (pv 9)) (pv 1)) (pa_cons (pe_ix (r := rIxL K) ix_list (pv 4) pe_int (fun _ _ => rfl)) (pa_cons (pe_ix (r := rIxT K) ix_tup (pe_ix (r := rIxT K) ix_tup (pv 2) (pv 7) (fun _ _ => rfl)) (pv 9) (fun _ _ => rfl)) pa_nil))))))))
      (pss_one (ps_expr (pe_bm PySem.F.plainAttrs_list PySem.F.slot_list_append PySem.F.type_list_append mt_append (pv 8) (pa_cons (pe_ix (r := rIxL K) ix_list (pv 12) (pv 3) (fun _ _ => rfl)) pa_nil)))))))
      (pss_one (ps_expr (pe_bm PySem.F.plainAttrs_list PySem.F.slot_list_append PySem.F.type_list_append mt_append (pv 6) (pa_cons (pe_callTy (r := rTupOf K) call_tupOf (by rfl) T.n_tuple (by decide +kernel) (pa_cons (pv 8) pa_nil)) pa_nil)))))))
      (pss_one (ps_ret (pe_callTy (r := rTupOf K) call_tupOf (by rfl) T.n_tuple (by decide +kernel) (pa_cons (pv 6) pa_nil)))))))), ?_⟩
    walk_at "op"
    walk_at "st"
    refine fun way H1 hw0 hw7 hB1 x1 => ?_
    walk_at "st"
    refine fun L hL => ?_
    have nL := hB1.ne hL
    refine lR (fun i H2 => Bag H2 p ∧ Ext p H1 H2 ∧ ∃ fs : List Int, H2 L = some (.lst (fs.map V.int)) ∧ fs.length = i ∧ ∀ e ∈ fs, 0 ≤ e ∧ e < (m : Int)) ?_ ?_ ?_
    · exact ⟨hB1.up nL, ext_new hL, [], upd_same, rfl, fun e he => by simp at he⟩
    · rintro i H2 hi ⟨hB2, x2, fs, hLs, hl, hf⟩
      walk_at "op"
      refine ⟨rfl, ?_⟩
      walk_at "st"
      refine fun k' H3 k0 k1 hB3 x3 => ?_
      have hL3 := x3 _ _ hLs nL.symm
      refine ⟨_, hL3, by rw [List.length_map, hl]; exact small1000 (by have : Int.toNat 36 = 36 := rfl; omega), hB3.up nL, (x2.trans x3).off hL, fs ++ [k'], ?_, by simp [hl], fun e he => ?_⟩
      · rw [upd_same, List.map_append]
        rfl
      · rcases List.mem_append.mp he with he | he
        · exact hf e he
        · simp at he
          subst he
          exact ⟨k0, k1⟩
    · rintro H2 ⟨hB2, x2, fs, hLs, hl, hf⟩
      have hl36 : fs.length = 36 := hl
      clear hl
      have x02 := x1.trans x2
      let G : Nat → Nat → Int := fun a b => (ways6 fs (cellI srs a b) m a b).getD way.toNat 0
      have hG : ∀ a b, a < m → b < m → G a b = G b a := fun a b ha hb => by show (ways6 fs (cellI srs a b) m a b).getD _ 0 = (ways6 fs (cellI srs b a) m b a).getD _ 0; rw [ways6_comm, cellI_comm hss ha hb]
      have hGat : ∀ a b : Nat, (ways6 fs (cellI srs a b) m a b)[way.toNat]? = some (G a b) := fun a b => by
        have hlen : way.toNat < (ways6 fs (cellI srs a b) m a b).length := by show way.toNat < 6; omega
        show _ = some ((ways6 fs (cellI srs a b) m a b).getD way.toNat 0)
        rw [List.getD_eq_getElem?_getD, List.getElem?_eq_getElem hlen, Option.getD_some]
      have hGb : ∀ a b, a < m → b < m → 0 ≤ G a b ∧ G a b < (m : Int) := fun a b ha hb => ways6_in hf hl36 hm6 ha hb (cellI_in hsl hsr ha hb) _ (List.mem_of_getElem? (hGat a b))
      refine ⟨by show 0 ≤ sizeLine; omega, fun R hR => ?_⟩
      have nR := hB2.ne hR
      have nLR : L ≠ R := ne_of_none hLs hR
      walk_at "st"
      rw [Int.toNat_natCast]
      refine fR (fun a σ H3 => Bag H3 p ∧ Ext p H2 H3 ∧ (∃ u4 u6 u7 u8 u9 u10 u11, σ = [some (.ref p), some (.int m), some (.ref sa), some (.int way), some (.ref L), u4, some (.ref R), u6, u7, u8, u9, u10, u11]) ∧ RowsAt H3 p R m a G)
        ⟨hB2.up nR, ext_new hR, ⟨_, _, _, _, _, _, _, rfl⟩, [], upd_same, Dats.nil⟩ ?_ ?_
      · rintro a σ H3 ha ⟨hB3, x3, ⟨u4, u6, u7, u8, u9, u10, u11, rfl⟩, xs, hRs, hD⟩
        rw [Int.zero_add]
        have hL3 := x3 _ _ hLs nL.symm
        walk_at "op"
        refine ⟨by show 0 ≤ sizeLine; omega, fun W hW => ?_⟩
        have nW := hB3.ne hW
        have nLW : L ≠ W := ne_of_none hL3 hW
        have nRW : R ≠ W := ne_of_none hRs hW
        walk_at "st"
        rw [Int.toNat_natCast]
        refine fR (fun b σ H4 => Bag H4 p ∧ Ext p H3 H4 ∧ (∃ u8 u9 u10 u11, σ = [some (.ref p), some (.int m), some (.ref sa), some (.int way), some (.ref L), u4, some (.ref R), some (.int a), some (.ref W), u8, u9, u10, u11]) ∧ RowAt H4 W a b G)
          ⟨hB3.up nW, ext_new hW, ⟨_, _, _, _, rfl⟩, upd_same⟩ ?_ ?_
        · rintro b σ H4 hb ⟨hB4, x4, ⟨u8, u9, u10, u11, rfl⟩, hWs⟩
          rw [Int.zero_add]
          have hL4 := x4 _ _ hL3 nL.symm
          walk_at "op"
          walk_at "st"
          refine ⟨_, _, _, _, rfl, rfl, SqL.of hL4, atI_of (by split <;> split <;> omega) (fs_at (by rw [hl36]; split <;> split <;> omega)), ?_⟩
          walk_at "st"
          refine ⟨_, _, _, _, rfl, rfl, SqL.of hL4, atI_of (i := 0) (by decide) (fs_at (by rw [hl36]; decide)), ?_⟩
          walk_at "st"
          have hsa4 := x4 _ _ (x3 _ _ (x2 _ _ (x1 _ _ hsa hsp) hsp) hsp) hsp
          obtain ⟨ra, ys, ci, a1, a2, a3, a4, _⟩ := cell_at ((((hsD.ext x1).ext x2).ext x3).ext x4) hsl hsr (a := a) (b := b) (by omega) (by omega)
          have hci : ci = cellI srs a b := by unfold cellI; rw [a4]
          subst hci
          refine ⟨_, _, _, _, rfl, rfl, SqT.of hsa4, atI_nat a1, ?_⟩
          walk_at "st"
          refine ⟨_, _, _, _, rfl, rfl, SqT.of a2, atI_nat a3, ?_⟩
          refine ⟨by show 6 ≤ sizeLine; decide, fun S hS => ?_⟩
          have nWS : W ≠ S := ne_of_none hWs hS
          have nS := hB4.ne hS
          walk_at "st"
          have hW5 : ∀ o, upd H4 S o W = some (.lst (((List.range b).map fun y => G a y).map V.int)) := fun o => by rw [upd_ne nWS]; exact hWs
          refine ⟨.inl ⟨rfl, _, SqL.of (hW5 _)⟩, ?_⟩
          walk_at "st"
          refine ⟨_, _, _, _, rfl, rfl, SqL.of upd_same, atI_of (v := .int (G a b)) hw0 (by show ((ways6 fs (cellI srs a b) m a b).map V.int)[way.toNat]? = _; rw [List.getElem?_map, hGat]; rfl), ?_⟩
          refine ⟨_, _, _, rfl, rfl, hW5 _, by rw [List.length_map, List.length_map, List.length_range]; exact small1000 (by omega), ?_⟩
          refine ⟨(hB4.up nS).up nW, (x4.off (x4.free nS.symm hS)).off hW, ⟨_, _, _, _, rfl⟩, ?_⟩
          show _ = _
          rw [upd_same, range_snoc, List.map_append]
          rfl
        · rintro σ H4 ⟨hB4, x4, ⟨u8, u9, u10, u11, rfl⟩, hWs⟩
          have hR4 := x4 _ _ hRs nR.symm
          walk_at "op"
          walk_at "st"
          refine ⟨.inl ⟨rfl, _, SqL.of hR4⟩, ?_⟩
          walk_at "st"
          refine ⟨_, _, rfl, .inl ⟨SqL.of hWs, fun t ht => ?_⟩⟩
          have nRt : R ≠ t := ne_of_none hR4 ht
          have nt := hB4.ne ht
          refine ⟨_, _, _, rfl, rfl, (by rw [upd_ne nRt]; exact hR4), by rw [hD.1, List.length_map, List.length_range]; exact small1000 (by omega), ?_⟩
          refine ⟨(hB4.up nt).up nR, ((x3.trans x4).off ((x3.trans x4).free nt.symm ht)).off hR, ⟨_, _, _, _, _, _, _, rfl⟩, _, upd_same, ?_⟩
          rw [range_snoc]
          have hD4 : Dats (upd H4 t (.tup (((List.range m).map fun y => G a y).map V.int))) p xs _ := (hD.ext x4).ext (ext_new ht)
          refine Dats.snoc (hD4.setL (by rw [upd_ne nRt]; exact hR4) fun d hd => ?_) (Dat.setL (by rw [upd_ne nRt]; exact hR4) (Dat.new ht nt.symm ?_) (noList_ints _ _))
          · obtain ⟨x, _, rfl⟩ := List.mem_map.mp hd
            exact noList_ints _ _
          · have q := Dats.ints (H := H4) (p := p) ((List.range m).map fun y => G a y)
            rw [List.map_map (g := PyData.int)] at q
            exact q
      · rintro σ H3 ⟨hB3, x3, ⟨u4, u6, u7, u8, u9, u10, u11, rfl⟩, xs, hRs, hD⟩
        walk_at "op"
        walk_at "st"
        refine ⟨_, _, rfl, .inl ⟨SqL.of hRs, fun t ht => ?_⟩⟩
        have nt := hB3.ne ht
        exact k _ _ _ (hB3.up nt) ((x02.trans x3).trans (ext_new ht)) (Dat.new ht nt.symm hD) (tab_of2 hG hGb)

end
end Fm
end FQ6
section FQ7
set_option Elab.async false
set_option linter.all false
set_option maxRecDepth 100000
set_option maxHeartbeats 4000000
local macro_rules | `(tactic| walk_at "ne") => `(tactic| first | assumption | (apply Ne.symm; assumption) | exact L2.ne_of_none (by assumption) (by assumption) | exact Ne.symm (L2.ne_of_none (by assumption) (by assumption)))
local macro_rules | `(tactic| walk_at "hl") => `(tactic| first | assumption | exact L2.upd_same | (refine Eq.trans (L2.upd_ne (by walk_at "ne")) ?_; walk_at "hl"))
local macro_rules | `(tactic| walk_at "sd") => `(tactic| first | (with_reducible show (_ : Int) < _; omega) | (with_reducible show (_ : Int) ≤ _; omega) | assumption | decide | exact ⟨by assumption, by assumption⟩ | exact ⟨by decide, by decide⟩ | exact Or.inr ⟨by decide, by decide⟩ | exact Or.inl ⟨by omega, by omega⟩ | rfl)
local macro_rules | `(tactic| walk_at "st1") => `(tactic| first
  | refine ⟨_, rfl, ?_⟩
  | refine ⟨_, _, rfl, rfl, ?_⟩
  | refine ⟨_, _, rfl, ?_⟩
  | (refine ⟨_, _, _, _, rfl, rfl, L2.SqL.of (by walk_at "hl"), rfl, ?_⟩)
  | (refine ⟨_, _, _, _, rfl, rfl, L2.SqT.of (by walk_at "hl"), rfl, ?_⟩)
  | (refine ⟨_, _, _, _, rfl, rfl, (by walk_at "hl"), rfl, ?_⟩)
  | (refine And.intro (by walk_at "sd") ?_)
  )
local macro_rules | `(tactic| walk_at "st") => `(tactic| repeat walk_at "st1")
local macro_rules | `(tactic| walk_at "op") => `(tactic| try dsimp only [L2.tSeq, L2.tAsg, L2.tOp, L2.tVar, L2.tC, L2.gSub, L2.rI, L2.rI0, L2.rIxL, L2.rIxT, L2.rSetL, L2.tIfS, L2.tTest, L2.tRet, L2.gName, L2.tNext, L2.tAnd, L2.tOr, L2.tNot, L2.tAndV, L2.tOrV, L2.tNotV, L2.tB, L2.tCB, L2.tCons, L2.tNil, L2.tCall, L2.tTup, L2.tLst, L2.tChain, L2.tUn, L2.tPar, L2.tDrop, L2.tIf, L2.tBM, L2.tBM0, L2.rAppend, L2.rCat, L2.rIsi, L2.rIsiT, L2.gTup, L2.gCons, L2.gNil, Fm.tFor_eq, Fm.tLc_eq, L2.iTup, L2.iList, L2.iRng1, L2.iRng2, L2.tSl, L2.tPart, L2.tNoPart, L2.rSlL, L2.rEq, L2.rNe, L2.rU, L2.rEqD, L2.rNeD, Fm.tRevT, Fm.rLenS, Fm.rTupOf, Fm.rLstOf, L2.tDNewK, L2.tCallS, L2.WE, Fm.wKeep, Fm.rIsK, Fm.rIsKT, List.cons_append, List.nil_append, L2.tYes])
namespace Fm
open PySem PySem.Spec PyProof.Rows L2
abbrev s_law_house : Stmt := top 38
abbrev N_law_house : List Str := ["bag", "m", "floors", "found", "k", "stay"]
theorem sc_law_house : FnScope N_law_house ["bag"] (defScope s_law_house) := ⟨rfl, rfl, rfl, by decide +kernel, rfl, by decide +kernel, by decide +kernel⟩
section
variable {P : Program} {w : World} {K : PySem.W.Frag} {mg : Str → Option Value} {base : Heap}
theorem row_fit {m : Nat} {d : PyData} (hm : m ≤ 6) (h : RowD m d) : Fit 300 1 d ∧ noList d = true ∧ d.hasDict = false := by
  obtain ⟨ds, rfl, hl, hd⟩ := h
  have h1 : ∀ e ∈ ds, Fit 41 0 e := fun e he => by
    obtain ⟨i, rfl, h0, hi⟩ := hd e he
    refine fit_int ?_
    have : i.natAbs < 10 := by omega
    exact Nat.lt_of_lt_of_le this (by decide)
  have h2 : ∀ e ∈ ds, noList e = true := fun e he => by
    obtain ⟨i, rfl, _⟩ := hd e he
    unfold noList
    rfl
  have h3 : ∀ e ∈ ds, e.hasDict = false := fun e he => by
    obtain ⟨i, rfl, _⟩ := hd e he
    simp only [PyData.hasDict]
  exact ⟨(fit_tup h1 h2).mono (by rw [hl]; omega) (by omega), noList_of h2, by simp only [PyData.hasDict]; exact hasDict_all h3⟩
theorem tab_fit {m : Nat} {d : PyData} (hm : m ≤ 6) (h : TabD m d) : Fit 2000 2 d ∧ noList d = true ∧ d.hasDict = false := by
  obtain ⟨ds, rfl, hl, hd, _⟩ := h
  have h1 := fun e he => row_fit hm (hd e he)
  exact ⟨(fit_tup (fun e he => (h1 e he).1) fun e he => (h1 e he).2.1).mono (by rw [hl]; omega) (by omega), noList_of fun e he => (h1 e he).2.1, by simp only [PyData.hasDict]; exact hasDict_all fun e he => (h1 e he).2.2⟩
theorem floor_fit {m : Nat} {d : PyData} (hm : m ≤ 6) (h : FloorD m d) : Fit 5000 3 d ∧ noList d = true ∧ d.hasDict = false := by
  obtain ⟨s, u, rfl, hs, hu⟩ := h
  have h1 : ∀ e ∈ [s, u], Fit 2000 2 e ∧ noList e = true ∧ e.hasDict = false := fun e he => by
    simp only [List.mem_cons, List.not_mem_nil, or_false] at he
    rcases he with rfl | rfl
    · exact tab_fit hm hs
    · exact tab_fit hm hu
  exact ⟨(fit_tup (fun e he => (h1 e he).1) fun e he => (h1 e he).2.1).mono (by show _ * 2 + 3 ≤ _; omega) (by omega), noList_of fun e he => (h1 e he).2.1, by simp only [PyData.hasDict]; exact hasDict_all fun e he => (h1 e he).2.2⟩
theorem house_fit {m n : Nat} {d : PyData} (h : HouseN m n d) : Fit 30000 4 d ∧ noList d = true ∧ d.hasDict = false := by
  obtain ⟨ds, rfl, hl, h1, h4, _, hm, hd⟩ := h
  have h1 := fun e he => floor_fit hm (hd e he)
  exact ⟨(fit_tup (fun e he => (h1 e he).1) fun e he => (h1 e he).2.1).mono (by rw [hl]; omega) (by omega), noList_of fun e he => (h1 e he).2.1, by simp only [PyData.hasDict]; exact hasDict_all fun e he => (h1 e he).2.2⟩
def spMkHouse : Sp := fun vs H Q _ => ∃ p : Addr, vs = [.ref p] ∧ Bag H p ∧ ∀ (v : V) (d : PyData) (m n : Nat) (H' : Hp), Bag H' p → Ext p H H' → Dat H' p v d → HouseN m n d → Q v H'
theorem ok_law_house (D : Df K mg "_law_house" s_law_house ["bag"]) (T : Nms mg) (c_law_pick : CallOk P w K mg base CX0 1 "_law_pick" ["bag", "many"] spPick) (c_law_table : CallOk P w K mg base CX0 2 "_law_table" ["bag", "m"] spTab)
    (c_law_up : CallOk P w K mg base CX0 2 "_law_up" ["bag", "m", "stay"] spUp) : CallOk P w K mg base CX0 3 "_law_house" ["bag"] spMkHouse := by
  refine df_ok D sc_law_house (fun vs H Q E h => ?_) (fun f cdv A outer s H vs Q E hr h => ?_)
  · obtain ⟨p, rfl, _⟩ := h
    rfl
  · obtain ⟨p, rfl, hB, k⟩ := h
    have nd := sc_law_house.nd
    refine ⟨_, (pss_cons (ps_par (i := 1) (j := 2) (by rfl) nd rfl rfl (by decide) rfl rfl (pa_cons (pe_op op_add pe_int (pe_cc c_law_pick (hr.mono (by omega)) (pa_cons (pv 0) (pa_cons (pe_ix (r := rIxL K) ix_list (pe_lst (pa_cons pe_int (pa_cons pe_int pa_nil))) (pe_cc c_law_pick (hr.mono (by omega)) (pa_cons (pv 0) (pa_cons pe_int pa_nil))) (fun _ _ => rfl)) pa_nil)))) (pa_cons (pe_op op_add pe_int (pe_cc c_law_pick (hr.mono (by omega)) (pa_cons (pv 0) (pa_cons pe_int pa_nil)))) pa_nil)) (by rfl))
      (pss_cons (ps_set (i := 3) nd rfl (Or.inl rfl) (pe_lst pa_nil))
      (pss_cons (ps_for PassesOwn.never rfl (pi_range1 rfl T.n_range (pa_cons (pv 2) pa_nil)) (pg_name (i := 4) nd rfl (Or.inl rfl)) (pss_cons (ps_set (i := 5) nd rfl (Or.inl rfl) (pe_cc c_law_table (hr.mono (by omega)) (pa_cons (pv 0) (pa_cons (pv 1) pa_nil))))
      (pss_one (ps_expr (pe_bm PySem.F.plainAttrs_list PySem.F.slot_list_append PySem.F.type_list_append mt_append (pv 3) (pa_cons (pe_tup (pa_cons (pv 5) (pa_cons (pe_cc c_law_up (hr.mono (by omega)) (pa_cons (pv 0) (pa_cons (pv 1) (pa_cons (pv 5) pa_nil)))) pa_nil))) pa_nil))))))
      (pss_one (ps_ret (pe_callTy (r := rTupOf K) call_tupOf (by rfl) T.n_tuple (by decide +kernel) (pa_cons (pv 3) pa_nil))))))), ?_⟩
    walk_at "op"
    walk_at "st"
    refine fun q0 hq0 => ?_
    have hB0 := hB.up (o := .lst [.int 3, .int 6]) (hB.ne hq0)
    have n0 := hB.ne hq0
    walk_at "st"
    refine fun k0 H1 k00 k02 hB1 x1 => ?_
    obtain ⟨c, hc, c1, c6⟩ : ∃ c : Int, atI [V.int 3, V.int 6] k0 = some (.int c) ∧ 1 ≤ c ∧ c ≤ 6 := by
      rcases (show k0 = 0 ∨ k0 = 1 by omega) with rfl | rfl
      · exact ⟨3, rfl, by decide, by decide⟩
      · exact ⟨6, rfl, by decide, by decide⟩
    have hq1 := x1 _ _ (upd_same (H := H) (a := q0)) n0.symm
    have cl : c.natAbs.log2 < 9000 := Nat.lt_of_le_of_lt (Nat.log2_le_self _) (by omega)
    refine ⟨_, _, _, _, rfl, rfl, SqL.of hq1, hc, ?_⟩
    walk_at "st"
    refine fun m1 H2 m10 m11 hB2 x2 => ?_
    walk_at "st"
    refine fun n1 H3 n10 n11 hB3 x3 => ?_
    obtain ⟨m, hm⟩ : ∃ m : Nat, (m : Int) = 1 + m1 := ⟨(1 + m1).toNat, by omega⟩
    obtain ⟨n, hn⟩ : ∃ n : Nat, (n : Int) = 1 + n1 := ⟨(1 + n1).toNat, by omega⟩
    have hm6 : m ≤ 6 := by omega
    have hm1 : 1 ≤ m := by omega
    have hn4 : n ≤ 4 := by omega
    have x03 : Ext p H H3 := (((ext_new hq0).trans x1).trans x2).trans x3
    walk_at "st"
    rw [← hm, ← hn]
    refine fun R hR => ?_
    have nR := hB3.ne hR
    walk_at "st"
    rw [Int.toNat_natCast]
    refine fR (fun i σ H4 => Bag H4 p ∧ Ext p H3 H4 ∧ (∃ u4 u5, σ = [some (.ref p), some (.int m), some (.int n), some (.ref R), u4, u5]) ∧ ∃ xs ds, H4 R = some (.lst xs) ∧ Dats H4 p xs ds ∧ ds.length = i ∧ ∀ e ∈ ds, FloorD m e)
      ⟨hB3.up nR, ext_new hR, ⟨_, _, rfl⟩, [], [], upd_same, Dats.nil, rfl, fun e he => by simp at he⟩ ?_ ?_
    · rintro i σ H4 hi ⟨hB4, x4, ⟨u4, u5, rfl⟩, xs, ds, hRs, hD, hl, hf⟩
      walk_at "op"
      walk_at "st"
      refine fun sv sd H5 hB5 x5 hsd hst => ?_
      have hR5 := x5 _ _ hRs nR.symm
      walk_at "st"
      refine ⟨.inl ⟨rfl, _, SqL.of hR5⟩, ?_⟩
      walk_at "st"
      refine ⟨p, m, sv, sd, rfl, hm1, hm6, hB5, hsd, hst, fun uv ud H6 hB6 x6 hud hut => ?_⟩
      have hR6 := x6 _ _ hR5 nR.symm
      refine ⟨by show 2 ≤ sizeLine; decide, fun t ht => ?_⟩
      have nt := hB6.ne ht
      have nRt : R ≠ t := ne_of_none hR6 ht
      have x36 := (x4.trans x5).trans x6
      refine ⟨_, _, _, rfl, rfl, (by rw [upd_ne nRt]; exact hR6), by rw [hD.1, hl]; exact small1000 (by omega), ?_⟩
      have hD6 : Dats (upd H6 t (.tup [sv, uv])) p xs ds := ((hD.ext x5).ext x6).ext (ext_new ht)
      have hN : Dat (upd H6 t (.tup [sv, uv])) p (.ref t) (.tuple [sd, ud]) := Dat.new ht nt.symm (Dats.cons (hsd.ext x6) (Dats.cons hud Dats.nil))
      have hFN : FloorD m (.tuple [sd, ud]) := ⟨sd, ud, rfl, hst, hut⟩
      refine ⟨(hB6.up nt).up nR, (x36.off (x36.free nt.symm ht)).off hR, ⟨_, _, rfl⟩, _, _, upd_same, Dats.snoc (hD6.setL (by rw [upd_ne nRt]; exact hR6) fun e he => (floor_fit hm6 (hf e he)).2.1) (hN.setL (by rw [upd_ne nRt]; exact hR6) (floor_fit hm6 hFN).2.1), by simp [hl], fun e he => ?_⟩
      rcases List.mem_append.mp he with he | he
      · exact hf e he
      · simp at he
        subst he
        exact hFN
    · rintro σ H4 ⟨hB4, x4, ⟨u4, u5, rfl⟩, xs, ds, hRs, hD, hl, hf⟩
      walk_at "op"
      walk_at "st"
      refine ⟨_, _, rfl, .inl ⟨SqL.of hRs, fun t ht => ?_⟩⟩
      have nt := hB4.ne ht
      exact k _ _ m n _ (hB4.up nt) ((x03.trans x4).trans (ext_new ht)) (Dat.new ht nt.symm hD) ⟨ds, rfl, hl, by omega, hn4, hm1, hm6, hf⟩

end
end Fm
end FQ7
section FFmMore
set_option Elab.async false
set_option linter.all false
set_option maxRecDepth 100000
set_option maxHeartbeats 4000000
namespace Fm
open PySem PySem.Spec PyProof.Rows L2
/-- the sum of a tuple's ints -/
def rSumT (K : PySem.W.Frag) : List V → Hp → VK → Prop := fun vs H Q => ∃ (a : Addr) (ns : List Int), vs = [V.ref a] ∧ SqT K H a (ns.map V.int) ∧ Q (.int ns.sum) H
theorem cr_sumT {X : Cx} (hc : X.calm = true) : CallR X (.builtin "sum") (rSumT X.K) := by
  intro pins s σ H vs us Q I r h
  obtain ⟨a, ns, rfl, hs, q⟩ := h
  obtain ⟨its, rv, ⟨o, ho, hcl, n, hd⟩, _⟩ := I.tuple hs
  obtain rfl := Vals.ref1 r
  have hi := rv.ints
  obtain ⟨xs, e⟩ := hi.allInts.items
  have hn : numsOf (PySem.intItems xs).toList = ns := by rw [← e]; exact hi.numsOf
  rw [nums_intItems] at hn
  rw [e] at hd
  refine PySem.W.ktm_sumG (I.ok.hd hc) ⟨o, ho, hcl, n, hd⟩ fun h' tk t' hk => ?_
  rw [preSum_eq, List.take_of_length_le (by simp), hn]
  exact ⟨.int _, H, I.kept hk, ⟨_, rfl⟩, q⟩
def rSumI (K : PySem.W.Frag) : List V → Hp → VK → Prop := fun vs H Q => rSum K vs H Q ∨ rSumT K vs H Q
theorem cr_sumI {X : Cx} (hc : X.calm = true) : CallR X (.builtin "sum") (rSumI X.K) := (cr_sum hc).or (cr_sumT hc)
/-- xs[i], read by xs[i] += e -/
def rGetL (K : PySem.W.Frag) : V → V → Hp → VK → Prop := fun x y H Q => ∃ (p : Addr) (xs : List V) (i : Nat) (v : V), x = .ref p ∧ y = .int i ∧ SqL K H p xs ∧ xs[i]? = some v ∧ Q v H
theorem get_list {X : Cx} : PGet X (rGetL X.K) := by
  intro pins s σ H o i ov iv Q I ro ri h
  obtain ⟨p, xs, i, z, rfl, rfl, hq, he, q⟩ := h
  cases ro
  obtain ⟨t, rfl⟩ := ri
  obtain ⟨its, r, pl, hz⟩ := I.list hq
  obtain ⟨u, eu, ru⟩ := r.get he
  have hi : i < xs.length := (List.getElem?_eq_some_iff.mp he).1
  have hn := line63
  refine wpAny_getItem_list pl.isList (by omega) (by omega) (x := u) (by simpa using eu) ?_
  exact ⟨z, H, I, ru, q⟩
/-- a tuple at a, its items counted -/
def IteT (K : PySem.W.Frag) (a : Addr) : It where
  go := fun i H => ∃ (xs : List V) (x : V), SqT K H a xs ∧ xs[i]? = some x
  yld := fun i H v H' => ∃ T x, v = .ref T ∧ H T = none ∧ H' = upd H T (.tup [.int (i : Nat), x]) ∧ ∀ xs, SqT K H a xs → xs[i]? = some x
  stop := fun i H => ∃ xs : List V, SqT K H a xs ∧ xs.length ≤ i
end Fm
end FFmMore
section FFmMore2
set_option Elab.async false
set_option linter.all false
set_option maxRecDepth 100000
set_option maxHeartbeats 4000000
namespace Fm
open PySem PySem.Spec PyProof.Rows L2
/-- the enumerate object e over the tuple at a, its iterator at it, i turns on -/
def EnT (a e it : Addr) (its : Array Value) (i : Nat) (h : Heap) : Prop := (∃ old, IsEnum h e it ((i : Nat) : Int) old) ∧ (h.IsTupleIter it a i ∧ h.IsTuple a its) ∧ e ≠ it ∧ a ≠ it ∧ e ≠ a
theorem turn_enumT {P : Program} {w : World} {K : PySem.W.Frag} {elts : List Expr} {kk : Nat} {tpos : Pos} (a e it : Addr) (hei : e ≠ it) (hai : a ≠ it) (hea : e ≠ a) :
    Turn P w K (.Tuple elts kk tpos) (IteT K a) [e, it] e (fun i h => (∃ old, IsEnum h e it ((i : Nat) : Int) old) ∧ h.IsTupleIter it a i) where
  mem := List.mem_cons_self
  obj := fun i h st b hb => by
    obtain ⟨⟨old, he⟩, o, ho, _, hd⟩ := st
    rcases List.mem_cons.mp hb with z | z
    · subst z
      exact ⟨_, he, fun v q => nomatch q⟩
    · obtain rfl := List.mem_singleton.mp z
      exact ⟨o, ho, fun v q => by rw [hd] at q; cases q⟩
  keep := fun i h h' st k => by
    obtain ⟨⟨old, he⟩, hi⟩ := st
    exact ⟨⟨old, k e List.mem_cons_self _ he⟩, hi.at fun o q => k it (List.mem_cons_of_mem _ List.mem_cons_self) o q⟩
  item := by
    intro X hP hw hK hc i pins s σ H E I hf st hg
    subst hP hw hK
    obtain ⟨⟨old, he⟩, hit⟩ := st
    obtain ⟨xs, x, hq, hx⟩ := hg
    obtain ⟨its, rv, ⟨o, ho, hoc, no, hod⟩, hz⟩ := I.tuple hq
    have ht : s.heap.IsTuple a its.toArray := ⟨o, ho, hoc, no, hod⟩
    obtain ⟨u, hu, ru⟩ := rv.get hx
    have hlt : i < its.toArray.size := by
      rw [List.size_toArray, ← rv.length]
      exact (List.getElem?_eq_some_iff.mp hx).1
    have hel : e < s.heap.objs.size := Heap.lt_size he
    have hil : it < s.heap.objs.size := by
      obtain ⟨_, q, _⟩ := hit
      exact Heap.lt_size q
    have hef : e ∉ [it, a] := by
      intro z
      rcases List.mem_cons.mp z with z | z
      · exact hei z
      · exact hea (List.mem_singleton.mp z)
    refine wpAny_pyNext_enum_itemD (Draws.tuple (prog := X.prog) (w := X.w) (A := X.A.in1) (show X.A.in1.handled = none from I.ok.hd hc) it a hai its.toArray) he ⟨hit, ht⟩ hlt hei hef fun y h' tk hy ho' st' hT hsz hk => ?_
    have ey : y = u := by
      have q : its.toArray[i]? = some u := by simpa using hu
      rw [q] at hy
      exact (Option.some.inj hy).symm
    subst ey
    refine ⟨_, rfl, wpAny_letOwnedTupleGo_enum (s := { s with heap := h', toks := tk + 1 }) ho' fun h2 he2 sb => ?_⟩
    have hT2 : h2.get? s.heap.objs.size = some { cls := .type "tuple", data := .seq #[.int i tk, y] } := (sb.2 _ (Nat.ne_of_gt hel)).trans hT
    have new : ObjOk X.prog X.w (upd H s.heap.objs.size (.tup [.int (i : Nat), x])) h2 s.heap.objs.size (.tup [.int (i : Nat), x]) := by
      refine ⟨by show 2 ≤ sizeLine; decide, [.int i tk, y], .cons ⟨_, rfl⟩ (.cons ru .nil), _, hT2, rfl, _, rfl⟩
    have old2 : ∀ b ob, b ∉ [e, it] → s.heap.get? b = some ob → h2.get? b = some ob := fun b ob hb q => by
      have n1 : b ≠ e := fun z => hb (z ▸ List.mem_cons_self)
      have n2 : b ≠ it := fun z => hb (z ▸ List.mem_cons_of_mem _ List.mem_cons_self)
      exact (sb.2 b n1).trans (hk b ob n1 n2 q)
    have I1 := I.turnedNew (t' := tk + 1) (ch := [e, it]) old2 hf (Nat.le_refl _) new
    refine ⟨.ref s.heap.objs.size, _, I1, rfl, ⟨_, x, rfl, I.hok.fresh (Nat.le_refl _), rfl, fun ys hy => ?_⟩, ⟨⟨y, ?_⟩, ?_⟩, fun b hb => ?_⟩
    · rw [I.tuple_inj hy hq]
      exact hx
    · have e1 : ((i + 1 : Nat) : Int) = (i : Int) + 1 := by omega
      rw [e1]
      exact he2
    · exact st'.1.at fun ob q => (sb.2 it (Ne.symm hei)).trans q
    · have hb' : b < s.heap.objs.size := by
        rcases List.mem_cons.mp hb with z | z
        · rw [z]; exact hel
        · rw [List.mem_singleton.mp z]; exact hil
      rw [upd_ne (Nat.ne_of_lt hb')]
      exact (hf b hb).1
  done := by
    intro X hP hw hK hc i pins s σ H E I hf st hg
    subst hP hw hK
    obtain ⟨⟨old, he⟩, hit⟩ := st
    obtain ⟨xs, hq, hx⟩ := hg
    obtain ⟨its, rv, ⟨o, ho, hoc, no, hod⟩, hz⟩ := I.tuple hq
    have ht : s.heap.IsTuple a its.toArray := ⟨o, ho, hoc, no, hod⟩
    obtain ⟨f0, f1, f2, f3, f4, f5⟩ := hf it (List.mem_cons_of_mem _ List.mem_cons_self)
    have hl : its.toArray.size ≤ i := by
      rw [List.size_toArray, ← rv.length]
      exact hx
    have D : Draws X.prog X.w X.A.in1 it [it, a] i (fun _ _ => False) (fun j h => j = i ∧ h.IsTupleIter it a i ∧ h.IsTuple a its.toArray) := {
      live := fun _ _ st => by
        obtain ⟨o, ho, _⟩ := st.2.1
        exact ⟨o, ho⟩
      frame := fun j h h' st hk => ⟨st.1, st.2.1.at fun o e => hk it List.mem_cons_self o e, st.2.2.at fun o e => hk a (List.mem_cons_of_mem _ List.mem_cons_self) o e⟩
      item := fun j s Q E hj st hQ => absurd st.1 (Nat.ne_of_lt hj)
      done := fun s Q E st hE => wpAny_nextOf_tuple_end (show X.A.in1.handled = none from I.ok.hd hc) st.2.1 st.2.2 (Array.getElem?_eq_none hl) hE }
    exact wpAny_pyNext_enum_endD D he ⟨rfl, hit, ht⟩ fun h' eb => ⟨rfl, I.turned (t' := s.toks) (fun b o hb q => eb b o hb q) f0 f1 f3 f4 f5⟩
  self := fun A i s Q E st h => by
    obtain ⟨⟨_, he⟩, _⟩ := st
    exact wpAny_pyIter_enum he h
end Fm
end FFmMore2
section FFmMore3
set_option Elab.async false
set_option linter.all false
set_option maxRecDepth 100000
set_option maxHeartbeats 4000000
namespace Fm
open PySem PySem.Spec PyProof.Rows L2
theorem meets_enumT (a : Addr) (its : Array Value) :
    Meets (Builtin.«enumerate.__new__» ⟨[.type "enumerate", .ref a], []⟩) (fun _ R s => s.heap.IsTuple a its ∧
      R (.ok (.ret (.ref (s.heap.push { cls := .type "tuple_iterator", data := .fields #[.ref a, .int 0 0] }).objs.size)))
        { s with heap := (s.heap.push { cls := .type "tuple_iterator", data := .fields #[.ref a, .int 0 0] }).push { cls := .type "enumerate", data := .fields #[.none, .bool false, .ref s.heap.objs.size, rawInt 0, .none, .none] } }) :=
  .of_wp fun prog w A R s hh => by
    obtain ⟨hp, g, d, tk, os⟩ := s
    obtain ⟨hT, hh⟩ := hh
    have hsub := PySem.sub_enumerate
    have it1 : ∀ {A' : Around} {E : Value → Shared → Prop} {Q : Value → Shared → Prop}, Q (.ref hp.objs.size) ⟨hp.push { cls := .type "tuple_iterator", data := .fields #[.ref a, .int 0 0] }, g, d, tk, os⟩ → wpAny (model prog w) A' (pyIter (.ref a)) Q E ⟨hp, g, d, tk, os⟩ :=
      fun q => wpAny_pyIter_tuple (s := ⟨hp, g, d, tk, os⟩) hT q
    wp_walk using it1
    refine wpAny_stack_any fun st => wpAny_pure ?_
    split
    · rename_i cc _ _ _ _ _
      cases (cc == Value.type "enumerate") <;> (wp_walk using it1; exact ⟨_, rfl, hh⟩)
    · wp_walk using it1
      exact ⟨_, rfl, hh⟩
theorem call_enumT {prog : Program} {w : World} {A : Around} {E : Value → Shared → Prop} {s : Shared} {a : Addr} {its : Array Value} {Q : Value → Shared → Prop} (hT : s.heap.IsTuple a its)
    (h : ∀ h', IsEnum h' (s.heap.objs.size + 1) s.heap.objs.size 0 .none → h'.IsTupleIter s.heap.objs.size a 0 → (∀ b o, s.heap.get? b = some o → h'.get? b = some o) → Q (.ref (s.heap.objs.size + 1)) { s with heap := h' }) :
    wpAny (model prog w) A (call (.type "enumerate") [.ref a]) Q E s := by
  refine callType_new F.called_enumerate (by decide) (F.typeCall_enumerate_1 _) (F.newCall_enumerate_1 _) (fun obj => F.args_object_init_2 obj _) F.entry_enumerate_new (meets_enumT a its) ⟨hT, ?_⟩
  let h1 := s.heap.push { cls := .type "tuple_iterator", data := .fields #[.ref a, .int 0 0] }
  have hz : h1.objs.size = s.heap.objs.size + 1 := Heap.size_push ..
  show _ ∧ _
  rw [hz]
  let h2 := h1.push { cls := .type "enumerate", data := .fields #[.none, .bool false, .ref s.heap.objs.size, rawInt 0, .none, .none] }
  have he : IsEnum h2 (s.heap.objs.size + 1) s.heap.objs.size 0 .none := by
    have q := Heap.get?_push_size h1 (o := { cls := .type "enumerate", data := .fields #[.none, .bool false, .ref s.heap.objs.size, rawInt 0, .none, .none] }) rfl
    rw [hz] at q
    exact q
  refine ⟨⟨_, he, rfl⟩, h h2 he ⟨_, Heap.get?_push_of_some _ (Heap.get?_push_size _ rfl), rfl, rfl⟩ fun b o x => Heap.get?_push_of_some _ (Heap.get?_push_of_some _ x)⟩
def iEnumT (K : PySem.W.Frag) (ta : TA) : TI := fun σ H R => ta σ H fun vs H1 => ∃ a xs, vs = [.ref a] ∧ SqT K H1 a xs ∧ R (IteT K a) H1
theorem pi_enumT {X : Cx} {e : Expr} {ta : TA} {p pos tpos : Pos} {elts : List Expr} {kk : Nat} (hg : Gl X "enumerate") (hm : X.mg "enumerate" = none) (ha : PA X [e] ta) (hs : starEach [e] X.env = [(false, eval e X.env)] := by rfl) :
    PI X (.Tuple elts kk tpos) (.Call (.Name "enumerate" p) [e] [] pos) (iEnumT X.K ta) := by
  refine ⟨fun pins s σ H R I h => ?_⟩
  refine Call_ (ld_blt I hg hm boot_enumerate (PyProof.Rows.callWith_type1 (thn (ha.run pos pins s σ H _ I h) fun us s1 ⟨vs, H1, I1, r1, q1⟩ => ?_) hs rfl))
  obtain ⟨a, xs, rfl, hq, q⟩ := q1
  obtain rfl := Vals.ref1 r1
  obtain ⟨its, rv, ⟨o, ho, hoc, no, hod⟩, hz⟩ := I1.tuple hq
  have hal : a < s1.heap.objs.size := Heap.lt_size ho
  refine call_enumT (its := its.toArray) ⟨o, ho, hoc, no, hod⟩ fun h' he hit hk => wpAny_pyIter_enum he ?_
  have I2 : Inv X pins σ H1 { s1 with heap := h' } := I1.kept (t' := s1.toks) hk
  refine ⟨s1.heap.objs.size + 1, [s1.heap.objs.size + 1, s1.heap.objs.size], _, _, H1, rfl, I2, turn_enumT a (s1.heap.objs.size + 1) s1.heap.objs.size (Nat.succ_ne_self _) (Nat.ne_of_lt hal) (Nat.ne_of_gt (Nat.lt_succ_of_lt hal)), ⟨⟨.none, he⟩, hit⟩, fun b hb => ?_, q⟩
  have hle : s1.heap.objs.size ≤ b := by
    rcases List.mem_cons.mp hb with z | z
    · rw [z]; exact Nat.le_succ _
    · rw [List.mem_singleton.mp z]; exact Nat.le_refl _
  exact I1.fpOk hle (I1.hok.fresh hle)
theorem walk_enumT {K : PySem.W.Frag} {a : Addr} {xs : List V} : Walk (IteT K a) xs.length (fun H => SqT K H a xs) (YPair (fun i => some (.int (i : Nat))) (fun i => xs[i]?)) where
  goes := fun i _ hi q => ⟨xs, xs[i], q, List.getElem?_eq_getElem hi⟩
  stops := fun _ q => ⟨xs, q, Nat.le_refl _⟩
  yields := fun i H v H' _ q y => by
    obtain ⟨T, x, h1, h2, h3, h4⟩ := y
    exact ⟨T, _, x, h1, h2, h3, rfl, h4 xs q⟩
theorem walk_zipT {K : PySem.W.Frag} {a b : Addr} {xs ys : List V} (hn : xs.length = ys.length) : Walk (RZ.ItzT K a b) xs.length (fun H => SqT K H a xs ∧ SqT K H b ys) (YPair (fun i => xs[i]?) (fun i => ys[i]?)) where
  goes := fun i _ hi q => ⟨xs, ys, xs[i], ys[i]'(by omega), q.1, q.2, List.getElem?_eq_getElem hi, List.getElem?_eq_getElem (by omega)⟩
  stops := fun _ q => ⟨xs, ys, q.1, q.2, .inl (Nat.le_refl _)⟩
  yields := fun i H v H' _ q y => by
    obtain ⟨T, x, z, h1, h2, h3, h4, h5⟩ := y
    exact ⟨T, x, z, h1, h2, h3, h4 xs q.1, h5 ys q.2⟩
section
variable {J : It} {n : Nat} {G : Hp → Prop} {Y : Nat → Hp → V → Hp → Prop}
theorem fI (w : Walk J n G Y) {g : TG} {tb : TS} {D : Ends} {σ : L2.St} {H : Hp} (Pv : Nat → L2.St → Hp → Prop) (h0 : Pv 0 σ H) (hG : ∀ i σ H, i ≤ n → Pv i σ H → G H)
    (hs : ∀ i x σ H H', i < n → Pv i σ H → Y i H x H' → g x σ H' fun σ2 H2 => tb { D with nx := Pv (i + 1), ct := Pv (i + 1), bk := D.nx } σ2 H2) (hd : ∀ σ H, Pv n σ H → D.nx σ H) : ForB J g tb D σ H := for_it w Pv h0 hG hs hd
theorem lI (w : Walk J n G Y) {g : TG} {tt : TT} {te : TE} {vs : List Nat} {σ : L2.St} {H1 : Hp} {D : Addr} {Qd : Hp → Prop} (Pv : Nat → Hp → Prop) (h0 : Pv 0 (upd H1 D (.lst []))) (hG : ∀ i H, i ≤ n → Pv i H → G H)
    (hs : ∀ i x H H', i < n → Pv i H → Y i H x H' → g x (wipe σ vs) H' fun σ2 H2 => wipe σ2 vs = wipe σ vs ∧ tt σ2 H2 fun b H3 =>
      if b = true then te σ2 H3 fun y H4 => ∃ acc, H4 D = some (.lst acc) ∧ acc.length < sizeLine ∧ Pv (i + 1) (upd H4 D (.lst (acc ++ [y]))) else Pv (i + 1) H3) (hd : ∀ H, Pv n H → Qd H) : LcB J g tt te vs σ H1 D Qd := lc_it w Pv h0 hG hs hd
end
end Fm
end FFmMore3
section FFmSumL
set_option Elab.async false
set_option linter.all false
set_option maxRecDepth 100000
set_option maxHeartbeats 4000000
namespace Fm
open PySem PySem.Spec PyProof.Rows L2
/-- the list at b holds us -/
def LstAt (h : Heap) (b : Addr) (us : List Value) : Prop := ∃ n, h.get? b = some { cls := .type "list", data := .seq us.toArray n }
section
variable {prog : Program} {w : World} {A : Around} {R : Result → Shared → Prop} {I : Addr} {fp wr : List Addr} {G : Array GenState → Array GenState → Prop} {n : Nat} {P : Nat → Value → Prop} {St : Nat → Shared → Prop}
/-- what is summed: lists -/
theorem sum_loop_lists (W : WalksS prog w A.in1 I fp wr G n P St) (parts : Nat → List Value) (hP : ∀ i v, P i v → ∃ b, v = .ref b) (hlive : ∀ i s, St i s → ∀ b ∈ wr, b < s.heap.objs.size) (B : Nat) (hB : ∀ i s, St i s → B ≤ s.heap.objs.size) (S : Addr) (hSf : S ∉ fp) :
    ∀ (k i : Nat) (s : Shared) (t : Addr) (us : List Value) (c : Nat), n - i = k → i ≤ n → St i s → s.heap.get? S = some { cls := .type "list", dict := none, data := .seq #[.ref t] c, slots := #[] } → LstAt s.heap t us → t ≠ S → t ∉ wr → 
    (∀ j b s', i ≤ j → j < n → P j (.ref b) → Moved (S :: wr) G s s' → LstAt s'.heap b (parts j) ∧ b ≠ S ∧ b ∉ wr) → (us ++ ((List.range n).drop i).flatMap parts).length ≤ sizeLine →
    (∀ s' t', Moved (S :: wr) G s s' → LstAt s'.heap t' (us ++ ((List.range n).drop i).flatMap parts) → ((t' = t ∧ i = n) ∨ (B ≤ t' ∧ i < n)) → R (.ok (.ret (.ref t'))) s') → codeAny (model prog w) A (.builtin "sum.loop" ⟨[.ref I, .ref S, rawInt 2, rawInt 0], []⟩) R s := by
  have hSw : S ∉ wr := fun h => hSf (W.sub _ h)
  have hsub : ∀ b ∈ wr, b ∈ S :: wr := fun b hb => List.mem_cons_of_mem _ hb
  intro k
  induction k with
  | zero =>
    intro i s t us c hk hi hst hS hT htS htw hparts hlen hR
    obtain rfl : i = n := by omega
    refine codeAny_builtin F.entry_sum_loop ?_
    rw [Around.under_plainId F.plain_sum_loop _]
    show wpAny _ A.in1 (seqItems? (.ref S) >>= _) _ _ s
    refine wpAny_bind (wpAny_seqItems hS rfl ?_)
    show wpAny _ A.in1 (tryCatch (pyNext (.ref I)) _ >>= _) _ _ s
    refine wpAny_bind (wpAny_tryCatch (W.done s _ _ hst fun s' hm => ?_))
    refine wpAny_pure (hR s' t (hm.mono hsub) ?_ (.inl ⟨rfl, rfl⟩))
    obtain ⟨m, e⟩ := hT
    have e0 : (List.range i).drop i = [] := by simp
    rw [e0, List.flatMap_nil, List.append_nil]
    exact ⟨m, hm.heap t _ htw e⟩
  | succ k ih =>
    intro i s t us c hk hi hst hS hT htS htw hparts hlen hR
    have hlt : i < n := by omega
    refine codeAny_builtin F.entry_sum_loop ?_
    rw [Around.under_plainId F.plain_sum_loop _]
    show wpAny _ A.in1 (seqItems? (.ref S) >>= _) _ _ s
    refine wpAny_bind (wpAny_seqItems hS rfl ?_)
    show wpAny _ A.in1 (tryCatch (pyNext (.ref I)) _ >>= _) _ _ s
    refine wpAny_bind (wpAny_tryCatch (W.item i s _ _ hlt hst fun v s' hPv hst' hm => ?_))
    obtain ⟨b, rfl⟩ := hP i v hPv
    have hS' := hm.heap S _ hSw hS
    obtain ⟨⟨nb, hb⟩, hbS, hbw⟩ := hparts i b s' (Nat.le_refl _) hlt hPv (hm.mono hsub)
    obtain ⟨nt, ht⟩ := hT
    have ht' := hm.heap t _ htw ht
    have e0 : (List.range n).drop i = i :: (List.range n).drop (i + 1) := by
      rw [List.drop_eq_getElem_cons (by simpa using hlt)]
      simp
    rw [e0, List.flatMap_cons] at hlen
    have hl2 : us.length + (parts i).length ≤ sizeLine := by
      rw [List.length_append, List.length_append] at hlen
      omega
    show wpAny _ A.in1 ((holding [Value.ref b] (binaryOp .Add (.ref t) (.ref b))).attempt >>= _) _ _ _
    refine wpAny_bind (wpAny_attempt (wpAny_holding (PySem.P.add_list ht' hb ?_ (by rw [List.size_toArray, List.size_toArray]; exact hl2))))
    let hp1 := s'.heap.push { cls := .type "list", data := .seq (us.toArray ++ (parts i).toArray) }
    have hS1 : hp1.get? S = _ := Heap.get?_push_of_some _ hS'
    show wpAny _ A.in1 (updateSeq S (fun _ => #[.ref s'.heap.objs.size]) >>= _) _ _ _
    refine wpAny_bind (wpAny_updateSeq hS1 rfl ?_)
    have hS2 := Heap.get?_update_self (Obj.mapSeq fun _ => #[Value.ref s'.heap.objs.size]) hS1 rfl
    refine wpAny_bind (wpAny_letGo ?_)
    refine wpAny_bind (wpAny_updateSeq hS2 rfl (wpAny_pure ⟨plainId_quiet F.plain_sum_loop _, ?_⟩))
    have eS : ∀ {x : Addr} {o : Obj}, x ≠ S → s'.heap.get? x = some o → ((hp1.update S (Obj.mapSeq fun _ => #[Value.ref s'.heap.objs.size])).update S (Obj.mapSeq fun _ => #[Value.ref s'.heap.objs.size])).get? x = some o := fun {x o} hx q =>
      (Heap.get?_update_other _ _ (Ne.symm hx)).trans ((Heap.get?_update_other _ _ (Ne.symm hx)).trans (Heap.get?_push_of_some _ q))
    have hSl : S < s'.heap.objs.size := Heap.lt_size hS'
    have nS : s'.heap.objs.size ≠ S := Nat.ne_of_gt hSl
    have hN : ((hp1.update S (Obj.mapSeq fun _ => #[Value.ref s'.heap.objs.size])).update S (Obj.mapSeq fun _ => #[Value.ref s'.heap.objs.size])).get? s'.heap.objs.size = some { cls := .type "list", data := .seq (us.toArray ++ (parts i).toArray) } :=
      (Heap.get?_update_other _ _ (Ne.symm nS)).trans ((Heap.get?_update_other _ _ (Ne.symm nS)).trans (Heap.get?_push_size _ rfl))
    have hmv : Moved (S :: wr) G s { s' with heap := (hp1.update S (Obj.mapSeq fun _ => #[Value.ref s'.heap.objs.size])).update S (Obj.mapSeq fun _ => #[Value.ref s'.heap.objs.size]) } :=
      (hm.mono hsub).then_heap (Nat.le_refl _) fun x o hx q => eS (fun z => hx (z ▸ List.mem_cons_self)) q
    refine ih (i + 1) _ s'.heap.objs.size (us ++ parts i) _ (by omega) hlt (W.frame _ s' _ _ hst' (Nat.le_refl _) fun x hx o q => eS (fun z => hSf (z ▸ hx)) q) (Heap.get?_update_self _ hS2 rfl) ⟨0, hN.trans (by simp)⟩ nS
      (fun z => Nat.lt_irrefl _ (hlive _ _ hst' _ z)) (fun j x s2 hj1 hj2 hpx hm2 => hparts j x s2 (by omega) hj2 hpx (Moved.trans W.gtrans hmv hm2)) (by rw [List.append_assoc]; exact hlen) fun s2 t2 hm2 hl2 hc => ?_
    refine hR s2 t2 (Moved.trans W.gtrans hmv hm2) (by rw [e0, List.flatMap_cons, ← List.append_assoc]; exact hl2) (.inr ⟨?_, hlt⟩)
    rcases hc with ⟨rfl, _⟩ | ⟨hc, _⟩
    · exact hB _ _ hst'
    · exact hc
end
theorem sub_list_str : isSubtype (.type "list") (.type "str") = pure false := by rw [isSubtype_type]; kernel_rfl
theorem sub_list_bytes : isSubtype (.type "list") (.type "bytes") = pure false := by rw [isSubtype_type]; kernel_rfl
theorem sub_list_bytearray : isSubtype (.type "list") (.type "bytearray") = pure false := by rw [isSubtype_type]; kernel_rfl
theorem args_sum2 (a b : Value) : argsOk "sum" ⟨[a, b], []⟩ := by unfold argsOk; kernel_rfl
section
variable {prog : Program} {w : World} {A : Around} {E : Value → Shared → Prop} {s : Shared}
theorem call_sum_lists {l t : Addr} {its : Array Value} {parts : Nat → List Value} {us : List Value} {Q : Value → Shared → Prop} (hh : A.handled = none) (hl : s.heap.IsList l its) (hr : ∀ i v, its[i]? = some v → ∃ b, v = .ref b ∧ LstAt s.heap b (parts i))
    (ht : LstAt s.heap t us) (hz : (us ++ (List.range its.size).flatMap parts).length ≤ sizeLine)
    (hQ : ∀ h' t', (∀ b o, s.heap.get? b = some o → h'.get? b = some o) → LstAt h' t' (us ++ (List.range its.size).flatMap parts) → ((t' = t ∧ its.size = 0) ∨ (s.heap.objs.size ≤ t' ∧ 0 < its.size)) → ∀ tk, Q (.ref t') { s with heap := h', toks := tk }) :
    wpAny (model prog w) A (call (.builtin "sum") [.ref l, .ref t]) Q E s := by
  obtain ⟨ol, hol, hcl, nl, hdl⟩ := id hl
  obtain ⟨nt, hot⟩ := id ht
  refine call_function_tree F.kind_sum F.plain_sum F.entry_sum (args_sum2 _ _) ?_
  unfold Builtin.«sum»
  simp only [List.length_cons, List.length_nil]
  rw [if_neg (by decide)]
  refine wpAny_bind (wpAny_of_eq (show Builtin.Builtins.bindParams "sum" ["start"] 0 ⟨[.ref t], []⟩ = pure [some (.ref t)] from rfl) ?_)
  refine wpAny_bind (wpAny_pyIter_list hl ?_)
  refine wpAny_bind (wpAny_pure ?_)
  let I := s.heap.objs.size
  let h1 := s.heap.push { cls := .type "list_iterator", data := .fields #[.ref l, .int 0 0] }
  have hot1 : h1.get? t = _ := Heap.get?_push_of_some _ hot
  have tt : ∀ (s' : Shared), s'.heap = h1 → s'.TypeIs (.ref t) "list" := fun s' e => ⟨_, by rw [e]; exact hot1, rfl⟩
  simp only [List.forIn_cons, List.forIn_nil]
  refine wpAny_bind (wpAny_bind (wpAny_bind (wpAny_isInstance (T := "list") (b := false) (tt _ rfl) sub_list_str ?_)))
  simp only [Bool.false_eq_true, if_false]
  refine wpAny_pure (wpAny_bind (wpAny_bind (wpAny_isInstance (T := "list") (b := false) (tt _ rfl) sub_list_bytes ?_)))
  simp only [Bool.false_eq_true, if_false]
  refine wpAny_pure (wpAny_bind (wpAny_bind (wpAny_isInstance (T := "list") (b := false) (tt _ rfl) sub_list_bytearray ?_)))
  simp only [Bool.false_eq_true, if_false]
  refine wpAny_pure (wpAny_pure ?_)
  refine wpAny_bind (wpAny_newObj_type ?_)
  refine wpAny_pure ⟨plainId_quiet F.plain_sum_loop _, ?_⟩
  have hlI : l ≠ I := Nat.ne_of_lt (Heap.lt_size hol)
  have htI : t ≠ I := Nat.ne_of_lt (Heap.lt_size hot)
  have hz1 : h1.objs.size = I + 1 := Heap.size_push ..
  have W0 := Walks.list (prog := prog) (w := w) (A := A.in1) (show A.in1.handled = none from hh) I l hlI its
  have W1 := W0.toS
  have hSI : h1.objs.size ≠ I := by
    rw [hz1]
    exact Nat.succ_ne_self _
  have hlS : l ≠ h1.objs.size := by
    rw [hz1]
    exact Nat.ne_of_lt (Nat.lt_succ_of_lt (Heap.lt_size hol))
  have htS : t ≠ h1.objs.size := by
    rw [hz1]
    exact Nat.ne_of_lt (Nat.lt_succ_of_lt (Heap.lt_size hot))
  have keep0 : ∀ {o : Obj} (b : Addr) (ob : Obj), s.heap.get? b = some ob → (h1.push o).get? b = some ob := fun b ob q => Heap.get?_push_of_some _ (Heap.get?_push_of_some _ q)
  have hdrop : (List.range its.size).drop 0 = List.range its.size := rfl
  refine sum_loop_lists W1 parts (fun i v hv => (hr i v hv).imp fun b q => q.1) (fun i s' st b hb => ?_) I (fun i s' st => ?_) h1.objs.size (fun z => ?_) its.size 0 _ t us _ (by omega) (Nat.zero_le _) ⟨⟨_, Heap.get?_push_of_some _ (Heap.get?_push_size _ rfl), rfl, rfl⟩, hl.at fun o e => keep0 l o e⟩ (Heap.get?_push_size _ rfl)
    ⟨_, keep0 t _ hot⟩ htS (fun z => htI (List.mem_singleton.mp z)) (fun j b s' _ hj hb hm => ?_) (by rw [hdrop]; exact hz) fun s' t' hm hl' hc => ?_
  · obtain rfl := List.mem_singleton.mp hb
    obtain ⟨_, q, _⟩ := st.1
    exact Heap.lt_size q
  · obtain ⟨_, q, _⟩ := st.1
    exact Nat.le_of_lt (Heap.lt_size q)
  · rcases List.mem_cons.mp z with z | z
    · exact hSI z
    · exact hlS (List.mem_singleton.mp z).symm
  · obtain ⟨b', eb, nb, hob⟩ := hr j _ hb
    cases eb
    have hbI : b ≠ I := Nat.ne_of_lt (Heap.lt_size hob)
    have hbS : b ≠ h1.objs.size := by
      rw [hz1]
      exact Nat.ne_of_lt (Nat.lt_succ_of_lt (Heap.lt_size hob))
    refine ⟨⟨nb, hm.heap b _ (fun z => ?_) (keep0 b _ hob)⟩, hbS, fun z => hbI (List.mem_singleton.mp z)⟩
    rcases List.mem_cons.mp z with z | z
    · exact hbS z
    · exact hbI (List.mem_singleton.mp z)
  · obtain ⟨h', g', d', tk', os'⟩ := s'
    obtain rfl : g' = s.gens := hm.gens
    obtain rfl : d' = s.drawn := hm.drawn
    obtain rfl : os' = s.os := hm.os
    refine hQ h' t' (fun b o q => hm.heap b o (fun z => ?_) (keep0 b o q)) (by rw [hdrop] at hl'; exact hl') (by rcases hc with ⟨a, b⟩ | ⟨a, b⟩; exact .inl ⟨a, b.symm⟩; exact .inr ⟨a, b⟩) tk'
    have hb := Heap.lt_size q
    rcases List.mem_cons.mp z with z | z
    · rw [z, hz1] at hb
      exact absurd hb (by show ¬ I + 1 < I; omega)
    · rw [List.mem_singleton.mp z] at hb
      exact Nat.lt_irrefl _ hb
end
/-- sum(xs, start), lists -/
def rSumL (K : PySem.W.Frag) : List V → Hp → VK → Prop := fun vs H Q => ∃ (a t : Addr) (xs zs : List V) (parts : Nat → List V), vs = [.ref a, .ref t] ∧ SqL K H a xs ∧ H t = some (.lst zs) ∧ 0 < xs.length ∧
  (∀ i x, xs[i]? = some x → ∃ b, x = .ref b ∧ H b = some (.lst (parts i))) ∧ (zs ++ (List.range xs.length).flatMap parts).length ≤ sizeLine ∧ ∀ p, H p = none → Q (.ref p) (upd H p (.lst (zs ++ (List.range xs.length).flatMap parts)))
theorem vals_flat {f : Nat → List V} {g : Nat → List Value} : ∀ {l : List Nat}, (∀ i ∈ l, Vals (f i) (g i)) → Vals (l.flatMap f) (l.flatMap g)
  | [], _ => .nil
  | i :: r, h => by
    rw [List.flatMap_cons, List.flatMap_cons]
    exact (h i List.mem_cons_self).append (vals_flat fun j hj => h j (List.mem_cons_of_mem _ hj))
theorem cr_sumL {X : Cx} (hc : X.calm = true) : CallR X (.builtin "sum") (rSumL X.K) := by
  intro pins s σ H vs us Q I r h
  obtain ⟨a, t, xs, zs, parts, rfl, hs, hz, h0, hp, hlen, q⟩ := h
  obtain ⟨u1, u2, rfl, r1, r2⟩ : ∃ u1 u2, us = [u1, u2] ∧ RelV (.ref a) u1 ∧ RelV (.ref t) u2 := by
    cases r with
    | cons r1 rr =>
      cases rr with
      | cons r2 rr =>
        cases rr
        exact ⟨_, _, rfl, r1, r2⟩
  cases r1
  cases r2
  obtain ⟨its, rv, hl, hlz⟩ := I.list hs
  obtain ⟨hzz, iz, nz, rz, ez⟩ := (show ObjOk X.prog X.w H s.heap t (.lst zs) from I.hok t _ hz)
  have ex : ∀ i, ∃ g : List Value, ∀ x, xs[i]? = some x → Vals (parts i) g ∧ ∃ b, x = .ref b ∧ LstAt s.heap b g := fun i => by
    cases e : xs[i]? with
    | none => exact ⟨[], fun x q => by cases q⟩
    | some x =>
      obtain ⟨b, rfl, hb⟩ := hp i x e
      obtain ⟨_, g, n, rg, eg⟩ := (show ObjOk X.prog X.w H s.heap b (.lst (parts i)) from I.hok b _ hb)
      exact ⟨g, fun y q => by cases q; exact ⟨rg, b, rfl, n, eg⟩⟩
  obtain ⟨g, hg⟩ := Classical.axiomOfChoice ex
  have hn : its.toArray.size = xs.length := by rw [List.size_toArray, rv.length]
  have vf : Vals (zs ++ (List.range xs.length).flatMap parts) (iz ++ (List.range xs.length).flatMap g) := rz.append (vals_flat fun i hi => by
    have hi' := List.mem_range.mp hi
    exact (hg i xs[i] (List.getElem?_eq_getElem hi')).1)
  refine call_sum_lists (parts := g) (us := iz) (I.ok.hd hc) hl.isList (fun i v hv => ?_) ⟨nz, ez⟩ (by rw [hn, ← vf.length]; exact hlen) fun h' t' hk hl' hcs tk => ?_
  · have hv' : its[i]? = some v := by simpa using hv
    have hi : i < xs.length := by
      rw [rv.length]
      exact (List.getElem?_eq_some_iff.mp hv').1
    obtain ⟨_, b, eb, hb⟩ := hg i xs[i] (List.getElem?_eq_getElem hi)
    obtain ⟨u, hu, ru⟩ := rv.get (List.getElem?_eq_getElem hi)
    rw [hv'] at hu
    cases hu
    rw [eb] at ru
    cases ru
    exact ⟨b, rfl, hb⟩
  · rw [hn] at hl' hcs
    rcases hcs with ⟨_, z⟩ | ⟨hge, _⟩
    · omega
    · obtain ⟨n', e'⟩ := hl'
      refine ⟨.ref t', _, I.laid (t' := tk) (a := t') (o := .lst (zs ++ (List.range xs.length).flatMap parts)) hk hge ⟨hlen, _, n', vf, e'⟩, rfl, q t' (I.hok.fresh hge)⟩
end Fm
end FFmSumL
section FK1
set_option Elab.async false
set_option linter.all false
set_option maxRecDepth 100000
set_option maxHeartbeats 4000000
local macro_rules | `(tactic| walk_at "ne") => `(tactic| first | assumption | (apply Ne.symm; assumption) | exact L2.ne_of_none (by assumption) (by assumption) | exact Ne.symm (L2.ne_of_none (by assumption) (by assumption)))
local macro_rules | `(tactic| walk_at "hl") => `(tactic| first | assumption | exact L2.upd_same | (refine Eq.trans (L2.upd_ne (by walk_at "ne")) ?_; walk_at "hl"))
local macro_rules | `(tactic| walk_at "sd") => `(tactic| first | (with_reducible show (_ : Int) < _; omega) | (with_reducible show (_ : Int) ≤ _; omega) | assumption | decide | exact ⟨by assumption, by assumption⟩ | exact ⟨by decide, by decide⟩ | exact Or.inr ⟨by decide, by decide⟩ | exact Or.inl ⟨by omega, by omega⟩ | rfl)
local macro_rules | `(tactic| walk_at "st1") => `(tactic| first
  | refine ⟨_, rfl, ?_⟩
  | refine ⟨_, _, rfl, rfl, ?_⟩
  | refine ⟨_, _, rfl, ?_⟩
  | (refine ⟨_, _, _, _, rfl, rfl, L2.SqL.of (by walk_at "hl"), rfl, ?_⟩)
  | (refine ⟨_, _, _, _, rfl, rfl, L2.SqT.of (by walk_at "hl"), rfl, ?_⟩)
  | (refine ⟨_, _, _, _, rfl, rfl, (by walk_at "hl"), rfl, ?_⟩)
  | (refine And.intro (by walk_at "sd") ?_)
  )
local macro_rules | `(tactic| walk_at "st") => `(tactic| repeat walk_at "st1")
local macro_rules | `(tactic| walk_at "op") => `(tactic| try dsimp only [L2.tSeq, L2.tAsg, L2.tOp, L2.tVar, L2.tC, L2.gSub, L2.rI, L2.rI0, L2.rIxL, L2.rIxT, L2.rSetL, L2.tIfS, L2.tTest, L2.tRet, L2.gName, L2.tNext, L2.tAnd, L2.tOr, L2.tNot, L2.tAndV, L2.tOrV, L2.tNotV, L2.tB, L2.tCB, L2.tCons, L2.tNil, L2.tCall, L2.tTup, L2.tLst, L2.tChain, L2.tUn, L2.tPar, L2.tDrop, L2.tIf, L2.tBM, L2.tBM0, L2.rAppend, L2.rCat, L2.rIsi, L2.rIsiT, L2.gTup, L2.gCons, L2.gNil, Fm.tFor_eq, Fm.tLc_eq, L2.iTup, L2.iList, L2.iRng1, L2.iRng2, L2.tSl, L2.tPart, L2.tNoPart, L2.rSlL, L2.rEq, L2.rNe, L2.rU, L2.rEqD, L2.rNeD, Fm.tRevT, Fm.rLenS, Fm.rTupOf, Fm.rLstOf, L2.tDNewK, L2.tCallS, L2.WE, Fm.wKeep, Fm.rIsK, Fm.rIsKT, List.cons_append, List.nil_append, L2.tYes])
namespace Fm
open PySem PySem.Spec PyProof.Rows L2
abbrev s_has_form : Stmt := top 18
abbrev N_has_form : List Str := ["thing", "m", "floors", "most", "counts"]
theorem sc_has_form : FnScope N_has_form ["thing", "m", "floors", "most"] (defScope s_has_form) := ⟨rfl, rfl, rfl, by decide +kernel, rfl, by decide +kernel, by decide +kernel⟩
section
variable {P : Program} {w : World} {K : PySem.W.Frag} {mg : Str → Option Value} {base : Heap}
/-! ### standings, as data -/
def rowD (r : List Int) : PyData := .tuple (r.map PyData.int)
def stD (rows : List (List Int)) (out : Int) : PyData := .tuple (rows.map rowD ++ [.int out])
structure StOk (m : Nat) (rows : List (List Int)) (out : Int) : Prop where
  len : ∀ r ∈ rows, r.length = m
  pos : ∀ r ∈ rows, ∀ c ∈ r, 0 ≤ c
  out : 0 ≤ out
theorem sl_init {K : PySem.W.Frag} {H : Hp} {Q : VK} {a : Addr} {xs : List V} {y : V} (h : SqT K H a (xs ++ [y])) (q : ∀ p, H p = none → Q (.ref p) (upd H p (.tup xs))) : rSlA K (.ref a) none (some (-1)) H Q := by
  have e1 : HT.sIx (xs ++ [y]).length 0 none = 0 := rfl
  have e2 : HT.sIx (xs ++ [y]).length (xs ++ [y]).length (some (-1)) = xs.length := by
    unfold HT.sIx
    rw [List.length_append]
    show (if (-1 : Int) < 0 then _ else _) = _
    rw [if_pos (by decide)]
    show ((-1 : Int) + ((xs.length + 1 : Nat) : Int)).toNat = _
    omega
  refine ⟨a, _, rfl, h, fun z => ?_, fun _ p hp => ?_⟩
  · rw [e2, List.length_append] at z
    have : ([y] : List V).length = 1 := rfl
    omega
  · have e3 : cutV (xs ++ [y]) none (some (-1)) = xs := by
      unfold cutV
      rw [e1, e2, List.drop_zero, Nat.sub_zero, List.take_left]
    rw [e3]
    exact q p hp
theorem atI_last {xs : List V} {y : V} (hl : xs.length ≤ 1000) : atI (xs ++ [y]) (-1) = some y := by
  unfold atI ixN
  rw [if_neg (by decide), List.length_append]
  have h1 : ([y] : List V).length = 1 := rfl
  rw [h1, if_pos (by omega)]
  show (xs ++ [y])[_]? = some y
  have e : ((-1 : Int) + ((xs.length + 1 : Nat) : Int)).toNat = xs.length := by omega
  rw [e]
  simp
/-- a standing's parts in the heap -/
theorem st_parts {H : Hp} {p : Addr} {v : V} {rows : List (List Int)} {out : Int} (h : Dat H p v (stD rows out)) : ∃ a xs, v = .ref a ∧ H a = some (.tup (xs ++ [.int out])) ∧ a ≠ p ∧ Dats H p xs (rows.map rowD) := by
  obtain ⟨a, ys, rfl, ha, np, hs⟩ := h.isTup
  have hl := hs.1
  rw [List.length_append] at hl
  have h1 : ([PyData.int out] : List PyData).length = 1 := rfl
  obtain ⟨x, hx, hdx⟩ := hs.back (i := (rows.map rowD).length) (d := .int out) (by simp)
  obtain rfl := hdx.isInt
  refine ⟨a, ys.take (rows.map rowD).length, rfl, ?_, np, by rw [List.length_take]; omega, fun i x d e1 e2 => ?_⟩
  · have e : ys = ys.take (rows.map rowD).length ++ [.int out] := by
      conv => lhs; rw [← List.take_append_drop (rows.map rowD).length ys]
      congr 1
      rw [List.drop_eq_getElem_cons (by omega), List.drop_eq_nil_of_le (by omega)]
      congr 1
      have := List.getElem?_eq_some_iff.mp hx
      exact this.2
    rw [← e]
    exact ha
  · have hi : i < (rows.map rowD).length := (List.getElem?_eq_some_iff.mp e2).1
    rw [List.getElem?_take_of_lt hi] at e1
    exact hs.2 i x d e1 (by rw [List.getElem?_append_left hi]; exact e2)
def spForm : Sp := fun vs H Q _ => ∃ (v : V) (p : Addr) (m n : Nat) (rows : List (List Int)) (out : Int), vs = [v, .int m, .int n, .non] ∧ Dat H p v (stD rows out) ∧ rows.length = n ∧ 1 ≤ n ∧ n ≤ 4 ∧ StOk m rows out ∧ ∀ H', Same H H' → Q (.bl true) H'
theorem ok_has_form (D : Df K mg "has_form" s_has_form ["thing", "m", "floors", "most"]) (T : Nms mg) (c_is_tuple_of : CallOk P w K mg base CX0 1 "is_tuple_of" ["thing", "many"] spTupOf)
    (c_is_up_to : CallOk P w K mg base CX0 2 "is_up_to" ["thing", "most"] spUpTo) (c_are_up_to : CallOk P w K mg base CX0 3 "are_up_to" ["thing", "many", "most"] spAre) : CallOk P w K mg base CX0 4 "has_form" ["thing", "m", "floors", "most"] spForm := by
  refine df_ok D sc_has_form (fun vs H Q E h => ?_) (fun f cdv A outer s H vs Q E hr h => ?_)
  · obtain ⟨v, p, m, n, rows, out, rfl, _⟩ := h
    rfl
  · obtain ⟨v, p, m, n, rows, out, rfl, hd, hn, hn1, hn4, ok, k⟩ := h
    obtain ⟨a, xs, rfl, ha, nap, hx⟩ := st_parts hd
    have nd := sc_has_form.nd
    refine ⟨_, (pss_cons (ps_if (PW.pt (pw_or (pt_not (pt_val (pe_cc c_is_tuple_of (hr.mono (by omega)) (pa_cons (pv 0) (pa_cons (pe_op op_add (pv 2) pe_int) pa_nil))))) (pw_or1 (pt_not (pt_val (pe_cc c_is_up_to (hr.mono (by omega)) (pa_cons (pe_ix (r := rIxT K) ix_tup (pv 0) (pe_un un_neg pe_int) (fun _ _ => rfl)) (pa_cons (pv 3) pa_nil)))))))) (pss_one (ps_ret pe_bl)) pss_nil)
      (pss_cons (ps_for PassesOwn.never rfl (pi_tup (pe_slice (r := rSlA K) sl_tupA (pv 0) po_none (po_some (pe_un un_neg pe_int)))) (pg_name (i := 4) nd rfl (Or.inl rfl)) (pss_one (ps_if (pt_not (pt_val (pe_cc c_are_up_to (hr.mono (by omega)) (pa_cons (pv 4) (pa_cons (pv 1) (pa_cons (pv 3) pa_nil)))))) (pss_one (ps_ret pe_bl)) pss_nil)))
      (pss_one (ps_ret pe_bl)))), ?_⟩
    walk_at "op"
    walk_at "st"
    refine ⟨_, _, p, _, rfl, hd, fun b hb => ?_⟩
    have hb1 : b = true := hb.mpr ⟨_, rfl, by simp [hn]⟩
    walk_at "st"
    subst hb1
    refine iteF ?_
    walk_at "st"
    refine ⟨_, _, _, _, rfl, rfl, SqT.of ha, atI_last (by rw [hx.1, List.length_map]; omega), ?_⟩
    walk_at "st"
    refine ⟨_, _, p, _, rfl, Dat.int out, .inl rfl, fun b hb => ?_⟩
    have hb1 : b = true := hb.mpr ⟨_, rfl, ok.out, fun M z => by cases z⟩
    walk_at "st"
    subst hb1
    refine iteF ?_
    walk_at "st"
    refine sl_init (SqT.of ha) fun q hq => ?_
    refine ⟨_, rfl, ⟨_, SqT.of upd_same⟩, fT (xs := xs) (fun i σ H' => Same H H' ∧ H' q = some (.tup xs) ∧ ∃ u, σ = [some (.ref a), some (.int m), some (.int n), some .non, u])
      ⟨same_new hq, upd_same, _, rfl⟩ (fun i σ H' _ ⟨_, e, _⟩ => SqT.of e) ?_ ?_⟩
    · rintro i x σ H' hxi ⟨sm, hq2, u, rfl⟩
      obtain ⟨e, he, hde⟩ := hx.at hxi
      rw [List.getElem?_map] at he
      cases er : rows[i]? with
      | none => rw [er] at he; cases he
      | some r =>
        rw [er] at he
        cases he
        have hr := List.mem_of_getElem? er
        walk_at "op"
        walk_at "st"
        refine ⟨x, _, _, p, _, rfl, hde.same sm, .inl rfl, fun b hb => ?_⟩
        have hb1 : b = true := hb.mpr ⟨_, rfl, by rw [List.length_map, ok.len r hr], fun e he => by
          obtain ⟨c, hc, rfl⟩ := List.mem_map.mp he
          exact ⟨c, rfl, ok.pos r hr c hc, fun M z => by cases z⟩⟩
        walk_at "st"
        subst hb1
        exact iteF ⟨sm, hq2, _, rfl⟩
    · rintro σ H' ⟨sm, hq2, u, rfl⟩
      walk_at "op"
      exact k _ sm

end
end Fm
end FK1
section FK2
set_option Elab.async false
set_option linter.all false
set_option maxRecDepth 100000
set_option maxHeartbeats 4000000
local macro_rules | `(tactic| walk_at "ne") => `(tactic| first | assumption | (apply Ne.symm; assumption) | exact L2.ne_of_none (by assumption) (by assumption) | exact Ne.symm (L2.ne_of_none (by assumption) (by assumption)))
local macro_rules | `(tactic| walk_at "hl") => `(tactic| first | assumption | exact L2.upd_same | (refine Eq.trans (L2.upd_ne (by walk_at "ne")) ?_; walk_at "hl"))
local macro_rules | `(tactic| walk_at "sd") => `(tactic| first | (with_reducible show (_ : Int) < _; omega) | (with_reducible show (_ : Int) ≤ _; omega) | assumption | decide | exact ⟨by assumption, by assumption⟩ | exact ⟨by decide, by decide⟩ | exact Or.inr ⟨by decide, by decide⟩ | exact Or.inl ⟨by omega, by omega⟩ | rfl)
local macro_rules | `(tactic| walk_at "st1") => `(tactic| first
  | refine ⟨_, rfl, ?_⟩
  | refine ⟨_, _, rfl, rfl, ?_⟩
  | refine ⟨_, _, rfl, ?_⟩
  | (refine ⟨_, _, _, _, rfl, rfl, L2.SqL.of (by walk_at "hl"), rfl, ?_⟩)
  | (refine ⟨_, _, _, _, rfl, rfl, L2.SqT.of (by walk_at "hl"), rfl, ?_⟩)
  | (refine ⟨_, _, _, _, rfl, rfl, (by walk_at "hl"), rfl, ?_⟩)
  | (refine And.intro (by walk_at "sd") ?_)
  )
local macro_rules | `(tactic| walk_at "st") => `(tactic| repeat walk_at "st1")
local macro_rules | `(tactic| walk_at "op") => `(tactic| try dsimp only [L2.tSeq, L2.tAsg, L2.tOp, L2.tVar, L2.tC, L2.gSub, L2.rI, L2.rI0, L2.rIxL, L2.rIxT, L2.rSetL, L2.tIfS, L2.tTest, L2.tRet, L2.gName, L2.tNext, L2.tAnd, L2.tOr, L2.tNot, L2.tAndV, L2.tOrV, L2.tNotV, L2.tB, L2.tCB, L2.tCons, L2.tNil, L2.tCall, L2.tTup, L2.tLst, L2.tChain, L2.tUn, L2.tPar, L2.tDrop, L2.tIf, L2.tBM, L2.tBM0, L2.rAppend, L2.rCat, L2.rIsi, L2.rIsiT, L2.gTup, L2.gCons, L2.gNil, Fm.tFor_eq, Fm.tLc_eq, L2.iTup, L2.iList, L2.iRng1, L2.iRng2, L2.tSl, L2.tPart, L2.tNoPart, L2.rSlL, L2.rEq, L2.rNe, L2.rU, L2.rEqD, L2.rNeD, Fm.tRevT, Fm.rLenS, Fm.rTupOf, Fm.rLstOf, L2.tDNewK, L2.tCallS, L2.WE, Fm.wKeep, Fm.rIsK, Fm.rIsKT, List.cons_append, List.nil_append, L2.tYes])
namespace Fm
open PySem PySem.Spec PyProof.Rows L2
abbrev s_coming : Stmt := top 24
abbrev N_coming : List Str := ["standing", "told", "rising", "counts", "many"]
theorem sc_coming : FnScope N_coming ["standing"] (defScope s_coming) := ⟨rfl, rfl, rfl, by decide +kernel, rfl, by decide +kernel, by decide +kernel⟩
abbrev s_meetings_left : Stmt := top 23
abbrev N_meetings_left : List Str := ["standing", "many"]
theorem sc_meetings_left : FnScope N_meetings_left ["standing"] (defScope s_meetings_left) := ⟨rfl, rfl, rfl, by decide +kernel, rfl, by decide +kernel, by decide +kernel⟩
section
variable {P : Program} {w : World} {K : PySem.W.Frag} {mg : Str → Option Value} {base : Heap}
theorem houseN_inj {m n m' n' : Nat} {d : PyData} (h : HouseN m n d) (h' : HouseN m' n' d) : m = m' ∧ n = n' := by
  obtain ⟨fs, rfl, hl, h1, h4, _, _, hf⟩ := h
  obtain ⟨fs', e, hl', _, _, _, _, hf'⟩ := h'
  cases e
  have h0 : 0 < fs.length := by omega
  obtain ⟨s, u, e1, ⟨rs, e2, e3, _⟩, _⟩ := hf fs[0] (List.getElem_mem _)
  obtain ⟨s', u', e1', ⟨rs', e2', e3', _⟩, _⟩ := hf' fs[0] (List.getElem_mem _)
  rw [e1] at e1'
  cases e1'
  rw [e2] at e2'
  cases e2'
  exact ⟨by omega, by omega⟩
theorem dats_ints {H : Hp} {p : Addr} : ∀ {ys : List V} {ns : List Int}, Dats H p ys (ns.map PyData.int) → ys = ns.map V.int
  | [], [], _ => rfl
  | [], n :: ns, h => by have := h.1; simp at this
  | y :: ys, [], h => by have := h.1; simp at this
  | y :: ys, n :: ns, h => by
    obtain rfl := (h.2 0 y (.int n) rfl rfl).isInt
    rw [dats_ints (ys := ys) (ns := ns) ⟨by have := h.1; simpa using this, fun i x d a b => h.2 (i + 1) x d a b⟩]
    rfl
theorem row_parts {H : Hp} {p : Addr} {v : V} {r : List Int} (h : Dat H p v (rowD r)) : ∃ a, v = .ref a ∧ H a = some (.tup (r.map V.int)) ∧ a ≠ p := by
  obtain ⟨a, ys, rfl, ha, np, hs⟩ := h.isTup
  rw [dats_ints hs] at ha
  exact ⟨a, rfl, ha, np⟩
theorem sameOff {H H' : Hp} {L : Addr} {o : HO} (e : Same H H') (h : H L = none) : Same H (upd H' L o) := fun b u eb => by
  rw [upd_ne (ne_of_none eb h)]
  exact e b u eb
theorem sameFree {H H' : Hp} {S : Addr} (e : Same H H') (h : H' S = none) : H S = none := by
  cases q : H S with
  | none => rfl
  | some u =>
    rw [e S u q] at h
    cases h
/-- how many come to each floor -/
def comeF : Int → List (List Int) → List Int
  | _, [] => []
  | r, c :: cs => (c.sum + r) :: comeF (if c.sum + r = 0 then 0 else c.sum + r - 1) cs
theorem comeF_len : ∀ (r : Int) (rows : List (List Int)), (comeF r rows).length = rows.length
  | _, [] => rfl
  | r, c :: cs => by unfold comeF; rw [List.length_cons, List.length_cons, comeF_len]
def spComing : Sp := fun vs H Q _ => ∃ (v : V) (p : Addr) (rows : List (List Int)) (out : Int), vs = [v] ∧ Dat H p v (stD rows out) ∧ rows.length ≤ 4 ∧ ∀ q H', H q = none → H' q = some (.lst ((comeF 0 rows).map V.int)) → Same H H' → Q (.ref q) H'
theorem ok_coming (D : Df K mg "coming" s_coming ["standing"]) (T : Nms mg) : CallOk P w K mg base CX0 1 "coming" ["standing"] spComing := by
  refine df_ok D sc_coming (fun vs H Q E h => ?_) (fun f cdv A outer s H vs Q E hr h => ?_)
  · obtain ⟨v, p, rows, out, rfl, _⟩ := h
    rfl
  · obtain ⟨v, p, rows, out, rfl, hd, hn4, k⟩ := h
    obtain ⟨a, xs, rfl, ha, nap, hx⟩ := st_parts hd
    have nd := sc_coming.nd
    refine ⟨_, (pss_cons (ps_set (i := 1) nd rfl (Or.inl rfl) (pe_lst pa_nil))
      (pss_cons (ps_set (i := 2) nd rfl (Or.inl rfl) pe_int)
      (pss_cons (ps_for PassesOwn.never rfl (pi_tup (pe_slice (r := rSlA K) sl_tupA (pv 0) po_none (po_some (pe_un un_neg pe_int)))) (pg_name (i := 3) nd rfl (Or.inl rfl)) (pss_cons (ps_set (i := 4) nd rfl (Or.inl rfl) (pe_op op_add (pe_callB (r := rSumI K) (cr_sumI rfl) (by rfl) T.n_sum (by decide +kernel) (pa_cons (pv 3) pa_nil)) (pv 2)))
      (pss_cons (ps_expr (pe_bm PySem.F.plainAttrs_list PySem.F.slot_list_append PySem.F.type_list_append mt_append (pv 1) (pa_cons (pv 4) pa_nil)))
      (pss_one (ps_set (i := 2) nd rfl (Or.inl rfl) (pe_ifExp (pt_truth (pv 4) (fun _ => rfl)) (pe_op op_sub (pv 4) pe_int) pe_int))))))
      (pss_one (ps_ret (pv 1)))))), ?_⟩
    walk_at "op"
    walk_at "st"
    refine fun L hL => ?_
    have nL : a ≠ L := ne_of_none ha hL
    walk_at "st"
    refine sl_init (SqT.of (by rw [upd_ne nL]; exact ha)) fun q hq => ?_
    have nLq : L ≠ q := ne_of_none upd_same hq
    have hq0 : H q = none := by rw [← hq, upd_ne nLq.symm]
    refine ⟨_, rfl, ⟨_, SqT.of upd_same⟩, fT (xs := xs) (fun i σ H' => Same H H' ∧ H' q = some (.tup xs) ∧ ∃ (T : List Int) (r : Int) (u1 u2 : Option V), σ = [some (.ref a), some (.ref L), some (.int r), u1, u2] ∧ H' L = some (.lst (T.map V.int)) ∧ T.length = i ∧ comeF 0 rows = T ++ comeF r (rows.drop i))
      ⟨sameOff (sameOff (Same.refl H) hL) hq0, upd_same, [], 0, _, _, rfl, by rw [upd_ne nLq]; exact upd_same, rfl, rfl⟩ (fun i σ H' _ ⟨_, e, _⟩ => SqT.of e) ?_ ?_⟩
    · rintro i x σ H' hxi ⟨sm, hq2, T', r, u1, u2, rfl, hL2, hl, hc⟩
      obtain ⟨e, he, hde⟩ := hx.at hxi
      rw [List.getElem?_map] at he
      cases er : rows[i]? with
      | none => rw [er] at he; cases he
      | some c =>
        rw [er] at he
        cases he
        obtain ⟨ac, rfl, hac, _⟩ := row_parts (hde.same sm)
        have hil := (List.getElem?_eq_some_iff.mp er).1
        have ed : rows.drop i = c :: rows.drop (i + 1) := by
          rw [List.drop_eq_getElem_cons hil]
          rw [List.getElem?_eq_getElem hil] at er
          cases er
          rfl
        have hc2 : comeF 0 rows = (T' ++ [c.sum + r]) ++ comeF (if c.sum + r = 0 then 0 else c.sum + r - 1) (rows.drop (i + 1)) := by
          rw [hc, ed]
          conv => lhs; unfold comeF
          rw [List.append_assoc]
          rfl
        walk_at "op"
        walk_at "st"
        refine .inr ⟨ac, c, rfl, SqT.of hac, ?_⟩
        walk_at "st"
        refine ⟨.inl ⟨rfl, _, SqL.of hL2⟩, ?_⟩
        walk_at "st"
        refine ⟨_, _, _, rfl, rfl, hL2, by rw [List.length_map, hl]; exact small1000 (by omega), ?_⟩
        walk_at "st"
        have tailOk : ∀ z : Int, (if c.sum + r = 0 then 0 else c.sum + r - 1) = z → Same H (upd H' L (.lst (T'.map V.int ++ [.int (c.sum + r)]))) ∧ upd H' L (.lst (T'.map V.int ++ [.int (c.sum + r)])) q = some (.tup xs) ∧
            ∃ (T2 : List Int) (r2 : Int) (w1 w2 : Option V), [some (V.ref a), some (V.ref L), some (V.int z), some (V.ref ac), some (V.int (c.sum + r))] = [some (.ref a), some (.ref L), some (.int r2), w1, w2] ∧
              upd H' L (.lst (T'.map V.int ++ [.int (c.sum + r)])) L = some (.lst (T2.map V.int)) ∧ T2.length = i + 1 ∧ comeF 0 rows = T2 ++ comeF r2 (rows.drop (i + 1)) := fun z hz => by
          refine ⟨sameOff sm hL, by rw [upd_ne nLq.symm]; exact hq2, T' ++ [c.sum + r], z, _, _, rfl, by rw [upd_same, List.map_append]; rfl, by simp [hl], ?_⟩
          rw [hc2, hz]
        refine ite2 (fun c0 => ?_) (fun c0 => ?_)
        · walk_at "st"
          exact tailOk _ (if_neg (by simpa using c0))
        · exact tailOk _ (if_pos (by simpa using c0))
    · rintro σ H' ⟨sm, hq2, T', r, u1, u2, rfl, hL2, hl, hc⟩
      walk_at "op"
      walk_at "st"
      have e : rows.drop xs.length = [] := by
        rw [hx.1, List.length_map]
        simp
      rw [e, show comeF r [] = [] from by unfold comeF; rfl, List.append_nil] at hc
      exact k L H' hL (by rw [hL2, hc]) sm

def leftF (rows : List (List Int)) : Int := ((comeF 0 rows).map fun s => if s - 1 > 0 then s - 1 else 0).sum
def spLeft : Sp := fun vs H Q _ => ∃ (v : V) (p : Addr) (rows : List (List Int)) (out : Int), vs = [v] ∧ Dat H p v (stD rows out) ∧ rows.length ≤ 4 ∧ ∀ H', Same H H' → Q (.int (leftF rows)) H'
theorem ok_meetings_left (D : Df K mg "meetings_left" s_meetings_left ["standing"]) (T : Nms mg) (c_coming : CallOk P w K mg base CX0 1 "coming" ["standing"] spComing) : CallOk P w K mg base CX0 2 "meetings_left" ["standing"] spLeft := by
  refine df_ok D sc_meetings_left (fun vs H Q E h => ?_) (fun f cdv A outer s H vs Q E hr h => ?_)
  · obtain ⟨v, p, rows, out, rfl, _⟩ := h
    rfl
  · obtain ⟨v, p, rows, out, rfl, hd, hn4, k⟩ := h
    have nd := sc_meetings_left.nd
    refine ⟨_, (pss_one (ps_ret (pe_callB (r := rSumI K) (cr_sumI rfl) (by rfl) T.n_sum (by decide +kernel) (pa_cons (pe_lc (own := [("many", 1)]) (g := (gName 1)) (tt := tYes) (by rfl) nd (pi_list (pe_cc c_coming (hr.mono (by omega)) (pa_cons (pv 0) pa_nil))) (blkOk_by (own := [("many", 1)]) (N := N_meetings_left) (sc := defScope s_meetings_left) (by decide +kernel)) (fun _ _ _ _ _ => (pg_name (i := 1) nd rfl (Or.inl rfl))) (fun _ _ _ _ _ => pts_nil) (fun _ _ _ _ _ => (pe_callB (call_max2 rfl) (by rfl) T.n_max (by decide +kernel) (pa_cons pe_int (pa_cons (pe_op op_sub (pv 1) pe_int) pa_nil))))) pa_nil)))), ?_⟩
    walk_at "op"
    walk_at "st"
    refine ⟨v, p, rows, out, rfl, hd, hn4, fun q H1 hq hq1 sm => ?_⟩
    refine ⟨_, rfl, ⟨_, SqL.of hq1⟩, fun D' hD' => ?_⟩
    have nqD : q ≠ D' := ne_of_none hq1 hD'
    have hD0 := sameFree sm hD'
    refine lI walk_list (fun i H2 => Same H H2 ∧ H2 q = some (.lst ((comeF 0 rows).map V.int)) ∧ ∃ T2 : List Int, H2 D' = some (.lst (T2.map V.int)) ∧ T2 = ((comeF 0 rows).map fun s => if s - 1 > 0 then s - 1 else 0).take i) 
      ⟨sameOff sm hD0, by rw [upd_ne nqD]; exact hq1, [], upd_same, rfl⟩ (fun i H2 _ ⟨_, e, _⟩ => SqL.of e) ?_ ?_
    · rintro i x H2 _ hi ⟨sm2, hq2, T2, hT2, e2⟩ ⟨rfl, hx⟩
      rw [List.getElem?_map] at hx
      cases es : (comeF 0 rows)[i]? with
      | none => rw [es] at hx; cases hx
      | some c =>
        rw [es] at hx
        cases hx
        walk_at "op"
        refine ⟨rfl, ?_⟩
        walk_at "st"
        have hlen : T2.length ≤ 4 := by
          rw [e2, List.length_take, List.length_map, comeF_len]
          omega
        refine ⟨_, hT2, by rw [List.length_map]; exact small1000 (by omega), sameOff sm2 hD0, by rw [upd_ne nqD]; exact hq2, T2 ++ [if c - 1 > 0 then c - 1 else 0], by rw [upd_same, List.map_append]; rfl, ?_⟩
        rw [e2, List.take_add_one, List.getElem?_map, es]
        rfl
    · rintro H2 ⟨sm2, hq2, T2, hT2, e2⟩
      walk_at "op"
      walk_at "st"
      refine .inl ⟨D', T2, rfl, SqL.of hT2, ?_⟩
      rw [e2, List.length_map, ← List.length_map (f := fun s => if s - 1 > 0 then s - 1 else 0), List.take_length]
      exact k _ sm2

end
end Fm
end FK2
section FK3
set_option Elab.async false
set_option linter.all false
set_option maxRecDepth 100000
set_option maxHeartbeats 4000000
local macro_rules | `(tactic| walk_at "ne") => `(tactic| first | assumption | (apply Ne.symm; assumption) | exact L2.ne_of_none (by assumption) (by assumption) | exact Ne.symm (L2.ne_of_none (by assumption) (by assumption)))
local macro_rules | `(tactic| walk_at "hl") => `(tactic| first | assumption | exact L2.upd_same | (refine Eq.trans (L2.upd_ne (by walk_at "ne")) ?_; walk_at "hl"))
local macro_rules | `(tactic| walk_at "sd") => `(tactic| first | (with_reducible show (_ : Int) < _; omega) | (with_reducible show (_ : Int) ≤ _; omega) | assumption | decide | exact ⟨by assumption, by assumption⟩ | exact ⟨by decide, by decide⟩ | exact Or.inr ⟨by decide, by decide⟩ | exact Or.inl ⟨by omega, by omega⟩ | rfl)
local macro_rules | `(tactic| walk_at "st1") => `(tactic| first
  | refine ⟨_, rfl, ?_⟩
  | refine ⟨_, _, rfl, rfl, ?_⟩
  | refine ⟨_, _, rfl, ?_⟩
  | (refine ⟨_, _, _, _, rfl, rfl, L2.SqL.of (by walk_at "hl"), rfl, ?_⟩)
  | (refine ⟨_, _, _, _, rfl, rfl, L2.SqT.of (by walk_at "hl"), rfl, ?_⟩)
  | (refine ⟨_, _, _, _, rfl, rfl, (by walk_at "hl"), rfl, ?_⟩)
  | (refine And.intro (by walk_at "sd") ?_)
  )
local macro_rules | `(tactic| walk_at "st") => `(tactic| repeat walk_at "st1")
local macro_rules | `(tactic| walk_at "op") => `(tactic| try dsimp only [L2.tSeq, L2.tAsg, L2.tOp, L2.tVar, L2.tC, L2.gSub, L2.rI, L2.rI0, L2.rIxL, L2.rIxT, L2.rSetL, L2.tIfS, L2.tTest, L2.tRet, L2.gName, L2.tNext, L2.tAnd, L2.tOr, L2.tNot, L2.tAndV, L2.tOrV, L2.tNotV, L2.tB, L2.tCB, L2.tCons, L2.tNil, L2.tCall, L2.tTup, L2.tLst, L2.tChain, L2.tUn, L2.tPar, L2.tDrop, L2.tIf, L2.tBM, L2.tBM0, L2.rAppend, L2.rCat, L2.rIsi, L2.rIsiT, L2.gTup, L2.gCons, L2.gNil, Fm.tFor_eq, Fm.tLc_eq, L2.iTup, L2.iList, L2.iRng1, L2.iRng2, L2.tSl, L2.tPart, L2.tNoPart, L2.rSlL, L2.rEq, L2.rNe, L2.rU, L2.rEqD, L2.rNeD, Fm.tRevT, Fm.rLenS, Fm.rTupOf, Fm.rLstOf, L2.tDNewK, L2.tCallS, L2.WE, Fm.wKeep, Fm.rIsK, Fm.rIsKT, List.cons_append, List.nil_append, L2.tYes])
namespace Fm
open PySem PySem.Spec PyProof.Rows L2
abbrev s_check_standing : Stmt := top 19
abbrev N_check_standing : List Str := ["house", "standing", "m", "floors"]
theorem sc_check_standing : FnScope N_check_standing ["house", "standing"] (defScope s_check_standing) := ⟨rfl, rfl, rfl, by decide +kernel, rfl, by decide +kernel, by decide +kernel⟩
section
variable {P : Program} {w : World} {K : PySem.W.Frag} {mg : Str → Option Value} {base : Heap}
def spWho (K : PySem.W.Frag) : Sp := fun vs H Q _ => ∃ (hv sv : V) (p p' : Addr) (hd : PyData) (m n : Nat) (rows : List (List Int)) (out : Int), vs = [hv, sv] ∧ Dat H p hv hd ∧ HouseN m n hd ∧ Dat H p' sv (stD rows out) ∧ rows.length = n ∧ StOk m rows out ∧
  ∀ q H', H q = none → H' q = some (.tup ((comeF 0 rows).map fun s => V.bl (decide (s > 0)))) → Same H H' → Q (.ref q) H'
def spStIn (R : List (List Int) → Int → VK → Hp → Prop) : Sp := fun vs H Q _ => ∃ (hv sv : V) (p p' : Addr) (hd : PyData) (m n : Nat) (rows : List (List Int)) (out : Int), vs = [hv, sv] ∧ Dat H p hv hd ∧ HouseN m n hd ∧ Dat H p' sv (stD rows out) ∧ rows.length = n ∧ StOk m rows out ∧ R rows out Q H
def spCheck : Sp := spStIn fun _ _ Q H => ∀ H', Same H H' → Q .non H'
theorem ok_check_standing (D : Df K mg "check_standing" s_check_standing ["house", "standing"]) (T : Nms mg) {C M C2 : Addr} (EX_NoStanding : Exn K mg "NoStanding" C2 M)
    (c_size : CallOk P w K mg base (L2.CX P w) 6 "size" ["house"] (spSize C)) (c_has_form : CallOk P w K mg base CX0 4 "has_form" ["thing", "m", "floors", "most"] spForm) :
    CallOk P w K mg base (L2.CX P w) 7 "check_standing" ["house", "standing"] spCheck := by
  refine df_okX D sc_check_standing (fun vs H Q E h => ?_) (fun f cdv A outer s H vs Q E hr h => ?_)
  · obtain ⟨hv, sv, p, p', hd, m, n, rows, out, rfl, _⟩ := h
    rfl
  · obtain ⟨hv, sv, p, p', hd, m, n, rows, out, rfl, hD, hN, sD, hl, ok, k⟩ := h
    have nd := sc_check_standing.nd
    refine ⟨_, (pss_cons (ps_asg (pe_cx c_size (hr.mono (by omega)) (pa_cons (pv 0) pa_nil)) (pg_tup rfl (pgs_cons (pg_name (i := 2) nd rfl (Or.inl rfl)) (pgs_cons (pg_name (i := 3) nd rfl (Or.inl rfl)) pgs_nil))))
      (pss_one (ps_if (pt_not (pt_val (pe_cc c_has_form (hr.mono (by omega)) (pa_cons (pv 1) (pa_cons (pv 2) (pa_cons (pv 3) (pa_cons pe_non pa_nil))))))) (pss_one (ps_raiseE rfl (takes_of rfl rfl rfl rfl) EX_NoStanding rfl)) pss_nil))), ?_⟩
    walk_at "op"
    walk_at "st"
    refine ⟨hv, p, hd, rfl, hD, fun m' n' hN' q H' hq hq2 sm => ?_, fun no => (no ⟨m, n, hN⟩).elim⟩
    obtain ⟨rfl, rfl⟩ := houseN_inj hN hN'
    refine ⟨q, _, rfl, SqT.of hq2, rfl, _, _, rfl, _, _, rfl, rfl, ?_⟩
    walk_at "op"
    walk_at "st"
    obtain ⟨_, _, _, hn1, hn4, _⟩ := hN
    refine ⟨sv, p', m, n, rows, out, rfl, sD.same sm, hl, hn1, hn4, ok, fun H2 sm2 => ?_⟩
    walk_at "st"
    exact iteF (k _ (sm.trans sm2))
end
end Fm
end FK3
section FK4
set_option Elab.async false
set_option linter.all false
set_option maxRecDepth 100000
set_option maxHeartbeats 4000000
local macro_rules | `(tactic| walk_at "ne") => `(tactic| first | assumption | (apply Ne.symm; assumption) | exact L2.ne_of_none (by assumption) (by assumption) | exact Ne.symm (L2.ne_of_none (by assumption) (by assumption)))
local macro_rules | `(tactic| walk_at "hl") => `(tactic| first | assumption | exact L2.upd_same | (refine Eq.trans (L2.upd_ne (by walk_at "ne")) ?_; walk_at "hl"))
local macro_rules | `(tactic| walk_at "sd") => `(tactic| first | (with_reducible show (_ : Int) < _; omega) | (with_reducible show (_ : Int) ≤ _; omega) | assumption | decide | exact ⟨by assumption, by assumption⟩ | exact ⟨by decide, by decide⟩ | exact Or.inr ⟨by decide, by decide⟩ | exact Or.inl ⟨by omega, by omega⟩ | rfl)
local macro_rules | `(tactic| walk_at "st1") => `(tactic| first
  | refine ⟨_, rfl, ?_⟩
  | refine ⟨_, _, rfl, rfl, ?_⟩
  | refine ⟨_, _, rfl, ?_⟩
  | (refine ⟨_, _, _, _, rfl, rfl, L2.SqL.of (by walk_at "hl"), rfl, ?_⟩)
  | (refine ⟨_, _, _, _, rfl, rfl, L2.SqT.of (by walk_at "hl"), rfl, ?_⟩)
  | (refine ⟨_, _, _, _, rfl, rfl, (by walk_at "hl"), rfl, ?_⟩)
  | (refine And.intro (by walk_at "sd") ?_)
  )
local macro_rules | `(tactic| walk_at "st") => `(tactic| repeat walk_at "st1")
local macro_rules | `(tactic| walk_at "op") => `(tactic| try dsimp only [L2.tSeq, L2.tAsg, L2.tOp, L2.tVar, L2.tC, L2.gSub, L2.rI, L2.rI0, L2.rIxL, L2.rIxT, L2.rSetL, L2.tIfS, L2.tTest, L2.tRet, L2.gName, L2.tNext, L2.tAnd, L2.tOr, L2.tNot, L2.tAndV, L2.tOrV, L2.tNotV, L2.tB, L2.tCB, L2.tCons, L2.tNil, L2.tCall, L2.tTup, L2.tLst, L2.tChain, L2.tUn, L2.tPar, L2.tDrop, L2.tIf, L2.tBM, L2.tBM0, L2.rAppend, L2.rCat, L2.rIsi, L2.rIsiT, L2.gTup, L2.gCons, L2.gNil, Fm.tFor_eq, Fm.tLc_eq, L2.iTup, L2.iList, L2.iRng1, L2.iRng2, L2.tSl, L2.tPart, L2.tNoPart, L2.rSlL, L2.rEq, L2.rNe, L2.rU, L2.rEqD, L2.rNeD, Fm.tRevT, Fm.rLenS, Fm.rTupOf, Fm.rLstOf, L2.tDNewK, L2.tCallS, L2.WE, Fm.wKeep, Fm.rIsK, Fm.rIsKT, List.cons_append, List.nil_append, L2.tYes])
namespace Fm
open PySem PySem.Spec PyProof.Rows L2
section
variable {P : Program} {w : World} {K : PySem.W.Frag} {mg : Str → Option Value} {base : Heap}
theorem max_le_one {l : List Int} {M : Int} (h1 : M ∈ l) (h2 : ∀ y, y ∈ l → y ≤ M) : (decide (M ≤ 1) = true ↔ ∀ y ∈ l, y ≤ 1) :=
  ⟨fun z y hy => Int.le_trans (h2 y hy) (of_decide_eq_true z), fun z => decide_eq_true (z M h1)⟩
def spStill : Sp := fun vs H Q _ => ∃ (v : V) (p : Addr) (rows : List (List Int)) (out : Int), vs = [v] ∧ Dat H p v (stD rows out) ∧ 1 ≤ rows.length ∧ rows.length ≤ 4 ∧ ∀ (b : Bool) H', (b = true ↔ ∀ r ∈ rows, r.sum ≤ 1) → Same H H' → Q (.bl b) H'
def spAdded : Sp := fun vs H Q _ => ∃ (v1 v2 : V) (p p' : Addr) (r1 r2 : List Int), vs = [v1, v2] ∧ Dat H p v1 (rowD r1) ∧ Dat H p' v2 (rowD r2) ∧ r1.length = r2.length ∧ r1.length ≤ 6 ∧
  ∀ q H', H q = none → H' q = some (.tup ((List.zipWith (· + ·) r1 r2).map V.int)) → Same H H' → Q (.ref q) H'
def addRows (a b : List (List Int)) : List (List Int) := List.zipWith (List.zipWith (· + ·)) a b
theorem Dat.off {H : Hp} {p L : Addr} {o : HO} {v : V} {d : PyData} (h : Dat H p v d) (hL : H L = none) : Dat (upd H L o) p v d := h.same (same_new hL)
theorem Dats.off {H : Hp} {p L : Addr} {o : HO} {xs : List V} {ds : List PyData} (h : Dats H p xs ds) (hL : H L = none) : Dats (upd H L o) p xs ds := ⟨h.1, fun i x d a b => (h.2 i x d a b).off hL⟩
theorem Dats.same {H H' : Hp} {p : Addr} {xs : List V} {ds : List PyData} (h : Dats H p xs ds) (e : Same H H') : Dats H' p xs ds := ⟨h.1, fun i x d a b => (h.2 i x d a b).same e⟩
def spTogether : Sp := fun vs H Q _ => ∃ (hv v1 v2 : V) (p ph : Addr) (hd : PyData) (m n : Nat) (R1 R2 : List (List Int)) (o1 o2 : Int) (u : HO), vs = [hv, v1, v2] ∧ H p = some u ∧ Dat H ph hv hd ∧ HouseN m n hd ∧ Dat H p v1 (stD R1 o1) ∧ Dat H p v2 (stD R2 o2) ∧ R1.length = n ∧ R2.length = n ∧ StOk m R1 o1 ∧ StOk m R2 o2 ∧
  ∀ v H', Dat H' p v (stD (addRows R1 R2) (o1 + o2)) → Same H H' → Q v H'

end
end Fm
end FK4
section FS1
set_option Elab.async false
set_option linter.all false
set_option maxRecDepth 100000
set_option maxHeartbeats 4000000
local macro_rules | `(tactic| walk_at "ne") => `(tactic| first | assumption | (apply Ne.symm; assumption) | exact L2.ne_of_none (by assumption) (by assumption) | exact Ne.symm (L2.ne_of_none (by assumption) (by assumption)))
local macro_rules | `(tactic| walk_at "hl") => `(tactic| first | assumption | exact L2.upd_same | (refine Eq.trans (L2.upd_ne (by walk_at "ne")) ?_; walk_at "hl"))
local macro_rules | `(tactic| walk_at "sd") => `(tactic| first | (with_reducible show (_ : Int) < _; omega) | (with_reducible show (_ : Int) ≤ _; omega) | assumption | decide | exact ⟨by assumption, by assumption⟩ | exact ⟨by decide, by decide⟩ | exact Or.inr ⟨by decide, by decide⟩ | exact Or.inl ⟨by omega, by omega⟩ | rfl)
local macro_rules | `(tactic| walk_at "st1") => `(tactic| first
  | refine ⟨_, rfl, ?_⟩
  | refine ⟨_, _, rfl, rfl, ?_⟩
  | refine ⟨_, _, rfl, ?_⟩
  | (refine ⟨_, _, _, _, rfl, rfl, L2.SqL.of (by walk_at "hl"), rfl, ?_⟩)
  | (refine ⟨_, _, _, _, rfl, rfl, L2.SqT.of (by walk_at "hl"), rfl, ?_⟩)
  | (refine ⟨_, _, _, _, rfl, rfl, (by walk_at "hl"), rfl, ?_⟩)
  | (refine And.intro (by walk_at "sd") ?_)
  )
local macro_rules | `(tactic| walk_at "st") => `(tactic| repeat walk_at "st1")
local macro_rules | `(tactic| walk_at "op") => `(tactic| try dsimp only [L2.tSeq, L2.tAsg, L2.tOp, L2.tVar, L2.tC, L2.gSub, L2.rI, L2.rI0, L2.rIxL, L2.rIxT, L2.rSetL, L2.tIfS, L2.tTest, L2.tRet, L2.gName, L2.tNext, L2.tAnd, L2.tOr, L2.tNot, L2.tAndV, L2.tOrV, L2.tNotV, L2.tB, L2.tCB, L2.tCons, L2.tNil, L2.tCall, L2.tTup, L2.tLst, L2.tChain, L2.tUn, L2.tPar, L2.tDrop, L2.tIf, L2.tBM, L2.tBM0, L2.rAppend, L2.rCat, L2.rIsi, L2.rIsiT, L2.gTup, L2.gCons, L2.gNil, Fm.tFor_eq, Fm.tLc_eq, L2.iTup, L2.iList, L2.iRng1, L2.iRng2, L2.tSl, L2.tPart, L2.tNoPart, L2.rSlL, L2.rEq, L2.rNe, L2.rU, L2.rEqD, L2.rNeD, Fm.tRevT, Fm.rLenS, Fm.rTupOf, Fm.rLstOf, L2.tDNewK, L2.tCallS, L2.WE, Fm.wKeep, Fm.rIsK, Fm.rIsKT, List.cons_append, List.nil_append, L2.tYes])
namespace Fm
open PySem PySem.Spec PyProof.Rows L2
section
variable {P : Program} {w : World} {K : PySem.W.Frag} {mg : Str → Option Value} {base : Heap}
theorem sumF_take {c : List Int} {i : Nat} {x : Int} (h : c[i]? = some x) (r : Int) : r + (c.take i).sum + x = r + (c.take (i + 1)).sum := by
  rw [List.take_add_one, h, List.sum_append]
  show _ = r + (_ + (x + 0))
  omega
theorem sum_pos : ∀ {c : List Int}, (∀ x ∈ c, 0 ≤ x) → 0 ≤ c.sum
  | [], _ => Int.le_refl 0
  | x :: c, h => by
    rw [List.sum_cons]
    have := h x List.mem_cons_self
    have := sum_pos (c := c) fun y hy => h y (List.mem_cons_of_mem _ hy)
    omega
def spSums : Sp := fun vs H Q _ => ∃ (v : V) (p : Addr) (rows : List (List Int)) (out : Int) (m : Nat), vs = [v] ∧ Dat H p v (stD rows out) ∧ rows.length ≤ 4 ∧ StOk m rows out ∧ ∀ q H', H q = none → H' q = some (.lst ((comeF 0 rows).map V.int)) → Same H H' → Q (.ref q) H'

end
end Fm
end FS1
section FC1
set_option Elab.async false
set_option linter.all false
set_option maxRecDepth 100000
set_option maxHeartbeats 4000000
local macro_rules | `(tactic| walk_at "ne") => `(tactic| first | assumption | (apply Ne.symm; assumption) | exact L2.ne_of_none (by assumption) (by assumption) | exact Ne.symm (L2.ne_of_none (by assumption) (by assumption)))
local macro_rules | `(tactic| walk_at "hl") => `(tactic| first | assumption | exact L2.upd_same | (refine Eq.trans (L2.upd_ne (by walk_at "ne")) ?_; walk_at "hl"))
local macro_rules | `(tactic| walk_at "sd") => `(tactic| first | (with_reducible show (_ : Int) < _; omega) | (with_reducible show (_ : Int) ≤ _; omega) | assumption | decide | exact ⟨by assumption, by assumption⟩ | exact ⟨by decide, by decide⟩ | exact Or.inr ⟨by decide, by decide⟩ | exact Or.inl ⟨by omega, by omega⟩ | rfl)
local macro_rules | `(tactic| walk_at "st1") => `(tactic| first
  | refine ⟨_, rfl, ?_⟩
  | refine ⟨_, _, rfl, rfl, ?_⟩
  | refine ⟨_, _, rfl, ?_⟩
  | (refine ⟨_, _, _, _, rfl, rfl, L2.SqL.of (by walk_at "hl"), rfl, ?_⟩)
  | (refine ⟨_, _, _, _, rfl, rfl, L2.SqT.of (by walk_at "hl"), rfl, ?_⟩)
  | (refine ⟨_, _, _, _, rfl, rfl, (by walk_at "hl"), rfl, ?_⟩)
  | (refine And.intro (by walk_at "sd") ?_)
  )
local macro_rules | `(tactic| walk_at "st") => `(tactic| repeat walk_at "st1")
local macro_rules | `(tactic| walk_at "op") => `(tactic| try dsimp only [L2.tSeq, L2.tAsg, L2.tOp, L2.tVar, L2.tC, L2.gSub, L2.rI, L2.rI0, L2.rIxL, L2.rIxT, L2.rSetL, L2.tIfS, L2.tTest, L2.tRet, L2.gName, L2.tNext, L2.tAnd, L2.tOr, L2.tNot, L2.tAndV, L2.tOrV, L2.tNotV, L2.tB, L2.tCB, L2.tCons, L2.tNil, L2.tCall, L2.tTup, L2.tLst, L2.tChain, L2.tUn, L2.tPar, L2.tDrop, L2.tIf, L2.tBM, L2.tBM0, L2.rAppend, L2.rCat, L2.rIsi, L2.rIsiT, L2.gTup, L2.gCons, L2.gNil, Fm.tFor_eq, Fm.tLc_eq, L2.iTup, L2.iList, L2.iRng1, L2.iRng2, L2.tSl, L2.tPart, L2.tNoPart, L2.rSlL, L2.rEq, L2.rNe, L2.rU, L2.rEqD, L2.rNeD, Fm.tRevT, Fm.rLenS, Fm.rTupOf, Fm.rLstOf, L2.tDNewK, L2.tCallS, L2.WE, Fm.wKeep, Fm.rIsK, Fm.rIsKT, List.cons_append, List.nil_append, L2.tYes])
namespace Fm
open PySem PySem.Spec PyProof.Rows L2
abbrev s_law_crowd : Stmt := top 41
abbrev N_law_crowd : List Str := ["standing", "floors", "counts", "number", "many"]
theorem sc_law_crowd : FnScope N_law_crowd ["standing"] (defScope s_law_crowd) := ⟨rfl, rfl, rfl, by decide +kernel, rfl, by decide +kernel, by decide +kernel⟩
section
variable {P : Program} {w : World} {K : PySem.W.Frag} {mg : Str → Option Value} {base : Heap}
/-! ### people told apart, floor by floor -/
def rowL (r : List Int) : PyData := .list (r.map PyData.int)
def crowdD (fl : List (List Int)) (out : Int) : PyData := .tuple [.list (fl.map rowL), .int out]
def rowOf (c : List Int) (n : Nat) : List Int := (List.range n).flatMap fun i => List.replicate (c.getD i 0).toNat (i : Int)
theorem rowOf_succ (c : List Int) (n : Nat) : rowOf c (n + 1) = rowOf c n ++ List.replicate (c.getD n 0).toNat (n : Int) := by
  unfold rowOf
  rw [List.range_succ, List.flatMap_append, List.flatMap_singleton]
theorem rowOf_len (c : List Int) (hp : ∀ x ∈ c, 0 ≤ x) : ∀ n, n ≤ c.length → ((rowOf c n).length : Int) = (c.take n).sum
  | 0, _ => rfl
  | n + 1, h => by
    have ih := rowOf_len c hp n (by omega)
    have e : c[n]? = some (c.getD n 0) := by
      rw [List.getD_eq_getElem?_getD, List.getElem?_eq_getElem (show n < c.length by omega)]
      rfl
    have q := sumF_take e 0
    have hn := hp _ (List.mem_of_getElem? e)
    rw [rowOf_succ, List.length_append, List.length_replicate]
    omega
theorem rowOf_in (c : List Int) : ∀ n, ∀ e ∈ rowOf c n, 0 ≤ e ∧ e < (n : Int) := fun n e he => by
  unfold rowOf at he
  obtain ⟨i, hi, h⟩ := List.mem_flatMap.mp he
  have := List.mem_range.mp hi
  have e1 := (List.mem_replicate.mp h).2
  omega
theorem rep_one (n : Nat) (x : V) : (List.replicate n [x]).flatten = List.replicate n x := by
  induction n with
  | zero => rfl
  | succ n ih => rw [List.replicate_succ, List.flatten_cons, ih, List.replicate_succ]; rfl
theorem flat_rowOf (c : List Int) (n : Nat) : ((List.range n).flatMap fun i => List.replicate (c.getD i 0).toNat (V.int i)) = (rowOf c n).map V.int := by
  unfold rowOf
  rw [List.map_flatMap]
  congr 1
  funext i
  rw [List.map_replicate]
/-- a list at L of lists of ints -/
structure LL (H : Hp) (p L : Addr) (ws : List V) (fl : List (List Int)) : Prop where
  at_ : H L = some (.lst ws)
  len : ws.length = fl.length
  row : ∀ (j : Nat) (c : List Int), fl[j]? = some c → ∃ b : Addr, ws[j]? = some (V.ref b) ∧ H b = some (.lst (c.map V.int)) ∧ b ≠ L ∧ b ≠ p
theorem LL.nil {H : Hp} {p L : Addr} (h : H L = some (.lst [])) : LL H p L [] [] := ⟨h, rfl, fun j c e => by cases e⟩
theorem LL.same {H H' : Hp} {p L : Addr} {ws : List V} {fl : List (List Int)} (h : LL H p L ws fl) (e : Same H H') : LL H' p L ws fl :=
  ⟨e _ _ h.at_, h.len, fun j c q => by
    obtain ⟨b, e1, e2, e3⟩ := h.row j c q
    exact ⟨b, e1, e _ _ e2, e3⟩⟩
theorem LL.snoc {H : Hp} {p L b : Addr} {ws : List V} {fl : List (List Int)} {c : List Int} (h : LL H p L ws fl) (hb : H b = some (.lst (c.map V.int))) (n1 : b ≠ L) (n2 : b ≠ p) : LL (upd H L (.lst (ws ++ [.ref b]))) p L (ws ++ [.ref b]) (fl ++ [c]) := by
  refine ⟨upd_same, by rw [List.length_append, List.length_append, h.len]; rfl, fun j d q => ?_⟩
  by_cases hj : j < fl.length
  · rw [List.getElem?_append_left hj] at q
    obtain ⟨b', e1, e2, e3, e4⟩ := h.row j d q
    exact ⟨b', by rw [List.getElem?_append_left (by rw [h.len]; exact hj)]; exact e1, by rw [upd_ne e3]; exact e2, e3, e4⟩
  · rw [List.getElem?_append_right (by omega)] at q
    cases z : j - fl.length with
    | zero =>
      rw [z] at q
      cases q
      exact ⟨b, by rw [List.getElem?_append_right (by rw [h.len]; omega), h.len, z]; rfl, by rw [upd_ne n1]; exact hb, n1, n2⟩
    | succ k =>
      rw [z] at q
      cases q
theorem LL.dat {H : Hp} {p L : Addr} {ws : List V} {fl : List (List Int)} (h : LL H p L ws fl) (n : L ≠ p) : Dat H p (.ref L) (.list (fl.map rowL)) := by
  refine .lst h.at_ n (by rw [h.len, List.length_map]) fun i x d e1 e2 => ?_
  rw [List.getElem?_map] at e2
  cases q : fl[i]? with
  | none => rw [q] at e2; cases e2
  | some c =>
    rw [q] at e2
    cases e2
    obtain ⟨b, h1, h2, _, h4⟩ := h.row i c q
    rw [h1] at e1
    cases e1
    exact .lst h2 h4 (by rw [List.length_map, List.length_map]) fun j x d a b => (Dats.ints (H := H) (p := p) c).2 j x d a b
theorem le_sum : ∀ {c : List Int}, (∀ x ∈ c, 0 ≤ x) → ∀ {x}, x ∈ c → x ≤ c.sum
  | y :: c, h, x, hx => by
    rw [List.sum_cons]
    have h1 := h y List.mem_cons_self
    have h2 := sum_pos (c := c) fun z hz => h z (List.mem_cons_of_mem _ hz)
    rcases List.mem_cons.mp hx with rfl | hx
    · omega
    · have := le_sum (c := c) (fun z hz => h z (List.mem_cons_of_mem _ hz)) hx
      omega
def spCrowd : Sp := fun vs H Q _ => ∃ (v : V) (p : Addr) (u : HO) (rows : List (List Int)) (out : Int) (m : Nat), vs = [v] ∧ H p = some u ∧ Dat H p v (stD rows out) ∧ rows.length ≤ 4 ∧ 1 ≤ m ∧ m ≤ 6 ∧ StOk m rows out ∧ (∀ r ∈ rows, r.sum ≤ 100) ∧
  ∀ v' H', Dat H' p v' (crowdD (rows.map fun c => rowOf c m) out) → Same H H' → Q v' H'
theorem ok_law_crowd (D : Df K mg "_law_crowd" s_law_crowd ["standing"]) (T : Nms mg) : CallOk P w K mg base CX0 1 "_law_crowd" ["standing"] spCrowd := by
  refine df_ok D sc_law_crowd (fun vs H Q E h => ?_) (fun f cdv A outer s H vs Q E hr h => ?_)
  · obtain ⟨v, p, u, rows, out, m, rfl, _⟩ := h
    rfl
  · obtain ⟨v, p, u, rows, out, m, rfl, hp, hd, hn4, hm1, hm6, ok, hs, k⟩ := h
    obtain ⟨a, xs, rfl, ha, nap, hx⟩ := st_parts hd
    have nd := sc_law_crowd.nd
    have pne : ∀ {S : Addr} {G : Hp}, Same H G → G S = none → S ≠ p := fun {S G} e z q => by
      rw [q] at z
      have := e p u hp
      rw [z] at this
      cases this
    refine ⟨_, (pss_cons (ps_set (i := 1) nd rfl (Or.inl rfl) (pe_lst pa_nil))
      (pss_cons (ps_for PassesOwn.never rfl (pi_tup (pe_slice (r := rSlA K) sl_tupA (pv 0) po_none (po_some (pe_un un_neg pe_int)))) (pg_name (i := 2) nd rfl (Or.inl rfl)) (pss_one (ps_expr (pe_bm PySem.F.plainAttrs_list PySem.F.slot_list_append PySem.F.type_list_append mt_append (pv 1) (pa_cons (pe_callB (r := rSumL K) (cr_sumL rfl) (by rfl) T.n_sum (by decide +kernel) (pa_cons (pe_lc (own := [("number", 3), ("many", 4)]) (g := (gTup K 2 (gCons (gName 3) (gCons (gName 4) gNil)))) (tt := tYes) (by rfl) nd (pi_enumT (by rfl) T.n_enumerate (pa_cons (pv 2) pa_nil)) (blkOk_by (own := [("number", 3), ("many", 4)]) (N := N_law_crowd) (sc := defScope s_law_crowd) (by decide +kernel)) (fun _ _ _ _ _ => (pg_tup rfl (pgs_cons (pg_name (i := 3) nd rfl (Or.inl rfl)) (pgs_cons (pg_name (i := 4) nd rfl (Or.inl rfl)) pgs_nil)))) (fun _ _ _ _ _ => pts_nil) (fun _ _ _ _ _ => (pe_op op_rep (pe_lst (pa_cons (pv 3) pa_nil)) (pv 4)))) (pa_cons (pe_lst pa_nil) pa_nil))) pa_nil)))))
      (pss_one (ps_ret (pe_tup (pa_cons (pv 1) (pa_cons (pe_ix (r := rIxT K) ix_tup (pv 0) (pe_un un_neg pe_int) (fun _ _ => rfl)) pa_nil))))))), ?_⟩
    walk_at "op"
    walk_at "st"
    refine fun L hL => ?_
    have nL : a ≠ L := ne_of_none ha hL
    walk_at "st"
    refine sl_init (SqT.of (by rw [upd_ne nL]; exact ha)) fun q hq => ?_
    have nLq : L ≠ q := ne_of_none upd_same hq
    have hq0 : H q = none := by rw [← hq, upd_ne nLq.symm]
    refine ⟨_, rfl, ⟨_, SqT.of upd_same⟩, fT (xs := xs) (fun i σ H' => Same H H' ∧ H' q = some (.tup xs) ∧ ∃ (ws : List V) (u1 : Option V), σ = [some (.ref a), some (.ref L), u1, none, none] ∧ LL H' p L ws ((rows.take i).map fun c => rowOf c m))
      ⟨sameOff (sameOff (Same.refl H) hL) hq0, upd_same, [], _, rfl, LL.nil (by rw [upd_ne nLq]; exact upd_same)⟩ (fun i σ H' _ ⟨_, e, _⟩ => SqT.of e) ?_ ?_⟩
    · rintro i x σ H' hxi ⟨sm, hq2, ws, u1, rfl, hLL⟩
      obtain ⟨e, he, hde⟩ := hx.at hxi
      rw [List.getElem?_map] at he
      cases er : rows[i]? with
      | none => rw [er] at he; cases he
      | some c =>
        rw [er] at he
        cases he
        obtain ⟨ac, rfl, hac, _⟩ := row_parts (hde.same sm)
        have hrm := List.mem_of_getElem? er
        have hcl := ok.len c hrm
        have hil := (List.getElem?_eq_some_iff.mp er).1
        walk_at "op"
        walk_at "st"
        refine ⟨.inl ⟨rfl, _, SqL.of hLL.at_⟩, ?_⟩
        walk_at "st"
        refine ⟨ac, _, rfl, SqT.of hac, fun D' hD' => ?_⟩
        have hLD : L ≠ D' := ne_of_none hLL.at_ hD'
        have hqD : q ≠ D' := ne_of_none hq2 hD'
        have hDH := sameFree sm hD'
        have hcap : ∀ x ∈ c, 0 ≤ x ∧ x ≤ 100 := fun x hx => by
          refine ⟨ok.pos c hrm x hx, Int.le_trans ?_ (hs c hrm)⟩
          exact le_sum (ok.pos c hrm) hx
        have hgd : ∀ j, j < m → c[j]? = some (c.getD j 0) := fun j hj => by
          rw [List.getD_eq_getElem?_getD, List.getElem?_eq_getElem (show j < c.length by omega)]
          rfl
        refine lI walk_enumT (fun j H2 => Same H' H2 ∧ ∃ ws2 : List V, H2 D' = some (.lst ws2) ∧ ws2.length = j ∧ ∀ k x, ws2[k]? = some x → ∃ b, x = .ref b ∧ b ≠ D' ∧ H2 b = some (.lst (List.replicate (c.getD k 0).toNat (V.int k))))
          ⟨same_new hD', [], upd_same, rfl, fun k x e => by cases e⟩ (fun j H2 _ ⟨e, _⟩ => SqT.of (e _ _ hac)) ?_ ?_
        · rintro j v H2 _ hj ⟨s2, ws2, hw2, hl2, hW2⟩ ⟨t, x, y, rfl, ht, rfl, hxj, hyj⟩
          rw [List.length_map, hcl] at hj
          dsimp only at hxj hyj
          cases hxj
          rw [List.getElem?_map, hgd j hj] at hyj
          cases hyj
          have nDt : D' ≠ t := ne_of_none hw2 ht
          have hcj := hcap _ (List.mem_of_getElem? (hgd j hj))
          walk_at "op"
          refine ⟨t, _, rfl, SqT.of upd_same, rfl, _, _, rfl, _, _, rfl, rfl, ?_⟩
          refine ⟨rfl, ?_⟩
          walk_at "st"
          refine ⟨by show 1 ≤ sizeLine; decide, fun l hl => ?_⟩
          walk_at "st"
          refine ⟨l, _, _, rfl, rfl, upd_same, by omega, by omega, by show 1 * _ ≤ sizeLine; exact len_le (by omega), fun r hr => ?_⟩
          have nDl : D' ≠ l := ne_of_none (by rw [upd_ne nDt]; exact hw2) hl
          have nDr : D' ≠ r := ne_of_none (by rw [upd_ne nDl, upd_ne nDt]; exact hw2) hr
          have s3 : Same H2 (upd (upd (upd H2 t (.tup [.int j, .int (c.getD j 0)])) l (.lst [.int j])) r (.lst (List.replicate (c.getD j 0).toNat [V.int j]).flatten)) := ((same_new ht).trans (same_new hl)).trans (same_new hr)
          refine ⟨ws2, s3 _ _ hw2, small1000 (by omega), sameOff (s2.trans s3) hD', ws2 ++ [.ref r], upd_same, by rw [List.length_append, hl2]; rfl, fun k x hk => ?_⟩
          by_cases hkj : k < ws2.length
          · rw [List.getElem?_append_left hkj] at hk
            obtain ⟨b, e1, e2, e3⟩ := hW2 k x hk
            exact ⟨b, e1, e2, by rw [upd_ne e2]; exact s3 _ _ e3⟩
          · rw [List.getElem?_append_right (by omega)] at hk
            cases z : k - ws2.length with
            | zero =>
              rw [z] at hk
              cases hk
              have ek : k = j := by omega
              subst ek
              exact ⟨r, rfl, nDr.symm, by rw [upd_ne nDr.symm, upd_same, rep_one]⟩
            | succ w =>
              rw [z] at hk
              cases hk
        · rintro H2 ⟨s2, ws2, hw2, hl2, hW2⟩
          rw [List.length_map, hcl] at hl2
          walk_at "op"
          walk_at "st"
          refine fun t ht => ?_
          have nDt : D' ≠ t := ne_of_none hw2 ht
          have hrl : ((rowOf c m).length : Int) = c.sum := by
            have q := rowOf_len c (ok.pos c hrm) c.length (Nat.le_refl _)
            rw [List.take_length, hcl] at q
            exact q
          have hcs := hs c hrm
          have hfl : (List.range ws2.length).flatMap (fun i => List.replicate (c.getD i 0).toNat (V.int i)) = (rowOf c m).map V.int := by
            rw [hl2]
            exact flat_rowOf c m
          refine ⟨D', t, ws2, [], fun i => List.replicate (c.getD i 0).toNat (V.int i), rfl, SqL.of (by rw [upd_ne nDt]; exact hw2), upd_same, by omega, fun k x e => ?_, ?_, fun r hr => ?_⟩
          · obtain ⟨b, e1, e2, e3⟩ := hW2 k x e
            exact ⟨b, e1, by rw [upd_ne (ne_of_none e3 ht)]; exact e3⟩
          · rw [List.nil_append, hfl, List.length_map]
            exact len_le (by omega)
          · rw [List.nil_append, hfl]
            have s3 : Same H' (upd (upd H2 t (.lst [])) r (.lst ((rowOf c m).map V.int))) := (s2.trans (same_new ht)).trans (same_new hr)
            have hrH' : H' r = none := sameFree (s2.trans (same_new ht)) hr
            have hL3 := hLL.same s3
            have nrL : r ≠ L := Ne.symm (ne_of_none hLL.at_ hrH')
            refine ⟨L, ws, _, rfl, rfl, hL3.at_, small1000 (by rw [hLL.len, List.length_map, List.length_take]; omega), sameOff (sm.trans s3) hL, by rw [upd_ne nLq.symm]; exact s3 _ _ hq2, ws ++ [.ref r], _, rfl, ?_⟩
            have e9 : (rows.take (i + 1)).map (fun c => rowOf c m) = (rows.take i).map (fun c => rowOf c m) ++ [rowOf c m] := by
              rw [List.take_add_one, er, List.map_append]
              rfl
            rw [e9]
            exact hL3.snoc upd_same nrL (pne sm hrH')
    · rintro σ H' ⟨sm, hq2, ws, u1, rfl, hLL⟩
      walk_at "op"
      walk_at "st"
      have hxl : xs.length = rows.length := by rw [hx.1, List.length_map]
      rw [hxl, List.take_length] at hLL
      refine ⟨_, _, _, _, rfl, rfl, SqT.of (sm _ _ ha), atI_last (by omega), ?_⟩
      refine ⟨by show 2 ≤ sizeLine; decide, fun t ht => ?_⟩
      refine k _ _ ?_ (sm.trans (same_new ht))
      have hLp : L ≠ p := pne (Same.refl H) hL
      refine Dat.new ht (pne sm ht) (Dats.cons (hLL.dat hLp) (Dats.cons (.int _) Dats.nil))

end
end Fm
end FC1
section FPR
set_option Elab.async false
set_option linter.all false
set_option maxRecDepth 100000
set_option maxHeartbeats 4000000
local macro_rules | `(tactic| walk_at "ne") => `(tactic| first | assumption | (apply Ne.symm; assumption) | exact L2.ne_of_none (by assumption) (by assumption) | exact Ne.symm (L2.ne_of_none (by assumption) (by assumption)))
local macro_rules | `(tactic| walk_at "hl") => `(tactic| first | assumption | exact L2.upd_same | (refine Eq.trans (L2.upd_ne (by walk_at "ne")) ?_; walk_at "hl"))
local macro_rules | `(tactic| walk_at "sd") => `(tactic| first | (with_reducible show (_ : Int) < _; omega) | (with_reducible show (_ : Int) ≤ _; omega) | assumption | decide | exact ⟨by assumption, by assumption⟩ | exact ⟨by decide, by decide⟩ | exact Or.inr ⟨by decide, by decide⟩ | exact Or.inl ⟨by omega, by omega⟩ | rfl)
local macro_rules | `(tactic| walk_at "st1") => `(tactic| first
  | refine ⟨_, rfl, ?_⟩
  | refine ⟨_, _, rfl, rfl, ?_⟩
  | refine ⟨_, _, rfl, ?_⟩
  | (refine ⟨_, _, _, _, rfl, rfl, L2.SqL.of (by walk_at "hl"), rfl, ?_⟩)
  | (refine ⟨_, _, _, _, rfl, rfl, L2.SqT.of (by walk_at "hl"), rfl, ?_⟩)
  | (refine ⟨_, _, _, _, rfl, rfl, (by walk_at "hl"), rfl, ?_⟩)
  | (refine And.intro (by walk_at "sd") ?_)
  )
local macro_rules | `(tactic| walk_at "st") => `(tactic| repeat walk_at "st1")
local macro_rules | `(tactic| walk_at "op") => `(tactic| try dsimp only [L2.tSeq, L2.tAsg, L2.tOp, L2.tVar, L2.tC, L2.gSub, L2.rI, L2.rI0, L2.rIxL, L2.rIxT, L2.rSetL, L2.tIfS, L2.tTest, L2.tRet, L2.gName, L2.tNext, L2.tAnd, L2.tOr, L2.tNot, L2.tAndV, L2.tOrV, L2.tNotV, L2.tB, L2.tCB, L2.tCons, L2.tNil, L2.tCall, L2.tTup, L2.tLst, L2.tChain, L2.tUn, L2.tPar, L2.tDrop, L2.tIf, L2.tBM, L2.tBM0, L2.rAppend, L2.rCat, L2.rIsi, L2.rIsiT, L2.gTup, L2.gCons, L2.gNil, Fm.tFor_eq, Fm.tLc_eq, L2.iTup, L2.iList, L2.iRng1, L2.iRng2, L2.tSl, L2.tPart, L2.tNoPart, L2.rSlL, L2.rEq, L2.rNe, L2.rU, L2.rEqD, L2.rNeD, Fm.tRevT, Fm.rLenS, Fm.rTupOf, Fm.rLstOf, L2.tDNewK, L2.tCallS, L2.WE, Fm.wKeep, Fm.rIsK, Fm.rIsKT, List.cons_append, List.nil_append, L2.tYes])
namespace Fm
open PySem PySem.Spec PyProof.Rows L2
abbrev s_law_pairs : Stmt := top 44
abbrev N_law_pairs : List Str := ["crowd", "found", "floor", "row", "one", "other"]
theorem sc_law_pairs : FnScope N_law_pairs ["crowd"] (defScope s_law_pairs) := ⟨rfl, rfl, rfl, by decide +kernel, rfl, by decide +kernel, by decide +kernel⟩
section
variable {P : Program} {w : World} {K : PySem.W.Frag} {mg : Str → Option Value} {base : Heap}
theorem Dat.isLst {H : Hp} {p : Addr} {v : V} {ds : List PyData} (h : Dat H p v (.list ds)) : ∃ a xs, v = .ref a ∧ H a = some (.lst xs) ∧ a ≠ p ∧ Dats H p xs ds := by
  cases h with
  | lst h1 h2 h3 h4 => exact ⟨_, _, rfl, h1, h2, h3, h4⟩
theorem rowL_parts {H : Hp} {p : Addr} {v : V} {r : List Int} (h : Dat H p v (rowL r)) : ∃ a, v = .ref a ∧ H a = some (.lst (r.map V.int)) ∧ a ≠ p := by
  obtain ⟨a, ys, rfl, ha, np, hs⟩ := h.isLst
  rw [dats_ints hs] at ha
  exact ⟨a, rfl, ha, np⟩
theorem crowd_parts {H : Hp} {p : Addr} {v : V} {fl : List (List Int)} {out : Int} (h : Dat H p v (crowdD fl out)) : ∃ a F ws, v = .ref a ∧ H a = some (.tup [.ref F, .int out]) ∧ a ≠ p ∧ H F = some (.lst ws) ∧ F ≠ p ∧ Dats H p ws (fl.map rowL) := by
  obtain ⟨a, xs, rfl, ha, na, hs⟩ := h.isTup
  have hl : xs.length = 2 := hs.1
  match xs, hl with
  | [x0, x1], _ =>
    obtain ⟨F, ws, rfl, hF, nF, hW⟩ := (hs.2 0 x0 _ rfl rfl).isLst
    obtain rfl := (hs.2 1 x1 _ rfl rfl).isInt
    exact ⟨a, F, ws, rfl, ha, na, hF, nF, hW⟩
def tup3 (f one other : Nat) : PyData := .tuple [.int f, .int one, .int other]
def tri (f one n : Nat) : List PyData := (List.range n).map fun other => tup3 f one other
def rowP (f n : Nat) : List PyData := (List.range n).flatMap fun one => tri f one one
def allP (ls : List Nat) (n : Nat) : List PyData := (List.range n).flatMap fun f => rowP f (ls.getD f 0)
theorem tri_succ (f one n : Nat) : tri f one (n + 1) = tri f one n ++ [tup3 f one n] := by unfold tri; rw [List.range_succ, List.map_append]; rfl
theorem rowP_succ (f n : Nat) : rowP f (n + 1) = rowP f n ++ tri f n n := by unfold rowP; rw [List.range_succ, List.flatMap_append, List.flatMap_singleton]
theorem allP_succ (ls : List Nat) (n : Nat) : allP ls (n + 1) = allP ls n ++ rowP n (ls.getD n 0) := by unfold allP; rw [List.range_succ, List.flatMap_append, List.flatMap_singleton]
theorem tri_len (f one n : Nat) : (tri f one n).length = n := by unfold tri; rw [List.length_map, List.length_range]
theorem rowP_len (f : Nat) : ∀ n, (rowP f n).length ≤ n * n
  | 0 => Nat.le_refl 0
  | n + 1 => by
    have := rowP_len f n
    rw [rowP_succ, List.length_append, tri_len, Nat.succ_mul, Nat.mul_succ]
    omega
theorem allP_len {ls : List Nat} (h : ∀ l ∈ ls, l ≤ 100) : ∀ n, (allP ls n).length ≤ n * 10000
  | 0 => Nat.le_refl 0
  | n + 1 => by
    have ih := allP_len h n
    have h1 := rowP_len n (ls.getD n 0)
    have h2 : ls.getD n 0 ≤ 100 := by
      rw [List.getD_eq_getElem?_getD]
      cases e : ls[n]? with
      | none => exact Nat.zero_le _
      | some l => exact h l (List.mem_of_getElem? e)
    have h3 := Nat.mul_le_mul h2 h2
    rw [allP_succ, List.length_append, Nat.succ_mul]
    omega
theorem allP_mem {ls : List Nat} {n : Nat} {d : PyData} (h : d ∈ allP ls n) : ∃ f one other, d = tup3 f one other ∧ f < n ∧ other < one ∧ one < ls.getD f 0 := by
  obtain ⟨f, hf, h⟩ := List.mem_flatMap.mp h
  obtain ⟨one, ho, h⟩ := List.mem_flatMap.mp h
  obtain ⟨other, hx, h⟩ := List.mem_map.mp h
  exact ⟨f, one, other, h.symm, List.mem_range.mp hf, List.mem_range.mp hx, List.mem_range.mp ho⟩
theorem allP_some {ls : List Nat} {n f : Nat} (hf : f < n) (h : 2 ≤ ls.getD f 0) : allP ls n ≠ [] := by
  intro e
  have : tup3 f 1 0 ∈ allP ls n := List.mem_flatMap.mpr ⟨f, List.mem_range.mpr hf, List.mem_flatMap.mpr ⟨1, List.mem_range.mpr (by omega), List.mem_map.mpr ⟨0, List.mem_range.mpr (by omega), rfl⟩⟩⟩
  rw [e] at this
  cases this
theorem allP_none {ls : List Nat} {n : Nat} (h : ∀ f, f < n → ls.getD f 0 ≤ 1) : allP ls n = [] := by
  cases e : allP ls n with
  | nil => rfl
  | cons d r =>
    obtain ⟨f, one, other, _, h1, h2, h3⟩ := allP_mem (d := d) (by rw [e]; exact List.mem_cons_self)
    have := h f h1
    omega
theorem tri_no (f one n : Nat) : ∀ d ∈ tri f one n, noList d = true := fun d hd => by
  obtain ⟨x, _, rfl⟩ := List.mem_map.mp hd
  exact noList_of fun e he => by
    simp only [List.mem_cons, List.not_mem_nil, or_false] at he
    rcases he with rfl | rfl | rfl <;> (unfold noList; rfl)
theorem rowP_no (f n : Nat) : ∀ d ∈ rowP f n, noList d = true := fun d hd => by
  obtain ⟨x, _, h⟩ := List.mem_flatMap.mp hd
  exact tri_no _ _ _ d h
theorem allP_no (ls : List Nat) (n : Nat) : ∀ d ∈ allP ls n, noList d = true := fun d hd => by
  obtain ⟨x, _, h⟩ := List.mem_flatMap.mp hd
  exact rowP_no _ _ d h
theorem Dats.app {H : Hp} {p : Addr} {xs ys : List V} {ds es : List PyData} (h : Dats H p xs ds) (k : Dats H p ys es) : Dats H p (xs ++ ys) (ds ++ es) := by
  refine ⟨by rw [List.length_append, List.length_append, h.1, k.1], fun i x e a b => ?_⟩
  by_cases hi : i < xs.length
  · rw [List.getElem?_append_left hi] at a
    rw [List.getElem?_append_left (by rw [← h.1]; exact hi)] at b
    exact h.2 i x e a b
  · rw [List.getElem?_append_right (by omega)] at a
    rw [List.getElem?_append_right (by rw [← h.1]; omega), ← h.1] at b
    exact k.2 _ x e a b
def lensOf (fl : List (List Int)) : List Nat := fl.map List.length
def spPairs : Sp := fun vs H Q _ => ∃ (v : V) (p : Addr) (u : HO) (fl : List (List Int)) (out : Int), vs = [v] ∧ H p = some u ∧ Dat H p v (crowdD fl out) ∧ fl.length ≤ 4 ∧ (∀ l ∈ lensOf fl, l ≤ 100) ∧
  ∀ q ws H', H q = none → H' q = some (.lst ws) → Dats H' p ws (allP (lensOf fl) fl.length) → Same H H' → Q (.ref q) H'
theorem ok_law_pairs (D : Df K mg "_law_pairs" s_law_pairs ["crowd"]) (T : Nms mg) : CallOk P w K mg base CX0 1 "_law_pairs" ["crowd"] spPairs := by
  refine df_ok D sc_law_pairs (fun vs H Q E h => ?_) (fun f cdv A outer s H vs Q E hr h => ?_)
  · obtain ⟨v, p, u, fl, out, rfl, _⟩ := h
    rfl
  · obtain ⟨v, p, u, fl, out, rfl, hp, hd, hn4, h100, k⟩ := h
    obtain ⟨a, F, ws, rfl, ha, na, hF, nF, hW⟩ := crowd_parts hd
    have nd := sc_law_pairs.nd
    have pne : ∀ {S : Addr} {G : Hp}, Same H G → G S = none → S ≠ p := fun {S G} e z q => by
      rw [q] at z
      have := e p u hp
      rw [z] at this
      cases this
    refine ⟨_, (pss_cons (ps_set (i := 1) nd rfl (Or.inl rfl) (pe_lst pa_nil))
      (pss_cons (ps_for PassesOwn.never rfl (pi_enum (by rfl) T.n_enumerate (pa_cons (pe_ix (r := rIxT K) ix_tup (pv 0) pe_int (fun _ _ => rfl)) pa_nil)) (pg_tup rfl (pgs_cons (pg_name (i := 2) nd rfl (Or.inr rfl)) (pgs_cons (pg_name (i := 3) nd rfl (Or.inl rfl)) pgs_nil))) (pss_one (ps_for PassesOwn.never rfl (pi_range1 rfl T.n_range (pa_cons (pe_callB (r := rLenS K) call_lenS (by rfl) T.n_len (by decide +kernel) (pa_cons (pv 3) pa_nil)) pa_nil)) (pg_name (i := 4) nd rfl (Or.inr rfl)) (pss_one (ps_expr (pe_bm PySem.F.plainAttrs_list PySem.F.slot_list_extend PySem.F.type_list_extend mt_extend (pv 1) (pa_cons (pe_lc (own := [("other", 5)]) (g := (gName 5)) (tt := tYes) (by rfl) nd (pi_range1 rfl T.n_range (pa_cons (pv 4) pa_nil)) (blkOk_by (own := [("other", 5)]) (N := N_law_pairs) (sc := defScope s_law_pairs) (by decide +kernel)) (fun _ _ _ _ _ => (pg_name (i := 5) nd rfl (Or.inl rfl))) (fun _ _ _ _ _ => pts_nil) (fun _ _ _ _ _ => (pe_tup (pa_cons (pv 2) (pa_cons (pv 4) (pa_cons (pv 5) pa_nil)))))) pa_nil)))))))
      (pss_one (ps_ret (pv 1))))), ?_⟩
    walk_at "op"
    walk_at "st"
    refine fun L hL => ?_
    have nL : a ≠ L := ne_of_none ha hL
    have nFL : F ≠ L := ne_of_none hF hL
    walk_at "st"
    refine ⟨F, ws, rfl, SqL.of (by rw [upd_ne nFL]; exact hF), ?_⟩
    refine fI walk_enum (fun i σ H' => Same H H' ∧ ∃ (xs : List V) (u1 u2 u3 : Option V), σ = [some (.ref a), some (.ref L), u1, u2, u3, none] ∧ H' L = some (.lst xs) ∧ Dats H' p xs (allP (lensOf fl) i))
      ⟨sameOff (Same.refl H) hL, [], _, _, _, rfl, upd_same, Dats.nil⟩ (fun i σ H' _ ⟨e, _⟩ => SqL.of (e _ _ hF)) ?_ ?_
    · rintro i v σ H1 _ hi ⟨sm, xs, u1, u2, u3, rfl, hL1, hD1⟩ ⟨t, x, y, rfl, ht, rfl, hxi, hyi⟩
      dsimp only at hxi hyi
      cases hxi
      obtain ⟨e, he, hde⟩ := hW.at hyi
      rw [List.getElem?_map] at he
      cases er : fl[i]? with
      | none => rw [er] at he; cases he
      | some c =>
        rw [er] at he
        cases he
        obtain ⟨b, rfl, hb, _⟩ := rowL_parts hde
        have hlc : (lensOf fl).getD i 0 = c.length := by
          unfold lensOf
          rw [List.getD_eq_getElem?_getD, List.getElem?_map, er]
          rfl
        have hil := (List.getElem?_eq_some_iff.mp er).1
        have hc100 : c.length ≤ 100 := h100 _ (List.mem_map_of_mem (List.mem_of_getElem? er))
        have nLt : L ≠ t := ne_of_none hL1 ht
        walk_at "op"
        refine ⟨t, _, rfl, SqT.of upd_same, rfl, _, _, rfl, _, _, rfl, rfl, ?_⟩
        walk_at "op"
        walk_at "st"
        have s1 : Same H1 (upd H1 t (.tup [.int i, .ref b])) := same_new ht
        have hb1 : H1 b = some (.lst (c.map V.int)) := sm _ _ hb
        refine ⟨b, _, rfl, .inl (SqL.of (s1 _ _ hb1)), c.length, by rw [List.length_map], by omega, by omega, ?_⟩
        rw [Int.toNat_natCast]
        have hno : ∀ d ∈ allP (lensOf fl) i, noList d = true := allP_no _ _
        refine fR (fun one σ H2 => Same H H2 ∧ ∃ (xs2 : List V) (u3 : Option V), σ = [some (.ref a), some (.ref L), some (.int i), some (.ref b), u3, none] ∧ H2 L = some (.lst xs2) ∧ Dats H2 p xs2 (allP (lensOf fl) i ++ rowP i one))
          ⟨sm.trans s1, xs, _, rfl, s1 _ _ hL1, by rw [show rowP i 0 = [] from rfl, List.append_nil]; exact hD1.same s1⟩ ?_ ?_
        · rintro one σ H2 ho ⟨sm2, xs2, u3', rfl, hL2, hD2⟩
          rw [Int.zero_add]
          walk_at "op"
          walk_at "st"
          refine ⟨.inl ⟨rfl, _, SqL.of hL2⟩, ?_⟩
          walk_at "st"
          refine fun D' hD' => ?_
          rw [Int.toNat_natCast]
          have hDH := sameFree sm2 hD'
          have nLD : L ≠ D' := ne_of_none hL2 hD'
          have hDp := pne sm2 hD'
          refine lR (fun j H3 => Same H H3 ∧ H3 L = some (.lst xs2) ∧ Dats H3 p xs2 (allP (lensOf fl) i ++ rowP i one) ∧ ∃ ys, H3 D' = some (.lst ys) ∧ Dats H3 p ys (tri i one j))
            ⟨sameOff sm2 hDH, by rw [upd_ne nLD]; exact hL2, hD2.off hD', [], upd_same, Dats.nil⟩ ?_ ?_
          · rintro j H3 hj ⟨sm3, hL3, hD3, ys, hy, hDy⟩
            rw [Int.zero_add]
            walk_at "op"
            refine ⟨rfl, ?_⟩
            walk_at "st"
            refine ⟨by show 3 ≤ sizeLine; decide, fun r hr => ?_⟩
            have nDr : D' ≠ r := ne_of_none hy hr
            have hrp := pne sm3 hr
            have yl : ys.length = j := by rw [hDy.1, tri_len]
            have hn2 : ∀ d ∈ allP (lensOf fl) i ++ rowP i one, noList d = true := fun d hd => by
              rcases List.mem_append.mp hd with hd | hd
              · exact hno d hd
              · exact rowP_no _ _ d hd
            have hy2 : upd H3 r (.tup [.int i, .int one, .int j]) D' = some (.lst ys) := by rw [upd_ne nDr]; exact hy
            refine ⟨ys, hy2, small1000 (by omega), sameOff (sm3.trans (same_new hr)) hDH, by rw [upd_ne nLD]; exact (same_new hr) _ _ hL3, (hD3.off hr).setL hy2 hn2, ys ++ [.ref r], upd_same, ?_⟩
            rw [tri_succ]
            refine ((hDy.off hr).setL hy2 (tri_no _ _ _)).snoc ?_
            exact Dat.setL hy2 (Dat.new hr hrp (Dats.cons (.int _) (Dats.cons (.int _) (Dats.cons (.int _) Dats.nil)))) (tri_no i one (j + 1) _ (by rw [tri_succ]; exact List.mem_append_right _ List.mem_cons_self))
          · rintro H3 ⟨sm3, hL3, hD3, ys, hy, hDy⟩
            walk_at "op"
            walk_at "st"
            have hn2 : ∀ d ∈ allP (lensOf fl) i ++ rowP i one, noList d = true := fun d hd => by
              rcases List.mem_append.mp hd with hd | hd
              · exact hno d hd
              · exact rowP_no _ _ d hd
            have yl : ys.length = one := by rw [hDy.1, tri_len]
            have xl : xs2.length ≤ 50000 := by
              have q1 := allP_len h100 i
              have q2 := rowP_len i one
              have q3 : one * one ≤ 10000 := Nat.mul_le_mul (show one ≤ 100 by omega) (show one ≤ 100 by omega)
              rw [hD2.1, List.length_append]
              omega
            refine ⟨L, D', xs2, ys, rfl, rfl, hL3, hy, by rw [sizeLine_eq]; omega, sameOff sm3 hL, xs2 ++ ys, _, rfl, upd_same, ?_⟩
            rw [rowP_succ, ← List.append_assoc]
            exact (hD3.setL hL3 hn2).app (hDy.setL hL3 (tri_no _ _ _))
        · rintro σ H2 ⟨sm2, xs2, u3', rfl, hL2, hD2⟩
          refine ⟨sm2, xs2, _, _, _, rfl, hL2, ?_⟩
          rw [allP_succ, hlc]
          exact hD2
    · rintro σ H1 ⟨sm, xs, u1, u2, u3, rfl, hL1, hD1⟩
      walk_at "op"
      walk_at "st"
      have e : ws.length = fl.length := by rw [hW.1, List.length_map]
      rw [e] at hD1
      exact k L xs H1 hL hL1 hD1 sm

end
end Fm
end FPR
section FME
set_option Elab.async false
set_option linter.all false
set_option maxRecDepth 100000
set_option maxHeartbeats 4000000
local macro_rules | `(tactic| walk_at "ne") => `(tactic| first | assumption | (apply Ne.symm; assumption) | exact L2.ne_of_none (by assumption) (by assumption) | exact Ne.symm (L2.ne_of_none (by assumption) (by assumption)))
local macro_rules | `(tactic| walk_at "hl") => `(tactic| first | assumption | exact L2.upd_same | (refine Eq.trans (L2.upd_ne (by walk_at "ne")) ?_; walk_at "hl"))
local macro_rules | `(tactic| walk_at "sd") => `(tactic| first | (with_reducible show (_ : Int) < _; omega) | (with_reducible show (_ : Int) ≤ _; omega) | assumption | decide | exact ⟨by assumption, by assumption⟩ | exact ⟨by decide, by decide⟩ | exact Or.inr ⟨by decide, by decide⟩ | exact Or.inl ⟨by omega, by omega⟩ | rfl)
local macro_rules | `(tactic| walk_at "st1") => `(tactic| first
  | refine ⟨_, rfl, ?_⟩
  | refine ⟨_, _, rfl, rfl, ?_⟩
  | refine ⟨_, _, rfl, ?_⟩
  | (refine ⟨_, _, _, _, rfl, rfl, L2.SqL.of (by walk_at "hl"), rfl, ?_⟩)
  | (refine ⟨_, _, _, _, rfl, rfl, L2.SqT.of (by walk_at "hl"), rfl, ?_⟩)
  | (refine ⟨_, _, _, _, rfl, rfl, (by walk_at "hl"), rfl, ?_⟩)
  | (refine And.intro (by walk_at "sd") ?_)
  )
local macro_rules | `(tactic| walk_at "st") => `(tactic| repeat walk_at "st1")
local macro_rules | `(tactic| walk_at "op") => `(tactic| try dsimp only [L2.tSeq, L2.tAsg, L2.tOp, L2.tVar, L2.tC, L2.gSub, L2.rI, L2.rI0, L2.rIxL, L2.rIxT, L2.rSetL, L2.tIfS, L2.tTest, L2.tRet, L2.gName, L2.tNext, L2.tAnd, L2.tOr, L2.tNot, L2.tAndV, L2.tOrV, L2.tNotV, L2.tB, L2.tCB, L2.tCons, L2.tNil, L2.tCall, L2.tTup, L2.tLst, L2.tChain, L2.tUn, L2.tPar, L2.tDrop, L2.tIf, L2.tBM, L2.tBM0, L2.rAppend, L2.rCat, L2.rIsi, L2.rIsiT, L2.gTup, L2.gCons, L2.gNil, Fm.tFor_eq, Fm.tLc_eq, L2.iTup, L2.iList, L2.iRng1, L2.iRng2, L2.tSl, L2.tPart, L2.tNoPart, L2.rSlL, L2.rEq, L2.rNe, L2.rU, L2.rEqD, L2.rNeD, Fm.tRevT, Fm.rLenS, Fm.rTupOf, Fm.rLstOf, L2.tDNewK, L2.tCallS, L2.WE, Fm.wKeep, Fm.rIsK, Fm.rIsKT, List.cons_append, List.nil_append, L2.tYes])
namespace Fm
open PySem PySem.Spec PyProof.Rows L2
section
variable {P : Program} {w : World} {K : PySem.W.Frag} {mg : Str → Option Value} {base : Heap}
theorem LL.set {H : Hp} {p L E : Addr} {ws : List V} {fl : List (List Int)} {c : List Int} {f : Nat} (h : LL H p L ws fl) (hb : H E = some (.lst (c.map V.int))) (n1 : E ≠ L) (n2 : E ≠ p) : LL (upd H L (.lst (ws.set f (.ref E)))) p L (ws.set f (.ref E)) (fl.set f c) := by
  refine ⟨upd_same, by rw [List.length_set, List.length_set, h.len], fun j d q => ?_⟩
  rw [List.getElem?_set] at q
  by_cases hj : f = j
  · subst hj
    rw [if_pos rfl] at q
    by_cases hl : f < fl.length
    · rw [if_pos hl] at q
      cases q
      exact ⟨E, by rw [List.getElem?_set_self (by rw [h.len]; exact hl)], by rw [upd_ne n1]; exact hb, n1, n2⟩
    · rw [if_neg hl] at q
      cases q
  · rw [if_neg hj] at q
    obtain ⟨b, e1, e2, e3, e4⟩ := h.row j d q
    exact ⟨b, by rw [List.getElem?_set_ne hj]; exact e1, by rw [upd_ne e3]; exact e2, e3, e4⟩
theorem LL.updRow {H : Hp} {p L E : Addr} {ws : List V} {fl : List (List Int)} {c : List Int} {f : Nat} (h : LL H p L ws fl) (hw : ws[f]? = some (V.ref E)) (inj : ∀ j, ws[j]? = some (V.ref E) → j = f) : LL (upd H E (.lst (c.map V.int))) p L ws (fl.set f c) := by
  have hf : f < fl.length := by
    rw [← h.len]
    exact (List.getElem?_eq_some_iff.mp hw).1
  obtain ⟨b, e1, e2, e3, e4⟩ := h.row f fl[f] (List.getElem?_eq_getElem hf)
  rw [hw] at e1
  cases e1
  refine ⟨by rw [upd_ne e3.symm]; exact h.at_, by rw [List.length_set, h.len], fun j d q => ?_⟩
  rw [List.getElem?_set] at q
  by_cases hj : f = j
  · subst hj
    rw [if_pos rfl, if_pos hf] at q
    cases q
    exact ⟨E, hw, upd_same, e3, e4⟩
  · rw [if_neg hj] at q
    obtain ⟨b, g1, g2, g3, g4⟩ := h.row j d q
    have nb : b ≠ E := fun z => by
      subst z
      exact hj (inj j g1).symm
    exact ⟨b, g1, by rw [upd_ne nb]; exact g2, g3, g4⟩
/-- who is left of a row without two of them -/
def keepN (c : List Int) (one other n : Nat) : List Int := ((List.range n).filter fun k => !(k == one || k == other)).map fun k => c.getD k 0
theorem keepN_succ (c : List Int) (one other n : Nat) : keepN c one other (n + 1) = keepN c one other n ++ if (n == one || n == other) = true then [] else [c.getD n 0] := by
  unfold keepN
  rw [List.range_succ, List.filter_append, List.map_append]
  congr 1
  rw [List.filter_cons, List.filter_nil]
  cases h : (n == one || n == other) <;> rfl
theorem keepN_len (c : List Int) {one other : Nat} (h : other < one) : ∀ n, (keepN c one other n).length + ((if one < n then 1 else 0) + (if other < n then 1 else 0)) = n
  | 0 => rfl
  | n + 1 => by
    have ih := keepN_len c h n
    rw [keepN_succ, List.length_append]
    by_cases e1 : n = one
    · have e3 : (n == one || n == other) = true := by simp [e1]
      rw [if_pos e3]
      rw [if_neg (by omega), if_pos (by omega)] at ih
      rw [if_pos (by omega), if_pos (by omega), List.length_nil]
      omega
    · by_cases e2 : n = other
      · have e3 : (n == one || n == other) = true := by simp [e2]
        rw [if_pos e3]
        rw [if_neg (by omega), if_neg (by omega)] at ih
        rw [if_neg (by omega), if_pos (by omega), List.length_nil]
        omega
      · have e3 : ¬ (n == one || n == other) = true := by simp [e1, e2]
        rw [if_neg e3]
        have i1 : (if one < n + 1 then 1 else 0) = (if one < n then 1 else 0) := by split <;> split <;> omega
        have i2 : (if other < n + 1 then 1 else 0) = (if other < n then 1 else 0) := by split <;> split <;> omega
        rw [i1, i2]
        show _ + 1 + _ = _
        omega
theorem keepN_in {c : List Int} {one other n : Nat} (h : n ≤ c.length) {e : Int} (he : e ∈ keepN c one other n) : e ∈ c := by
  obtain ⟨k, hk, rfl⟩ := List.mem_map.mp he
  have := List.mem_range.mp (List.mem_filter.mp hk).1
  rw [List.getD_eq_getElem?_getD, List.getElem?_eq_getElem (show k < c.length by omega)]
  exact List.getElem_mem _
theorem inV_two (k one other : Nat) : inV (.int k) [.int one, .int other] = (k == one || k == other) := by
  unfold inV
  simp only [List.any_cons, List.any_nil, Bool.or_false]
  show (((one : Int) == (k : Int)) || ((other : Int) == (k : Int))) = _
  have e : ∀ x : Nat, ((x : Int) == (k : Int)) = (k == x) := fun x => by
    rw [Bool.eq_iff_iff]
    simp only [beq_iff_eq]
    omega
  rw [e, e]
theorem ixN_of {n k : Nat} (h : k < n) : ixN n (k : Int) = some k := by
  unfold ixN
  rw [if_pos (by omega), if_pos (by omega), Int.toNat_natCast]
theorem house_cells {H : Hp} {ph : Addr} {hv : V} {fs : List PyData} {m n f : Nat} {a b : Int} (hD : Dat H ph hv (.tuple fs)) (hN : HouseN m n (.tuple fs)) (hf : f < n) (a0 : 0 ≤ a) (a1 : a < m) (b0 : 0 ≤ b) (b1 : b < m) :
    ∃ (ah af s0 u0 ra rb : Addr) (hs ss us ya yb : List V) (st up : Int), hv = .ref ah ∧ H ah = some (.tup hs) ∧ hs.length = n ∧ hs[f]? = some (V.ref af) ∧ H af = some (.tup [.ref s0, .ref u0]) ∧
      H s0 = some (.tup ss) ∧ ss[a.toNat]? = some (V.ref ra) ∧ H ra = some (.tup ya) ∧ ya[b.toNat]? = some (V.int st) ∧ 0 ≤ st ∧ st < m ∧
      H u0 = some (.tup us) ∧ us[a.toNat]? = some (V.ref rb) ∧ H rb = some (.tup yb) ∧ yb[b.toNat]? = some (V.int up) ∧ 0 ≤ up ∧ up < m := by
  obtain ⟨fs', e, hl, _, _, _, _, hF⟩ := hN
  cases e
  obtain ⟨ah, hs, rfl, hah, _, hh⟩ := hD.isTup
  have hfl : f < fs.length := by omega
  obtain ⟨sd, ud, e1, ⟨rs, e2, l2, r2, _⟩, ⟨ru, e3, l3, r3, _⟩⟩ := hF fs[f] (List.getElem_mem _)
  subst e2 e3
  have e4 : fs[f]? = some (.tuple [.tuple rs, .tuple ru]) := by rw [List.getElem?_eq_getElem hfl, e1]
  obtain ⟨x, hx, hdx⟩ := hh.back e4
  obtain ⟨af, ys, rfl, haf, _, hy⟩ := hdx.isTup
  have hyl : ys.length = 2 := hy.1
  match ys, hyl with
  | [w1, w2], _ =>
    obtain ⟨s0, ss, rfl, hs0, _, hss⟩ := (hy.2 0 w1 _ rfl rfl).isTup
    obtain ⟨u0, us, rfl, hu0, _, hus⟩ := (hy.2 1 w2 _ rfl rfl).isTup
    obtain ⟨ra, ya, st, c1, c2, c3, _, c4, c5⟩ := cell_at hss l2 r2 (a := a.toNat) (b := b.toNat) (by omega) (by omega)
    obtain ⟨rb, yb, up, d1, d2, d3, _, d4, d5⟩ := cell_at hus l3 r3 (a := a.toNat) (b := b.toNat) (by omega) (by omega)
    exact ⟨ah, af, s0, u0, ra, rb, hs, ss, us, ya, yb, st, up, rfl, hah, by rw [hh.1, hl], hx, haf, hs0, c1, c2, c3, c4, c5, hu0, d1, d2, d3, d4, d5⟩
def stepL (f : Nat) (ls : List Nat) : List Nat := (ls.set f (ls.getD f 0 - 1)).set (f + 1) (ls.getD (f + 1) 0 + 1)
def RowsIn (m : Nat) (fl : List (List Int)) : Prop := ∀ r ∈ fl, ∀ e ∈ r, 0 ≤ e ∧ e < (m : Int)
theorem RowsIn.set {m : Nat} {fl : List (List Int)} {c : List Int} {i : Nat} (h : RowsIn m fl) (hc : ∀ e ∈ c, 0 ≤ e ∧ e < (m : Int)) : RowsIn m (fl.set i c) := fun r hr e he => by
  rcases List.mem_or_eq_of_mem_set hr with q | rfl
  · exact h r q e he
  · exact hc e he
theorem lens_set (fl : List (List Int)) (i : Nat) (c : List Int) : lensOf (fl.set i c) = (lensOf fl).set i c.length := by
  unfold lensOf
  rw [List.map_set]

end
end Fm
end FME
section FSE
set_option Elab.async false
set_option linter.all false
set_option maxRecDepth 100000
set_option maxHeartbeats 4000000
local macro_rules | `(tactic| walk_at "ne") => `(tactic| first | assumption | (apply Ne.symm; assumption) | exact L2.ne_of_none (by assumption) (by assumption) | exact Ne.symm (L2.ne_of_none (by assumption) (by assumption)))
local macro_rules | `(tactic| walk_at "hl") => `(tactic| first | assumption | exact L2.upd_same | (refine Eq.trans (L2.upd_ne (by walk_at "ne")) ?_; walk_at "hl"))
local macro_rules | `(tactic| walk_at "sd") => `(tactic| first | (with_reducible show (_ : Int) < _; omega) | (with_reducible show (_ : Int) ≤ _; omega) | assumption | decide | exact ⟨by assumption, by assumption⟩ | exact ⟨by decide, by decide⟩ | exact Or.inr ⟨by decide, by decide⟩ | exact Or.inl ⟨by omega, by omega⟩ | rfl)
local macro_rules | `(tactic| walk_at "st1") => `(tactic| first
  | refine ⟨_, rfl, ?_⟩
  | refine ⟨_, _, rfl, rfl, ?_⟩
  | refine ⟨_, _, rfl, ?_⟩
  | (refine ⟨_, _, _, _, rfl, rfl, L2.SqL.of (by walk_at "hl"), rfl, ?_⟩)
  | (refine ⟨_, _, _, _, rfl, rfl, L2.SqT.of (by walk_at "hl"), rfl, ?_⟩)
  | (refine ⟨_, _, _, _, rfl, rfl, (by walk_at "hl"), rfl, ?_⟩)
  | (refine And.intro (by walk_at "sd") ?_)
  )
local macro_rules | `(tactic| walk_at "st") => `(tactic| repeat walk_at "st1")
local macro_rules | `(tactic| walk_at "op") => `(tactic| try dsimp only [L2.tSeq, L2.tAsg, L2.tOp, L2.tVar, L2.tC, L2.gSub, L2.rI, L2.rI0, L2.rIxL, L2.rIxT, L2.rSetL, L2.tIfS, L2.tTest, L2.tRet, L2.gName, L2.tNext, L2.tAnd, L2.tOr, L2.tNot, L2.tAndV, L2.tOrV, L2.tNotV, L2.tB, L2.tCB, L2.tCons, L2.tNil, L2.tCall, L2.tTup, L2.tLst, L2.tChain, L2.tUn, L2.tPar, L2.tDrop, L2.tIf, L2.tBM, L2.tBM0, L2.rAppend, L2.rCat, L2.rIsi, L2.rIsiT, L2.gTup, L2.gCons, L2.gNil, Fm.tFor_eq, Fm.tLc_eq, L2.iTup, L2.iList, L2.iRng1, L2.iRng2, L2.tSl, L2.tPart, L2.tNoPart, L2.rSlL, L2.rEq, L2.rNe, L2.rU, L2.rEqD, L2.rNeD, Fm.tRevT, Fm.rLenS, Fm.rTupOf, Fm.rLstOf, L2.tDNewK, L2.tCallS, L2.WE, Fm.wKeep, Fm.rIsK, Fm.rIsKT, List.cons_append, List.nil_append, L2.tYes])
namespace Fm
open PySem PySem.Spec PyProof.Rows L2
section
variable {P : Program} {w : World} {K : PySem.W.Frag} {mg : Str → Option Value} {base : Heap}
theorem dpAll_of {K : PySem.W.Frag} {H : Hp} : ∀ {xs : List V} {ds : List PyData}, xs.length = ds.length → (∀ (i : Nat) (x : V) (d : PyData), xs[i]? = some x → ds[i]? = some d → Dp K H x d) → DpAll K H xs ds
  | [], [], _, _ => .nil
  | [], _ :: _, h, _ => by simp at h
  | _ :: _, [], h, _ => by simp at h
  | x :: xs, d :: ds, h, k => .cons (k 0 x d rfl rfl) (dpAll_of (by simpa using h) fun i y e a b => k (i + 1) y e (by simpa using a) (by simpa using b))
theorem hasDict_parts : ∀ {ds : List PyData}, PyData.hasDictAll ds = false → ∀ e ∈ ds, e.hasDict = false
  | [], _, e, he => by simp at he
  | d :: r, h, e, he => by
    simp only [PyData.hasDictAll, Bool.or_eq_false_iff] at h
    rcases List.mem_cons.mp he with rfl | he
    · exact h.1
    · exact hasDict_parts h.2 e he
theorem Dat.dp {K : PySem.W.Frag} {H : Hp} {p : Addr} {d : PyData} {v : V} (h : Dat H p v d) : d.hasDict = false → Dp K H v d := by
  induction h with
  | non => exact fun _ => .non
  | bl b => exact fun _ => .bl b
  | int i => exact fun _ => .int i
  | str x => exact fun _ => .str x
  | tup h1 _ h3 h4 ih => exact fun z => .tup (SqT.of h1) (dpAll_of h3 fun i x d a b => ih i x d a b (hasDict_parts (by simpa only [PyData.hasDict] using z) d (List.mem_of_getElem? b)))
  | lst h1 _ h3 h4 ih => exact fun z => .lst (SqL.of h1) (dpAll_of h3 fun i x d a b => ih i x d a b (hasDict_parts (by simpa only [PyData.hasDict] using z) d (List.mem_of_getElem? b)))
  | dct h1 _ => exact fun z => by simp only [PyData.hasDict] at z; cases z
theorem shape_tups : ∀ {ds : List PyData}, (∀ d ∈ ds, ∃ f one other, d = tup3 f one other) → PyData.canLayAll0 ds = true ∧ PyData.depthAll ds ≤ 1 ∧ PyData.hasDictAll ds = false
  | [], _ => by simp [PyData.canLayAll0, PyData.depthAll, PyData.hasDictAll]
  | d :: r, h => by
    obtain ⟨h1, h2, h3⟩ := shape_tups fun e he => h e (List.mem_cons_of_mem _ he)
    obtain ⟨f, one, other, rfl⟩ := h d List.mem_cons_self
    have e1 : (tup3 f one other).canLay0 = true := by simp [tup3, PyData.canLay0, PyData.canLayAll0]
    have e2 : (tup3 f one other).depth ≤ 1 := by simp [tup3, PyData.depth, PyData.depthAll]
    have e3 : (tup3 f one other).hasDict = false := by simp [tup3, PyData.hasDict, PyData.hasDictAll]
    refine ⟨by simp only [PyData.canLayAll0, e1, h1, Bool.and_self], ?_, by simp only [PyData.hasDictAll, e3, h3, Bool.or_self]⟩
    simp only [PyData.depthAll]
    omega
theorem shaped_tups {ds : List PyData} (h : ∀ d ∈ ds, ∃ f one other, d = tup3 f one other) : SeqAt.shaped (.list ds) = true ∧ (PyData.list ds).hasDict = false := by
  obtain ⟨h1, h2, h3⟩ := shape_tups h
  refine ⟨?_, by simpa only [PyData.hasDict] using h3⟩
  unfold SeqAt.shaped
  rw [Bool.and_eq_true]
  refine ⟨by simpa only [PyData.canLay0] using h1, decide_eq_true ?_⟩
  simp only [PyData.depth]
  omega
theorem eqv_nil (ds : List PyData) : PyData.eqv (.list ds) (.list []) = ds.isEmpty := by
  cases ds with
  | nil => simp [PyData.eqv, PyData.eqvAll]
  | cons n r => simp [PyData.eqv, PyData.eqvAll]
/-! ### how many meetings -/
def comeN : Nat → List Nat → List Nat
  | _, [] => []
  | r, l :: ls => (l + r) :: comeN (l + r - 1) ls
def left_ (l : List Nat) : Nat := (l.map fun s => s - 1).sum
def posB (l : List Nat) : List Bool := l.map fun s => decide (0 < s)
theorem stepL_succ (f l : Nat) (ls : List Nat) : stepL (f + 1) (l :: ls) = l :: stepL f ls := rfl
theorem stepL_len (f : Nat) (ls : List Nat) : (stepL f ls).length = ls.length := by
  unfold stepL
  rw [List.length_set, List.length_set]
theorem step_come : ∀ (f r : Nat) (ls : List Nat), 2 ≤ ls.getD f 0 → left_ (comeN r (stepL f ls)) + 1 = left_ (comeN r ls) ∧ posB (comeN r (stepL f ls)) = posB (comeN r ls)
  | f, r, [], h => by simp at h
  | 0, r, [l], h => by
    have h' : 2 ≤ l := h
    have e : stepL 0 [l] = [l - 1] := rfl
    rw [e]
    simp only [comeN, left_, posB, List.map_cons, List.map_nil, List.sum_cons, List.sum_nil]
    refine ⟨by omega, ?_⟩
    rw [decide_eq_true (show 0 < l - 1 + r by omega), decide_eq_true (show 0 < l + r by omega)]
  | 0, r, l :: l2 :: t, h => by
    have h' : 2 ≤ l := h
    have e : stepL 0 (l :: l2 :: t) = (l - 1) :: (l2 + 1) :: t := rfl
    have e2 : l2 + 1 + (l - 1 + r - 1) = l2 + (l + r - 1) := by omega
    rw [e]
    simp only [comeN, left_, posB, List.map_cons, List.sum_cons]
    rw [e2, decide_eq_true (show 0 < l - 1 + r by omega), decide_eq_true (show 0 < l + r by omega)]
    exact ⟨by omega, rfl⟩
  | f + 1, r, l :: ls, h => by
    have h' : 2 ≤ ls.getD f 0 := h
    obtain ⟨i1, i2⟩ := step_come f (l + r - 1) ls h'
    rw [stepL_succ]
    simp only [comeN, left_, posB, List.map_cons, List.sum_cons] at i1 i2 ⊢
    exact ⟨by omega, by rw [i2]⟩
theorem rest_come : ∀ ls : List Nat, (∀ l ∈ ls, l ≤ 1) → comeN 0 ls = ls
  | [], _ => rfl
  | l :: ls, h => by
    have h1 := h l List.mem_cons_self
    unfold comeN
    rw [show l + 0 - 1 = 0 by omega, rest_come ls fun x hx => h x (List.mem_cons_of_mem _ hx)]
    rfl
theorem rest_left : ∀ ls : List Nat, (∀ l ∈ ls, l ≤ 1) → left_ ls = 0
  | [], _ => rfl
  | l :: ls, h => by
    have h1 := h l List.mem_cons_self
    have := rest_left ls fun x hx => h x (List.mem_cons_of_mem _ hx)
    unfold left_ at this ⊢
    rw [List.map_cons, List.sum_cons, this]
    omega
theorem step_sum : ∀ (f : Nat) (ls : List Nat), 1 ≤ ls.getD f 0 → (stepL f ls).sum ≤ ls.sum
  | f, [], h => by simp at h
  | 0, [l], h => by
    show (l - 1 + 0) ≤ l + 0
    omega
  | 0, l :: l2 :: t, h => by
    have h' : 1 ≤ l := h
    show ((l - 1) :: (l2 + 1) :: t).sum ≤ _
    simp only [List.sum_cons]
    omega
  | f + 1, l :: ls, h => by
    have := step_sum f ls h
    rw [stepL_succ]
    simp only [List.sum_cons]
    omega
theorem le_sumN : ∀ {ls : List Nat} {l : Nat}, l ∈ ls → l ≤ ls.sum
  | x :: r, l, h => by
    rw [List.sum_cons]
    rcases List.mem_cons.mp h with rfl | h
    · omega
    · have := le_sumN h
      omega

end
end Fm
end FSE
section FFH
set_option Elab.async false
set_option linter.all false
set_option maxRecDepth 100000
set_option maxHeartbeats 4000000
local macro_rules | `(tactic| walk_at "ne") => `(tactic| first | assumption | (apply Ne.symm; assumption) | exact L2.ne_of_none (by assumption) (by assumption) | exact Ne.symm (L2.ne_of_none (by assumption) (by assumption)))
local macro_rules | `(tactic| walk_at "hl") => `(tactic| first | assumption | exact L2.upd_same | (refine Eq.trans (L2.upd_ne (by walk_at "ne")) ?_; walk_at "hl"))
local macro_rules | `(tactic| walk_at "sd") => `(tactic| first | (with_reducible show (_ : Int) < _; omega) | (with_reducible show (_ : Int) ≤ _; omega) | assumption | decide | exact ⟨by assumption, by assumption⟩ | exact ⟨by decide, by decide⟩ | exact Or.inr ⟨by decide, by decide⟩ | exact Or.inl ⟨by omega, by omega⟩ | rfl)
local macro_rules | `(tactic| walk_at "st1") => `(tactic| first
  | refine ⟨_, rfl, ?_⟩
  | refine ⟨_, _, rfl, rfl, ?_⟩
  | refine ⟨_, _, rfl, ?_⟩
  | (refine ⟨_, _, _, _, rfl, rfl, L2.SqL.of (by walk_at "hl"), rfl, ?_⟩)
  | (refine ⟨_, _, _, _, rfl, rfl, L2.SqT.of (by walk_at "hl"), rfl, ?_⟩)
  | (refine ⟨_, _, _, _, rfl, rfl, (by walk_at "hl"), rfl, ?_⟩)
  | (refine And.intro (by walk_at "sd") ?_)
  )
local macro_rules | `(tactic| walk_at "st") => `(tactic| repeat walk_at "st1")
local macro_rules | `(tactic| walk_at "op") => `(tactic| try dsimp only [L2.tSeq, L2.tAsg, L2.tOp, L2.tVar, L2.tC, L2.gSub, L2.rI, L2.rI0, L2.rIxL, L2.rIxT, L2.rSetL, L2.tIfS, L2.tTest, L2.tRet, L2.gName, L2.tNext, L2.tAnd, L2.tOr, L2.tNot, L2.tAndV, L2.tOrV, L2.tNotV, L2.tB, L2.tCB, L2.tCons, L2.tNil, L2.tCall, L2.tTup, L2.tLst, L2.tChain, L2.tUn, L2.tPar, L2.tDrop, L2.tIf, L2.tBM, L2.tBM0, L2.rAppend, L2.rCat, L2.rIsi, L2.rIsiT, L2.gTup, L2.gCons, L2.gNil, Fm.tFor_eq, Fm.tLc_eq, L2.iTup, L2.iList, L2.iRng1, L2.iRng2, L2.tSl, L2.tPart, L2.tNoPart, L2.rSlL, L2.rEq, L2.rNe, L2.rU, L2.rEqD, L2.rNeD, Fm.tRevT, Fm.rLenS, Fm.rTupOf, Fm.rLstOf, L2.tDNewK, L2.tCallS, L2.WE, Fm.wKeep, Fm.rIsK, Fm.rIsKT, List.cons_append, List.nil_append, L2.tYes])
namespace Fm
open PySem PySem.Spec PyProof.Rows L2
abbrev s_law_fair_house : Stmt := top 39
abbrev N_law_fair_house : List Str := ["bag", "m", "floors", "found", "way", "free", "k", "stay", "up", "a", "b"]
theorem sc_law_fair_house : FnScope N_law_fair_house ["bag"] (defScope s_law_fair_house) := ⟨rfl, rfl, rfl, by decide +kernel, rfl, by decide +kernel, by decide +kernel⟩
section
variable {P : Program} {w : World} {K : PySem.W.Frag} {mg : Str → Option Value} {base : Heap}
def gS (m : Nat) (free way : Int) (a b : Nat) : Int := [if (b : Int) > a then (b : Int) else a, ((a : Int) + b) % m, free, if (b : Int) < a then (b : Int) else a].getD way.toNat 0
def gU (m : Nat) (free way : Int) (a b : Nat) : Int := [if (b : Int) < a then (b : Int) else a, ((a : Int) + b) / m, free, if (b : Int) > a then (b : Int) else a].getD way.toNat 0
theorem gS_at {m : Nat} {free way : Int} {a b : Nat} (h : way.toNat < 4) : [if (b : Int) > a then (b : Int) else a, ((a : Int) + b) % m, free, if (b : Int) < a then (b : Int) else a][way.toNat]? = some (gS m free way a b) := by
  unfold gS
  rw [List.getD_eq_getElem?_getD, List.getElem?_eq_getElem (by exact h)]
  rfl
theorem gU_at {m : Nat} {free way : Int} {a b : Nat} (h : way.toNat < 4) : [if (b : Int) < a then (b : Int) else a, ((a : Int) + b) / m, free, if (b : Int) > a then (b : Int) else a][way.toNat]? = some (gU m free way a b) := by
  unfold gU
  rw [List.getD_eq_getElem?_getD, List.getElem?_eq_getElem (by exact h)]
  rfl
theorem pick_mem {l : List Int} {k : Nat} {x : Int} (h : l[k]? = some x) : x ∈ l := List.mem_of_getElem? h
theorem gS_ok {m : Nat} {free way : Int} (hw : way.toNat < 4) (f0 : 0 ≤ free) (f1 : free < m) : (∀ a b, gS m free way a b = gS m free way b a) ∧ ∀ a b, a < m → b < m → 0 ≤ gS m free way a b ∧ gS m free way a b < (m : Int) := by
  refine ⟨fun a b => ?_, fun a b ha hb => ?_⟩
  · unfold gS
    rw [Int.add_comm (a : Int) b, show (if (b : Int) > a then (b : Int) else a) = if (a : Int) > b then (a : Int) else b from by split <;> split <;> omega, show (if (b : Int) < a then (b : Int) else a) = if (a : Int) < b then (a : Int) else b from by split <;> split <;> omega]
  · have h := pick_mem (gS_at (m := m) (free := free) (a := a) (b := b) hw)
    simp only [List.mem_cons, List.not_mem_nil, or_false] at h
    rcases h with h | h | h | h
    · rw [h]; split <;> omega
    · rw [h]; exact ⟨Int.emod_nonneg _ (by omega), Int.emod_lt_of_pos _ (by omega)⟩
    · rw [h]; exact ⟨f0, f1⟩
    · rw [h]; split <;> omega
theorem gU_ok {m : Nat} {free way : Int} (hw : way.toNat < 4) (f0 : 0 ≤ free) (f1 : free < m) : (∀ a b, gU m free way a b = gU m free way b a) ∧ ∀ a b, a < m → b < m → 0 ≤ gU m free way a b ∧ gU m free way a b < (m : Int) := by
  refine ⟨fun a b => ?_, fun a b ha hb => ?_⟩
  · unfold gU
    rw [Int.add_comm (a : Int) b, show (if (b : Int) > a then (b : Int) else a) = if (a : Int) > b then (a : Int) else b from by split <;> split <;> omega, show (if (b : Int) < a then (b : Int) else a) = if (a : Int) < b then (a : Int) else b from by split <;> split <;> omega]
  · have h := pick_mem (gU_at (m := m) (free := free) (a := a) (b := b) hw)
    simp only [List.mem_cons, List.not_mem_nil, or_false] at h
    rcases h with h | h | h | h
    · rw [h]; split <;> omega
    · rw [h]
      refine ⟨Int.ediv_nonneg (by omega) (by omega), Int.ediv_lt_of_lt_mul (by omega) ?_⟩
      have : 2 * (m : Int) - 2 < m * m ∨ m = 1 := by
        by_cases h1 : m = 1
        · exact .inr h1
        · left
          have : 2 * (m : Int) ≤ m * m := Int.mul_le_mul_of_nonneg_right (by omega) (by omega)
          omega
      rcases this with q | rfl
      · omega
      · omega
    · rw [h]; exact ⟨f0, f1⟩
    · rw [h]; split <;> omega
/-- rows of a table so far: a list at L of tuples of ints -/
def RowsT (H : Hp) (p L : Addr) (m a : Nat) (G : Nat → Nat → Int) : Prop := ∃ xs, H L = some (.lst xs) ∧ Dats H p xs ((List.range a).map fun x => rowD ((List.range m).map fun y => G x y))
theorem RowsT.same {H H' : Hp} {p L : Addr} {m a : Nat} {G : Nat → Nat → Int} (h : RowsT H p L m a G) (e : Same H H') : RowsT H' p L m a G := by
  obtain ⟨xs, h1, h2⟩ := h
  exact ⟨xs, e _ _ h1, h2.same e⟩
theorem rows_no (m a : Nat) (G : Nat → Nat → Int) : ∀ d ∈ (List.range a).map (fun x => rowD ((List.range m).map fun y => G x y)), noList d = true := fun d hd => by
  obtain ⟨x, _, rfl⟩ := List.mem_map.mp hd
  exact noList_ints _ _
/-- one row more at L; the rows at another list stay -/
theorem RowsT.add {H : Hp} {p L t : Addr} {m a : Nat} {G : Nat → Nat → Int} {xs : List V} (h1 : H L = some (.lst xs)) (h2 : Dats H p xs ((List.range a).map fun x => rowD ((List.range m).map fun y => G x y))) (ht : H t = some (.tup (((List.range m).map fun y => G a y).map V.int))) (np : t ≠ p) :
    RowsT (upd H L (.lst (xs ++ [.ref t]))) p L m (a + 1) G := by
  refine ⟨_, upd_same, ?_⟩
  rw [List.range_succ, List.map_append]
  refine (h2.setL h1 (rows_no _ _ _)).snoc ?_
  refine Dat.setL h1 (.tup ht np (by rw [List.length_map, List.length_map, List.length_map, List.length_map]) fun i x d e1 e2 => (Dats.ints (H := H) (p := p) ((List.range m).map fun y => G a y)).2 i x d e1 e2) (noList_ints _ _)
theorem RowsT.setL {H : Hp} {p L L2 : Addr} {m a : Nat} {G : Nat → Nat → Int} {zs ys : List V} (h : RowsT H p L m a G) (h2 : H L2 = some (.lst zs)) (n : L ≠ L2) : RowsT (upd H L2 (.lst ys)) p L m a G := by
  obtain ⟨xs, e1, e2⟩ := h
  exact ⟨xs, by rw [upd_ne n]; exact e1, e2.setL h2 (rows_no _ _ _)⟩
theorem rowsT_tab {m : Nat} {G : Nat → Nat → Int} (h : (∀ a b, G a b = G b a) ∧ ∀ a b, a < m → b < m → 0 ≤ G a b ∧ G a b < (m : Int)) : TabD m (.tuple ((List.range m).map fun x => rowD ((List.range m).map fun y => G x y))) := by
  have := tab_of h.1 h.2
  unfold rowD
  simp only [List.map_map]
  exact this
theorem ok_law_fair_house (D : Df K mg "_law_fair_house" s_law_fair_house ["bag"]) (T : Nms mg) (c_law_pick : CallOk P w K mg base CX0 1 "_law_pick" ["bag", "many"] spPick) : CallOk P w K mg base CX0 2 "_law_fair_house" ["bag"] spMkHouse := by
  refine df_ok D sc_law_fair_house (fun vs H Q E h => ?_) (fun f cdv A outer s H vs Q E hr h => ?_)
  · obtain ⟨p, rfl, _⟩ := h
    rfl
  · obtain ⟨p, rfl, hB, k⟩ := h
    have nd := sc_law_fair_house.nd
    refine ⟨_, (pss_cons (ps_asg (pe_tup (pa_cons (pe_op op_add pe_int (pe_cc c_law_pick (hr.mono (by omega)) (pa_cons (pv 0) (pa_cons pe_int pa_nil)))) (pa_cons (pe_op op_add pe_int (pe_cc c_law_pick (hr.mono (by omega)) (pa_cons (pv 0) (pa_cons pe_int pa_nil)))) pa_nil))) (pg_tup rfl (pgs_cons (pg_name (i := 1) nd rfl (Or.inr rfl)) (pgs_cons (pg_name (i := 2) nd rfl (Or.inl rfl)) pgs_nil))))
      (pss_cons (ps_set (i := 3) nd rfl (Or.inl rfl) (pe_lst pa_nil))
      (pss_cons (ps_set (i := 4) nd rfl (Or.inr rfl) (pe_cc c_law_pick (hr.mono (by omega)) (pa_cons (pv 0) (pa_cons pe_int pa_nil))))
      (pss_cons (ps_set (i := 5) nd rfl (Or.inr rfl) (pe_cc c_law_pick (hr.mono (by omega)) (pa_cons (pv 0) (pa_cons (pv 1) pa_nil))))
      (pss_cons (ps_for PassesOwn.never rfl (pi_range1 rfl T.n_range (pa_cons (pv 2) pa_nil)) (pg_name (i := 6) nd rfl (Or.inl rfl)) (pss_cons (ps_par (i := 7) (j := 8) (by rfl) nd rfl rfl (by decide) rfl rfl (pa_cons (pe_lst pa_nil) (pa_cons (pe_lst pa_nil) pa_nil)) (by rfl))
      (pss_cons (ps_for PassesOwn.never rfl (pi_range1 rfl T.n_range (pa_cons (pv 1) pa_nil)) (pg_name (i := 9) nd rfl (Or.inr rfl)) (pss_cons (ps_expr (pe_bm PySem.F.plainAttrs_list PySem.F.slot_list_append PySem.F.type_list_append mt_append (pv 7) (pa_cons (pe_callTy (r := rTupOf K) call_tupOf (by rfl) T.n_tuple (by decide +kernel) (pa_cons (pe_lc (own := [("b", 10)]) (g := (gName 10)) (tt := tYes) (by rfl) nd (pi_range1 rfl T.n_range (pa_cons (pv 1) pa_nil)) (blkOk_by (own := [("b", 10)]) (N := N_law_fair_house) (sc := defScope s_law_fair_house) (by decide +kernel)) (fun _ _ _ _ _ => (pg_name (i := 10) nd rfl (Or.inl rfl))) (fun _ _ _ _ _ => pts_nil) (fun _ _ _ _ _ => (pe_ix (r := rIxL K) ix_list (pe_lst (pa_cons (pe_callB (call_max2 rfl) (by rfl) T.n_max (by decide +kernel) (pa_cons (pv 9) (pa_cons (pv 10) pa_nil))) (pa_cons (pe_op op_mod (pe_op op_add (pv 9) (pv 10)) (pv 1)) (pa_cons (pv 5) (pa_cons (pe_callB (call_min2 rfl) (by rfl) T.n_min (by decide +kernel) (pa_cons (pv 9) (pa_cons (pv 10) pa_nil))) pa_nil))))) (pv 4) (fun _ _ => rfl)))) pa_nil)) pa_nil)))
      (pss_one (ps_expr (pe_bm PySem.F.plainAttrs_list PySem.F.slot_list_append PySem.F.type_list_append mt_append (pv 8) (pa_cons (pe_callTy (r := rTupOf K) call_tupOf (by rfl) T.n_tuple (by decide +kernel) (pa_cons (pe_lc (own := [("b", 10)]) (g := (gName 10)) (tt := tYes) (by rfl) nd (pi_range1 rfl T.n_range (pa_cons (pv 1) pa_nil)) (blkOk_by (own := [("b", 10)]) (N := N_law_fair_house) (sc := defScope s_law_fair_house) (by decide +kernel)) (fun _ _ _ _ _ => (pg_name (i := 10) nd rfl (Or.inl rfl))) (fun _ _ _ _ _ => pts_nil) (fun _ _ _ _ _ => (pe_ix (r := rIxL K) ix_list (pe_lst (pa_cons (pe_callB (call_min2 rfl) (by rfl) T.n_min (by decide +kernel) (pa_cons (pv 9) (pa_cons (pv 10) pa_nil))) (pa_cons (pe_op op_fdivW (pe_op op_add (pv 9) (pv 10)) (pv 1)) (pa_cons (pv 5) (pa_cons (pe_callB (call_max2 rfl) (by rfl) T.n_max (by decide +kernel) (pa_cons (pv 9) (pa_cons (pv 10) pa_nil))) pa_nil))))) (pv 4) (fun _ _ => rfl)))) pa_nil)) pa_nil))))))
      (pss_one (ps_expr (pe_bm PySem.F.plainAttrs_list PySem.F.slot_list_append PySem.F.type_list_append mt_append (pv 3) (pa_cons (pe_tup (pa_cons (pe_callTy (r := rTupOf K) call_tupOf (by rfl) T.n_tuple (by decide +kernel) (pa_cons (pv 7) pa_nil)) (pa_cons (pe_callTy (r := rTupOf K) call_tupOf (by rfl) T.n_tuple (by decide +kernel) (pa_cons (pv 8) pa_nil)) pa_nil))) pa_nil)))))))
      (pss_one (ps_ret (pe_callTy (r := rTupOf K) call_tupOf (by rfl) T.n_tuple (by decide +kernel) (pa_cons (pv 3) pa_nil))))))))), ?_⟩
    walk_at "op"
    walk_at "st"
    refine fun m1 H2 m10 m11 hB2 x2 => ?_
    walk_at "st"
    refine fun n1 H3 n10 n11 hB3 x3 => ?_
    obtain ⟨m, hm⟩ : ∃ m : Nat, (m : Int) = 1 + m1 := ⟨(1 + m1).toNat, by omega⟩
    obtain ⟨n, hn⟩ : ∃ n : Nat, (n : Int) = 1 + n1 := ⟨(1 + n1).toNat, by omega⟩
    have hm6 : m ≤ 6 := by omega
    have hm1 : 1 ≤ m := by omega
    have hn4 : n ≤ 4 := by omega
    walk_at "st"
    rw [← hm, ← hn]
    refine ⟨by show 2 ≤ sizeLine; decide, fun t0 ht0 => ?_⟩
    have nt0 := hB3.ne ht0
    refine ⟨t0, _, rfl, SqT.of upd_same, rfl, _, _, rfl, _, _, rfl, rfl, ?_⟩
    refine ⟨by show 0 ≤ sizeLine; omega, fun R hR => ?_⟩
    have nR := (hB3.up (o := .tup [.int m, .int n]) nt0).ne hR
    have ml : (m : Int).natAbs.log2 < 9000 := Nat.lt_of_le_of_lt (Nat.log2_le_self _) (by omega)
    have hBR := (hB3.up (o := .tup [.int m, .int n]) nt0).up (o := .lst []) nR
    walk_at "st"
    refine fun way H4 w0 w4 hB4 x4 => ?_
    walk_at "st"
    refine fun free H5 f0 f1 hB5 x5 => ?_
    have hR5 : H5 R = some (.lst []) := x5 _ _ (x4 _ _ upd_same nR.symm) nR.symm
    have x05 := (x2.trans x3).trans (ext_new (o := .tup [.int m, .int n]) ht0)
    have xb5 := ((ext_new (p := p) (o := .lst []) hR).trans x4).trans x5
    generalize hHb : upd H3 t0 (.tup [.int m, .int n]) = Hb at hR x05 xb5
    have hwn : way.toNat < 4 := by omega
    obtain ⟨u, hu⟩ := hB5.here
    have pne : ∀ {S : Addr} {G : Hp}, Same H5 G → G S = none → S ≠ p := fun {S G} e z q => by
      rw [q] at z
      have := e p u hu
      rw [z] at this
      cases this
    have bagS : ∀ {G : Hp}, Same H5 G → Bag G p := fun {G} e => by
      obtain ⟨b1, b2, b3, q⟩ := hB5
      exact ⟨b1, b2, b3, e _ _ q⟩
    walk_at "st"
    rw [Int.toNat_natCast]
    refine fR (fun i σ G => Ext p Hb G ∧ Bag G p ∧ (∃ u6 u7 u8 u9, σ = [some (.ref p), some (.int m), some (.int n), some (.ref R), some (.int way), some (.int free), u6, u7, u8, u9, none]) ∧ ∃ xs ds, G R = some (.lst xs) ∧ Dats G p xs ds ∧ ds.length = i ∧ ∀ e ∈ ds, FloorD m e)
      ⟨xb5, hB5, ⟨_, _, _, _, rfl⟩, [], [], hR5, Dats.nil, rfl, fun e he => by simp at he⟩ ?_ ?_
    · rintro i σ G hi ⟨xG, hBG, ⟨u6, u7, u8, u9, rfl⟩, xs, ds, hRs, hD, hl, hf⟩
      obtain ⟨u', hu'⟩ := hBG.here
      have pneG : ∀ {S : Addr} {Z : Hp}, Same G Z → Z S = none → S ≠ p := fun {S Z} e z q => by
        rw [q] at z
        have := e p u' hu'
        rw [z] at this
        cases this
      walk_at "op"
      walk_at "st"
      refine fun S hS => ?_
      refine ⟨by show 0 ≤ sizeLine; omega, fun U hU => ?_⟩
      have nSU : S ≠ U := ne_of_none upd_same hU
      have hU0 : G U = none := by rw [← hU, upd_ne nSU.symm]
      have sG1 : Same G (upd (upd G S (.lst [])) U (.lst [])) := (same_new hS).trans (same_new hU)
      walk_at "st"
      rw [Int.toNat_natCast]
      refine fR (fun a σ G1 => Same G G1 ∧ (∃ u9, σ = [some (.ref p), some (.int m), some (.int n), some (.ref R), some (.int way), some (.int free), some (.int (0 + i)), some (.ref S), some (.ref U), u9, none]) ∧ RowsT G1 p S m a (gS m free way) ∧ RowsT G1 p U m a (gU m free way))
        ⟨sG1, ⟨_, rfl⟩, ⟨[], by rw [upd_ne nSU]; exact upd_same, Dats.nil⟩, ⟨[], upd_same, Dats.nil⟩⟩ ?_ ?_
      · rintro a σ G1 ha ⟨s1, ⟨u9, rfl⟩, hRS, hRU⟩
        rw [Int.zero_add]
        obtain ⟨xS, eS, dS⟩ := id hRS
        have lS : xS.length ≤ 6 := by
          rw [dS.1, List.length_map, List.length_range]
          omega
        walk_at "op"
        walk_at "st"
        refine ⟨.inl ⟨rfl, _, SqL.of eS⟩, ?_⟩
        walk_at "st"
        refine fun D' hD' => ?_
        rw [Int.toNat_natCast]
        refine lR (fun b G2 => Same G1 G2 ∧ G2 D' = some (.lst (((List.range b).map fun y => gS m free way a y).map V.int))) ⟨same_new hD', upd_same⟩ ?_ ?_
        · rintro b G2 hb ⟨s2, h2⟩
          rw [Int.zero_add]
          walk_at "op"
          refine ⟨rfl, ?_⟩
          walk_at "st"
          refine ⟨by show 4 ≤ sizeLine; decide, fun l hl => ?_⟩
          have nDl : D' ≠ l := ne_of_none h2 hl
          walk_at "st"
          refine ⟨_, _, _, _, rfl, rfl, SqL.of upd_same, atI_of (v := .int (gS m free way a b)) w0 (by
            have q := congrArg (Option.map V.int) (gS_at (m := m) (free := free) (a := a) (b := b) hwn)
            rw [← List.getElem?_map] at q
            exact q), ?_⟩
          refine ⟨_, by rw [upd_ne nDl]; exact h2, by rw [List.length_map, List.length_map, List.length_range]; exact small1000 (by omega), sameOff (s2.trans (same_new hl)) hD', ?_⟩
          rw [upd_same, range_snoc, List.map_append]
          rfl
        · rintro G2 ⟨s2, h2⟩
          walk_at "op"
          walk_at "st"
          refine ⟨_, _, rfl, .inl ⟨SqL.of h2, fun t ht => ?_⟩⟩
          have s3 : Same G1 (upd G2 t (.tup (((List.range m).map fun y => gS m free way a y).map V.int))) := s2.trans (same_new ht)
          have htp := pneG (s1.trans s2) ht
          refine ⟨S, xS, _, rfl, rfl, s3 _ _ eS, small1000 (by omega), ?_⟩
          have hRS4 := RowsT.add (s3 _ _ eS) (dS.same s3) upd_same htp
          have hRU4 := (hRU.same s3).setL (ys := xS ++ [.ref t]) (s3 _ _ eS) nSU.symm
          have s4 := sameOff (o := .lst (xS ++ [.ref t])) (s1.trans s3) hS
          generalize hG4 : upd (upd G2 t (.tup (((List.range m).map fun y => gS m free way a y).map V.int))) S (.lst (xS ++ [.ref t])) = G4 at hRS4 hRU4 s4 ⊢
          clear hG4 s3 ht h2 s2 G2 hD' D' t htp
          obtain ⟨xU, eU, dU⟩ := id hRU4
          have lU : xU.length ≤ 6 := by
            rw [dU.1, List.length_map, List.length_range]
            omega
          walk_at "op"
          walk_at "st"
          refine ⟨.inl ⟨rfl, _, SqL.of eU⟩, ?_⟩
          walk_at "st"
          refine fun D' hD' => ?_
          rw [Int.toNat_natCast]
          refine lR (fun b G2 => Same G4 G2 ∧ G2 D' = some (.lst (((List.range b).map fun y => gU m free way a y).map V.int))) ⟨same_new hD', upd_same⟩ ?_ ?_
          · rintro b G2 hb ⟨s2, h2⟩
            rw [Int.zero_add]
            walk_at "op"
            refine ⟨rfl, ?_⟩
            walk_at "st"
            refine ⟨wide_div (b := 3) (by omega) (by rw [Int.natAbs_natCast]; omega) (by decide) (by decide), ?_⟩
            walk_at "st"
            refine ⟨by show 4 ≤ sizeLine; decide, fun l hl => ?_⟩
            have nDl : D' ≠ l := ne_of_none h2 hl
            walk_at "st"
            refine ⟨_, _, _, _, rfl, rfl, SqL.of upd_same, atI_of (v := .int (gU m free way a b)) w0 (by
              have q := congrArg (Option.map V.int) (gU_at (m := m) (free := free) (a := a) (b := b) hwn)
              rw [← List.getElem?_map] at q
              exact q), ?_⟩
            refine ⟨_, by rw [upd_ne nDl]; exact h2, by rw [List.length_map, List.length_map, List.length_range]; exact small1000 (by omega), sameOff (s2.trans (same_new hl)) hD', ?_⟩
            rw [upd_same, range_snoc, List.map_append]
            rfl
          · rintro G2 ⟨s2, h2⟩
            walk_at "op"
            walk_at "st"
            refine ⟨_, _, rfl, .inl ⟨SqL.of h2, fun t ht => ?_⟩⟩
            have s3 : Same G4 (upd G2 t (.tup (((List.range m).map fun y => gU m free way a y).map V.int))) := s2.trans (same_new ht)
            have htp := pneG (s4.trans s2) ht
            refine ⟨U, xU, _, rfl, rfl, s3 _ _ eU, small1000 (by omega), ?_⟩
            exact ⟨sameOff (s4.trans s3) hU0, ⟨_, rfl⟩, (hRS4.same s3).setL (s3 _ _ eU) nSU, RowsT.add (s3 _ _ eU) (dU.same s3) upd_same htp⟩
      · rintro σ G1 ⟨s1, ⟨u9, rfl⟩, ⟨xS, eS, dS⟩, ⟨xU, eU, dU⟩⟩
        walk_at "op"
        walk_at "st"
        have hR1 := s1 _ _ hRs
        refine ⟨.inl ⟨rfl, _, SqL.of hR1⟩, ?_⟩
        walk_at "st"
        refine ⟨S, xS, rfl, .inl ⟨SqL.of eS, fun t1 ht1 => ?_⟩⟩
        walk_at "st"
        have n1 := pneG s1 ht1
        refine ⟨U, xU, rfl, .inl ⟨SqL.of (by rw [upd_ne (ne_of_none eU ht1)]; exact eU), fun t2 ht2 => ?_⟩⟩
        have n2 := pneG (s1.trans (same_new ht1)) ht2
        refine ⟨by show 2 ≤ sizeLine; decide, fun t ht => ?_⟩
        have n3 := pneG ((s1.trans (same_new ht1)).trans (same_new ht2)) ht
        have sN : Same G1 (upd (upd (upd G1 t1 (.tup xS)) t2 (.tup xU)) t (.tup [.ref t1, .ref t2])) := ((same_new ht1).trans (same_new ht2)).trans (same_new ht)
        have sGN := s1.trans sN
        refine ⟨R, xs, _, rfl, rfl, sGN _ _ hRs, small1000 (by rw [hD.1, hl]; omega), ?_⟩
        have hTS : TabD m (.tuple ((List.range m).map fun x => rowD ((List.range m).map fun y => gS m free way x y))) := rowsT_tab (gS_ok hwn f0 f1)
        have hTU : TabD m (.tuple ((List.range m).map fun x => rowD ((List.range m).map fun y => gU m free way x y))) := rowsT_tab (gU_ok hwn f0 f1)
        have hFN : FloorD m (.tuple [.tuple ((List.range m).map fun x => rowD ((List.range m).map fun y => gS m free way x y)), .tuple ((List.range m).map fun x => rowD ((List.range m).map fun y => gU m free way x y))]) := ⟨_, _, rfl, hTS, hTU⟩
        have hN : Dat (upd (upd (upd G1 t1 (.tup xS)) t2 (.tup xU)) t (.tup [.ref t1, .ref t2])) p (.ref t) (.tuple [.tuple ((List.range m).map fun x => rowD ((List.range m).map fun y => gS m free way x y)), .tuple ((List.range m).map fun x => rowD ((List.range m).map fun y => gU m free way x y))]) :=
          Dat.new ht n3 (Dats.cons ((Dat.new ht1 n1 dS).off ht2) (Dats.cons (Dat.new ht2 n2 (dU.off ht1)) Dats.nil))
        have hR9 := sGN _ _ hRs
        have hBN : Bag (upd (upd (upd G1 t1 (.tup xS)) t2 (.tup xU)) t (.tup [.ref t1, .ref t2])) p := by
          obtain ⟨b1, b2, b3, q⟩ := hBG
          exact ⟨b1, b2, b3, sGN _ _ q⟩
        refine ⟨(xG.trans (Same.ext sGN p)).off hR, hBN.up nR, ⟨_, _, _, _, rfl⟩, _, _, upd_same, Dats.snoc ((hD.same sGN).setL hR9 fun e he => (floor_fit hm6 (hf e he)).2.1) (hN.setL hR9 (floor_fit hm6 hFN).2.1), by simp [hl], fun e he => ?_⟩
        rcases List.mem_append.mp he with he | he
        · exact hf e he
        · simp only [List.mem_cons, List.not_mem_nil, or_false] at he
          subst he
          exact hFN
    · rintro σ G ⟨xG, hBG, ⟨u6, u7, u8, u9, rfl⟩, xs, ds, hRs, hD, hl, hf⟩
      walk_at "op"
      walk_at "st"
      refine ⟨_, _, rfl, .inl ⟨SqL.of hRs, fun t ht => ?_⟩⟩
      have nt := hBG.ne ht
      exact k _ _ m n _ (hBG.up nt) ((x05.trans xG).trans (ext_new ht)) (Dat.new ht nt.symm hD) ⟨ds, rfl, hl, by omega, hn4, hm1, hm6, hf⟩

end
end Fm
end FFH
section FSD
set_option Elab.async false
set_option linter.all false
set_option maxRecDepth 100000
set_option maxHeartbeats 4000000
local macro_rules | `(tactic| walk_at "ne") => `(tactic| first | assumption | (apply Ne.symm; assumption) | exact L2.ne_of_none (by assumption) (by assumption) | exact Ne.symm (L2.ne_of_none (by assumption) (by assumption)))
local macro_rules | `(tactic| walk_at "hl") => `(tactic| first | assumption | exact L2.upd_same | (refine Eq.trans (L2.upd_ne (by walk_at "ne")) ?_; walk_at "hl"))
local macro_rules | `(tactic| walk_at "sd") => `(tactic| first | (with_reducible show (_ : Int) < _; omega) | (with_reducible show (_ : Int) ≤ _; omega) | assumption | decide | exact ⟨by assumption, by assumption⟩ | exact ⟨by decide, by decide⟩ | exact Or.inr ⟨by decide, by decide⟩ | exact Or.inl ⟨by omega, by omega⟩ | rfl)
local macro_rules | `(tactic| walk_at "st1") => `(tactic| first
  | refine ⟨_, rfl, ?_⟩
  | refine ⟨_, _, rfl, rfl, ?_⟩
  | refine ⟨_, _, rfl, ?_⟩
  | (refine ⟨_, _, _, _, rfl, rfl, L2.SqL.of (by walk_at "hl"), rfl, ?_⟩)
  | (refine ⟨_, _, _, _, rfl, rfl, L2.SqT.of (by walk_at "hl"), rfl, ?_⟩)
  | (refine ⟨_, _, _, _, rfl, rfl, (by walk_at "hl"), rfl, ?_⟩)
  | (refine And.intro (by walk_at "sd") ?_)
  )
local macro_rules | `(tactic| walk_at "st") => `(tactic| repeat walk_at "st1")
local macro_rules | `(tactic| walk_at "op") => `(tactic| try dsimp only [L2.tSeq, L2.tAsg, L2.tOp, L2.tVar, L2.tC, L2.gSub, L2.rI, L2.rI0, L2.rIxL, L2.rIxT, L2.rSetL, L2.tIfS, L2.tTest, L2.tRet, L2.gName, L2.tNext, L2.tAnd, L2.tOr, L2.tNot, L2.tAndV, L2.tOrV, L2.tNotV, L2.tB, L2.tCB, L2.tCons, L2.tNil, L2.tCall, L2.tTup, L2.tLst, L2.tChain, L2.tUn, L2.tPar, L2.tDrop, L2.tIf, L2.tBM, L2.tBM0, L2.rAppend, L2.rCat, L2.rIsi, L2.rIsiT, L2.gTup, L2.gCons, L2.gNil, Fm.tFor_eq, Fm.tLc_eq, L2.iTup, L2.iList, L2.iRng1, L2.iRng2, L2.tSl, L2.tPart, L2.tNoPart, L2.rSlL, L2.rEq, L2.rNe, L2.rU, L2.rEqD, L2.rNeD, Fm.tRevT, Fm.rLenS, Fm.rTupOf, Fm.rLstOf, L2.tDNewK, L2.tCallS, L2.WE, Fm.wKeep, Fm.rIsK, Fm.rIsKT, List.cons_append, List.nil_append, L2.tYes])
namespace Fm
open PySem PySem.Spec PyProof.Rows L2
abbrev s_law_standing : Stmt := top 40
abbrev N_law_standing : List Str := ["bag", "house", "many", "m", "floors", "counts", "k", "floor", "ground", "row"]
theorem sc_law_standing : FnScope N_law_standing ["bag", "house", "many"] (defScope s_law_standing) := ⟨rfl, rfl, rfl, by decide +kernel, rfl, by decide +kernel, by decide +kernel⟩
section
variable {P : Program} {w : World} {K : PySem.W.Frag} {mg : Str → Option Value} {base : Heap}
theorem LL.ext {H H' : Hp} {p L : Addr} {ws : List V} {fl : List (List Int)} (h : LL H p L ws fl) (e : Ext p H H') (nL : L ≠ p) : LL H' p L ws fl :=
  ⟨e _ _ h.at_ nL, h.len, fun j c q => by
    obtain ⟨b, e1, e2, e3, e4⟩ := h.row j c q
    exact ⟨b, e1, e _ _ e2 e4, e3, e4⟩⟩
def Inj (ws : List V) : Prop := ∀ (i1 i2 : Nat) (b : Addr), ws[i1]? = some (V.ref b) → ws[i2]? = some (V.ref b) → i1 = i2
def Fresh (H0 : Hp) (ws : List V) : Prop := ∀ (i : Nat) (b : Addr), ws[i]? = some (V.ref b) → H0 b = none
theorem snoc_get {ws : List V} {l b : Addr} {i : Nat} (e : (ws ++ [V.ref l])[i]? = some (V.ref b)) : ws[i]? = some (V.ref b) ∨ (i = ws.length ∧ b = l) := by
  by_cases hi : i < ws.length
  · rw [List.getElem?_append_left hi] at e
    exact .inl e
  · rw [List.getElem?_append_right (by omega)] at e
    cases z : i - ws.length with
    | zero =>
      rw [z] at e
      cases e
      exact .inr ⟨by omega, rfl⟩
    | succ w => rw [z] at e; cases e
theorem Inj.snoc {ws : List V} {l : Addr} (h : Inj ws) (n : ∀ (i : Nat) (b : Addr), ws[i]? = some (V.ref b) → b ≠ l) : Inj (ws ++ [V.ref l]) := fun i1 i2 b e1 e2 => by
  rcases snoc_get e1 with q1 | ⟨q1, q2⟩
  · rcases snoc_get e2 with r1 | ⟨r1, r2⟩
    · exact h i1 i2 b q1 r1
    · exact absurd r2 (n i1 b q1)
  · rcases snoc_get e2 with r1 | ⟨r1, r2⟩
    · exact absurd q2 (n i2 b r1)
    · rw [q1, r1]
theorem Fresh.snoc {H0 : Hp} {ws : List V} {l : Addr} (h : Fresh H0 ws) (hl : H0 l = none) : Fresh H0 (ws ++ [V.ref l]) := fun i b e => by
  rcases snoc_get e with q | ⟨_, q⟩
  · exact h i b q
  · rw [q]; exact hl
theorem LL.off {H : Hp} {p L l : Addr} {ws : List V} {fl : List (List Int)} (h : LL H p L ws fl) (hl : H l = none) : ∀ (i : Nat) (b : Addr), ws[i]? = some (V.ref b) → b ≠ l := fun i b e z => by
  obtain ⟨b', e1, e2, _⟩ := h.row i (fl[i]'(by rw [← h.len]; exact (List.getElem?_eq_some_iff.mp e).1)) (List.getElem?_eq_getElem _)
  rw [e] at e1
  cases e1
  subst z
  rw [hl] at e2
  cases e2
def tot (fl : List (List Int)) : Int := (fl.map List.sum).sum
theorem tot_set {fl : List (List Int)} {f j : Nat} {c : List Int} {x : Int} (hf : fl[f]? = some c) (hj : c[j]? = some x) : tot (fl.set f (c.set j (x + 1))) = tot fl + 1 := by
  unfold tot
  rw [List.map_set, sum_set (z := c.sum) (by rw [List.getElem?_map, hf]; rfl), sum_set hj]
  omega
theorem tot_zero (n m : Nat) : tot (List.replicate n (List.replicate m (0 : Int))) = 0 := by
  have h0 : (List.replicate m (0 : Int)).sum = 0 := by
    induction m with
    | zero => rfl
    | succ m ih => rw [List.replicate_succ, List.sum_cons, ih]; rfl
  unfold tot
  induction n with
  | zero => rfl
  | succ n ih => rw [List.replicate_succ, List.map_cons, List.sum_cons, ih, h0]; rfl
theorem sd_core {Dn : Ends} {H G : Hp} {p C ah : Addr} {ws : List V} {fl : List (List Int)} {m n many : Nat} {fi : Int} {u6 g8 : Option V} (f0 : 0 ≤ fi) (f1 : fi < n) (hm1 : 1 ≤ m) (hm6 : m ≤ 6) (nCp : C ≠ p) (hx : Ext p H G) (hB : Bag G p) (hLL : LL G p C ws fl) (inj : Inj ws) (fresh : Fresh H ws)
    (hln : fl.length = n) (hm : ∀ r ∈ fl, r.length = m) (hp : ∀ r ∈ fl, ∀ c ∈ r, 0 ≤ c)
    (hn : ∀ G', Ext p H G' → Bag G' p → ∀ fl', LL G' p C ws fl' → fl'.length = n → (∀ r ∈ fl', r.length = m) → (∀ r ∈ fl', ∀ c ∈ r, 0 ≤ c) → tot fl' = tot fl + 1 → Dn.nx [some (.ref p), some (.ref ah), some (.int many), some (.int m), some (.int n), some (.ref C), u6, some (.int fi), g8, none] G') :
    tAugS (tOp (rIxL K) (tVar 5) (tVar 7)) (tCall spPick [] E0 (tCons (tVar 0) (tCons (tVar 3) tNil))) (tC (V.int 1)) (rGetL K) (ipI fun i j => i + j) rSetL Dn
      [some (.ref p), some (.ref ah), some (.int many), some (.int m), some (.int n), some (.ref C), u6, some (.int fi), g8, none] G := by
  have hfl : fi.toNat < fl.length := by omega
  obtain ⟨E1, hw, hE, nEC, nEp⟩ := hLL.row fi.toNat fl[fi.toNat] (List.getElem?_eq_getElem hfl)
  have hcm : fl[fi.toNat] ∈ fl := List.getElem_mem _
  have hgf : fl[fi.toNat]? = some fl[fi.toNat] := List.getElem?_eq_getElem hfl
  generalize fl[fi.toNat] = c at hE hcm hgf
  have hcl := hm c hcm
  have mlog : (m : Int).natAbs.log2 < 9000 := Nat.lt_of_le_of_lt (Nat.log2_le_self _) (by omega)
  refine ⟨_, rfl, _, rfl, C, ws, fi, _, rfl, rfl, SqL.of hLL.at_, atI_of f0 hw, ?_⟩
  refine ⟨_, rfl, _, rfl, ?_⟩
  refine ⟨p, m, rfl, by omega, mlog, hB, fun j G1 j0 j1 hB1 x1 => ?_⟩
  have hj : j.toNat < c.length := by omega
  have hE1 := x1 _ _ hE nEp
  have ej : j = ((j.toNat : Nat) : Int) := by omega
  have hcj : c[j.toNat]? = some c[j.toNat] := List.getElem?_eq_getElem hj
  refine ⟨E1, _, j.toNat, .int c[j.toNat], rfl, by rw [← ej], SqL.of hE1, by rw [List.getElem?_map, hcj]; rfl, ?_⟩
  refine ⟨_, _, rfl, rfl, ?_⟩
  refine ⟨E1, _, j, j.toNat, rfl, rfl, hE1, by rw [ej, Int.toNat_natCast]; exact ixN_of (by rw [List.length_map]; exact hj), ?_⟩
  have hLL1 := hLL.ext x1 nCp
  have hLL2 := hLL1.updRow (c := c.set j.toNat (c[j.toNat] + 1)) hw fun i e => inj i _ E1 e hw
  rw [show (c.map V.int).set j.toNat (V.int (c[j.toNat] + 1)) = (c.set j.toNat (c[j.toNat] + 1)).map V.int from by rw [List.map_set]]
  refine hn _ ((hx.trans x1).off (fresh _ _ hw)) (hB1.up nEp.symm) _ hLL2 (by rw [List.length_set]; exact hln) (fun r hr => ?_) (fun r hr x hxr => ?_) (tot_set hgf hcj)
  · rcases List.mem_or_eq_of_mem_set hr with q | rfl
    · exact hm r q
    · rw [List.length_set]; exact hcl
  · rcases List.mem_or_eq_of_mem_set hr with q | rfl
    · exact hp r q x hxr
    · rcases List.mem_or_eq_of_mem_set hxr with q | rfl
      · exact hp c hcm x q
      · have := hp c hcm _ (List.mem_of_getElem? hcj)
        omega
def spStanding : Sp := fun vs H Q _ => ∃ (p : Addr) (hv : V) (hd : PyData) (m n many : Nat), vs = [.ref p, hv, .int many] ∧ Bag H p ∧ Dat H p hv hd ∧ HouseN m n hd ∧ many ≤ 60 ∧
  ∀ v' H' rows out, Bag H' p → Ext p H H' → Dat H' p v' (stD rows out) → rows.length = n → StOk m rows out → tot rows ≤ many → out ≤ 2 → Q v' H'
theorem ok_law_standing (D : Df K mg "_law_standing" s_law_standing ["bag", "house", "many"]) (T : Nms mg) (c_law_pick : CallOk P w K mg base CX0 1 "_law_pick" ["bag", "many"] spPick) : CallOk P w K mg base CX0 2 "_law_standing" ["bag", "house", "many"] spStanding := by
  refine df_ok D sc_law_standing (fun vs H Q E h => ?_) (fun f cdv A outer s H vs Q E hr h => ?_)
  · obtain ⟨p, hv, hd, m, n, many, rfl, _⟩ := h
    rfl
  · obtain ⟨p, hv, hd, m, n, many, rfl, hB, hD, hN, hmany, k⟩ := h
    have nd := sc_law_standing.nd
    obtain ⟨fs, rfl, hfl, hn1, hn4, hm1, hm6, hFl⟩ := id hN
    obtain ⟨ah, hs, rfl, hah, nah, hh⟩ := hD.isTup
    have hd0 : fs[0]? = some fs[0] := List.getElem?_eq_getElem (by omega)
    obtain ⟨s0, u0, e0, ⟨rs, e1, e2, _⟩, _⟩ := hFl fs[0] (List.getElem_mem _)
    rw [e0] at hd0
    subst e1
    obtain ⟨x0, hx0, hdx0⟩ := hh.back hd0
    obtain ⟨a0, y0, rfl, ha0, na0, hs0⟩ := hdx0.isTup
    obtain ⟨z0, hz0, hdz0⟩ := hs0.back (i := 0) rfl
    obtain ⟨af, yf, rfl, haf, naf, hsf⟩ := hdz0.isTup
    have hyl : yf.length = m := by rw [hsf.1, e2]
    have hhl : hs.length = n := by rw [hh.1, hfl]
    refine ⟨_, (pss_cons (ps_asg (pe_tup (pa_cons (pe_callB (r := rLenS K) call_lenS (by rfl) T.n_len (by decide +kernel) (pa_cons (pe_ix (r := rIxT K) ix_tup (pe_ix (r := rIxT K) ix_tup (pv 1) pe_int (fun _ _ => rfl)) pe_int (fun _ _ => rfl)) pa_nil)) (pa_cons (pe_callB (r := rLenS K) call_lenS (by rfl) T.n_len (by decide +kernel) (pa_cons (pv 1) pa_nil)) pa_nil))) (pg_tup rfl (pgs_cons (pg_name (i := 3) nd rfl (Or.inr rfl)) (pgs_cons (pg_name (i := 4) nd rfl (Or.inl rfl)) pgs_nil))))
      (pss_cons (ps_setLc (i := 5) (own := [("floor", 7)]) (g := (gName 7)) (tt := tYes) (by rfl) nd rfl rfl (sw_true rfl rfl rfl (by decide +kernel)) (pi_range1 rfl T.n_range (pa_cons (pv 4) pa_nil)) (blkOk_by (own := [("floor", 7)]) (N := N_law_standing) (sc := defScope s_law_standing) (by decide +kernel)) (fun _ _ _ _ _ => (pg_name (i := 7) nd rfl (Or.inl rfl))) (fun _ _ _ _ _ => pts_nil) (fun _ _ _ _ _ => (pe_lc (own := [("k", 6)]) (g := (gName 6)) (tt := tYes) (by rfl) nd (pi_range1 rfl T.n_range (pa_cons (pv 3) pa_nil)) (blkOk_by (own := [("k", 6)]) (N := N_law_standing) (sc := relS _ (defScope s_law_standing)) (by decide +kernel)) (fun _ _ _ _ _ => (pg_name (i := 6) nd rfl (Or.inl rfl))) (fun _ _ _ _ _ => pts_nil) (fun _ _ _ _ _ => pe_int))))
      (pss_cons (ps_set (i := 8) nd rfl (Or.inl rfl) (pe_cmpR op_eq (pe_cc c_law_pick (hr.mono (by omega)) (pa_cons (pv 0) (pa_cons pe_int pa_nil))) pe_int (nomark _)))
      (pss_cons (ps_for PassesOwn.never rfl (pi_range1 rfl T.n_range (pa_cons (pe_cc c_law_pick (hr.mono (by omega)) (pa_cons (pv 0) (pa_cons (pe_op op_add (pv 2) pe_int) pa_nil))) pa_nil)) (pg_name (i := 6) nd rfl (Or.inl rfl)) (pss_cons (ps_set (i := 7) nd rfl (Or.inl rfl) (pe_ifExp (pt_val (pv 8)) pe_int (pe_cc c_law_pick (hr.mono (by omega)) (pa_cons (pv 0) (pa_cons (pv 4) pa_nil)))))
      (pss_one (ps_augS (pe_ix (r := rIxL K) ix_list (pv 5) (pv 7) (fun _ _ => rfl)) (pe_cc c_law_pick (hr.mono (by omega)) (pa_cons (pv 0) (pa_cons (pv 3) pa_nil))) get_list pe_int ip_add set_list))))
      (pss_one (ps_ret (pe_op (r := rCatA K) op_catA (pe_callTy (r := rTupOf K) call_tupOf (by rfl) T.n_tuple (by decide +kernel) (pa_cons (pe_lc (own := [("row", 9)]) (g := (gName 9)) (tt := tYes) (by rfl) nd (pi_list (pv 5)) (blkOk_by (own := [("row", 9)]) (N := N_law_standing) (sc := defScope s_law_standing) (by decide +kernel)) (fun _ _ _ _ _ => (pg_name (i := 9) nd rfl (Or.inl rfl))) (fun _ _ _ _ _ => pts_nil) (fun _ _ _ _ _ => (pe_callTy (r := rTupOf K) call_tupOf (by rfl) T.n_tuple (by decide +kernel) (pa_cons (pv 9) pa_nil)))) pa_nil)) (pe_tup (pa_cons (pe_cc c_law_pick (hr.mono (by omega)) (pa_cons (pv 0) (pa_cons pe_int pa_nil))) pa_nil))))))))), ?_⟩
    walk_at "op"
    walk_at "st"
    refine ⟨_, _, _, _, rfl, rfl, SqT.of hah, atI_nat (j := 0) hx0, ?_⟩
    walk_at "st"
    refine ⟨_, _, _, _, rfl, rfl, SqT.of ha0, atI_nat (j := 0) hz0, ?_⟩
    refine ⟨_, _, rfl, .inr (SqT.of haf), ?_⟩
    walk_at "st"
    refine ⟨_, _, rfl, .inr (SqT.of hah), ?_⟩
    refine ⟨by show 2 ≤ sizeLine; decide, fun t0 ht0 => ?_⟩
    have nt0 := hB.ne ht0
    refine ⟨t0, _, rfl, SqT.of upd_same, rfl, _, _, rfl, _, _, rfl, rfl, ?_⟩
    rw [hyl, hhl]
    walk_at "op"
    walk_at "st"
    obtain ⟨u, hu⟩ := hB.here
    refine fun C hC => ?_
    rw [Int.toNat_natCast]
    have nCt : C ≠ t0 := fun z => by rw [z, upd_same] at hC; cases hC
    have hCH : H C = none := by rw [upd_ne nCt] at hC; exact hC
    have hsm0 : Same H (upd H t0 (.tup [.int m, .int n])) := same_new ht0
    have pne : ∀ {S : Addr} {G : Hp}, Same H G → G S = none → S ≠ p := fun {S G} e z q => by
      rw [q] at z
      have := e p u hu
      rw [z] at this
      cases this
    have nCp : C ≠ p := pne hsm0 hC
    refine lR (fun i G => Same H G ∧ ∃ ws, LL G p C ws (List.replicate i (List.replicate m (0 : Int))) ∧ Inj ws ∧ Fresh H ws)
      ⟨hsm0.trans (same_new hC), [], LL.nil upd_same, fun i1 i2 b e => (by cases e), fun i b e => (by cases e)⟩ ?_ ?_
    · rintro i G hi ⟨sm, ws, hLL, inj, fresh⟩
      walk_at "op"
      refine ⟨rfl, ?_⟩
      walk_at "st"
      refine fun E1 hE1 => ?_
      rw [Int.toNat_natCast]
      have hEH := sameFree sm hE1
      have nCE : C ≠ E1 := ne_of_none hLL.at_ hE1
      have wl : ws.length = i := by rw [hLL.len, List.length_replicate]
      refine lR (fun j G2 => Same G G2 ∧ G2 E1 = some (.lst ((List.replicate j (0 : Int)).map V.int))) ⟨same_new hE1, upd_same⟩ ?_ ?_
      · rintro j G2 hj ⟨s2, h2⟩
        walk_at "op"
        refine ⟨rfl, ?_⟩
        walk_at "st"
        refine ⟨_, h2, by rw [List.length_map, List.length_replicate]; exact small1000 (by omega), sameOff s2 hE1, ?_⟩
        rw [upd_same, List.replicate_succ', List.map_append]
        rfl
      · rintro G2 ⟨s2, h2⟩
        have hLL2 := hLL.same s2
        refine ⟨ws, hLL2.at_, small1000 (by omega), sameOff (sm.trans s2) hCH, ws ++ [.ref E1], ?_, inj.snoc (hLL.off hE1), fresh.snoc hEH⟩
        rw [List.replicate_succ']
        exact hLL2.snoc h2 nCE.symm (pne sm hE1)
    · rintro G ⟨sm, ws, hLL, inj, fresh⟩
      have hBG : Bag G p := by
        obtain ⟨b1, b2, b3, e⟩ := hB
        exact ⟨b1, b2, b3, sm _ _ e⟩
      walk_at "op"
      walk_at "st"
      refine fun g G1 g0 g1 hB1 x1 => ?_
      have ml : ((many : Int) + 1).natAbs.log2 < 9000 := Nat.lt_of_le_of_lt (Nat.log2_le_self _) (by omega)
      refine ⟨rfl, ?_⟩
      walk_at "st"
      refine fun q G2 q0 q1 hB2 x2 => ?_
      have xG2 := ((Same.ext sm p).trans x1).trans x2
      have hLL2 := (hLL.ext x1 nCp).ext x2 nCp
      refine ⟨q, rfl, by omega, by omega, ?_⟩
      refine fR (fun i σ G3 => Ext p H G3 ∧ Bag G3 p ∧ (∃ u6 u7, σ = [some (.ref p), some (.ref ah), some (.int many), some (.int m), some (.int n), some (.ref C), u6, u7, some (.bl (decide (V.int g = V.int 0))), none]) ∧
          ∃ fl, LL G3 p C ws fl ∧ fl.length = n ∧ (∀ r ∈ fl, r.length = m) ∧ (∀ r ∈ fl, ∀ c ∈ r, 0 ≤ c) ∧ tot fl = i)
        ⟨xG2, hB2, ⟨_, _, rfl⟩, _, hLL2, List.length_replicate, fun r hr => (by rw [(List.mem_replicate.mp hr).2]; exact List.length_replicate), fun r hr c hc => (by rw [(List.mem_replicate.mp hr).2] at hc; rw [(List.mem_replicate.mp hc).2]; exact Int.le_refl 0), tot_zero n m⟩ ?_ ?_
      · rintro i σ G3 hi ⟨x3, hB3, ⟨u6, u7, rfl⟩, fl, hLL3, hl3, hm3, hp3, ht3⟩
        have mlog : (m : Int).natAbs.log2 < 9000 := Nat.lt_of_le_of_lt (Nat.log2_le_self _) (by omega)
        have nlog : (n : Int).natAbs.log2 < 9000 := Nat.lt_of_le_of_lt (Nat.log2_le_self _) (by omega)
        -- what happens once the floor is chosen
        walk_at "op"
        walk_at "st"
        have go : ∀ (fi : Int) (G4 : Hp), 0 ≤ fi → fi < n → Ext p H G4 → Bag G4 p → LL G4 p C ws fl → ∀ (Dn : Ends) (u6' g8 : Option V), (∀ G', Ext p H G' → Bag G' p → ∀ fl', LL G' p C ws fl' → fl'.length = n → (∀ r ∈ fl', r.length = m) → (∀ r ∈ fl', ∀ c ∈ r, 0 ≤ c) → tot fl' = tot fl + 1 → Dn.nx [some (.ref p), some (.ref ah), some (.int many), some (.int m), some (.int n), some (.ref C), u6', some (.int fi), g8, none] G') → 
            tAugS (tOp (rIxL K) (tVar 5) (tVar 7)) (tCall spPick [] E0 (tCons (tVar 0) (tCons (tVar 3) tNil))) (tC (V.int 1)) (rGetL K) (ipI fun i j => i + j) rSetL Dn
              [some (.ref p), some (.ref ah), some (.int many), some (.int m), some (.int n), some (.ref C), u6', some (.int fi), g8, none] G4 := fun fi G4 f0 f1 x4 hB4 hLL4 Dn u6' g8 hn => sd_core f0 f1 hm1 hm6 nCp x4 hB4 hLL4 inj fresh hl3 hm3 hp3 hn
        refine ite2 (fun c0 => ?_) (fun c0 => ?_)
        · refine go 0 G3 (by omega) (by omega) x3 hB3 hLL3 _ _ _ fun G' x' hB' fl' hLL' h1 h2 h3 h4 => ⟨x', hB', ⟨_, _, rfl⟩, fl', hLL', h1, h2, h3, ?_⟩
          rw [h4, ht3]
          omega
        · refine ⟨_, rfl, _, rfl, ?_⟩
          refine ⟨p, n, rfl, by omega, nlog, hB3, fun fi G4 f0 f1 hB4 x4 => ?_⟩
          refine go fi G4 f0 f1 (x3.trans x4) hB4 (hLL3.ext x4 nCp) _ _ _ fun G' x' hB' fl' hLL' h1 h2 h3 h4 => ⟨x', hB', ⟨_, _, rfl⟩, fl', hLL', h1, h2, h3, ?_⟩
          rw [h4, ht3]
          omega
      · rintro σ G3 ⟨x3, hB3, ⟨u6, u7, rfl⟩, fl, hLL3, hl3, hm3, hp3, ht3⟩
        walk_at "op"
        walk_at "st"
        refine ⟨⟨_, SqL.of hLL3.at_⟩, fun D' hD' => ?_⟩
        have nCD : C ≠ D' := ne_of_none hLL3.at_ hD'
        obtain ⟨uB, huB⟩ := hB3.here
        have pne3 : ∀ {S : Addr} {Z : Hp}, Same G3 Z → Z S = none → S ≠ p := fun {S Z} e z q => by
          rw [q] at z
          have := e p uB huB
          rw [z] at this
          cases this
        have rno : ∀ (l : List (List Int)), ∀ d ∈ l.map rowD, noList d = true := fun l d hd => by
          obtain ⟨r, _, rfl⟩ := List.mem_map.mp hd
          exact noList_ints _ _
        refine lI walk_list (fun j G4 => Same G3 G4 ∧ ∃ ws2, G4 D' = some (.lst ws2) ∧ Dats G4 p ws2 ((fl.take j).map rowD)) ⟨same_new hD', [], upd_same, Dats.nil⟩ (fun j G4 _ ⟨e, _⟩ => SqL.of (e _ _ hLL3.at_)) ?_ ?_
        · rintro j x G4 _ hj ⟨s4, ws2, hw2, hd2⟩ ⟨rfl, hxj⟩
          have hjl : j < fl.length := by rw [← hLL3.len]; exact hj
          obtain ⟨b, e1, e2, _⟩ := hLL3.row j fl[j] (List.getElem?_eq_getElem hjl)
          rw [hxj] at e1
          cases e1
          have wl2 : ws2.length ≤ 4 := by
            rw [hd2.1, List.length_map, List.length_take]
            omega
          walk_at "op"
          refine ⟨rfl, ?_⟩
          walk_at "st"
          refine ⟨b, _, rfl, .inl ⟨SqL.of (s4 _ _ e2), fun l hl => ?_⟩⟩
          have hw3 := (same_new (o := .tup (fl[j].map V.int)) hl) _ _ hw2
          refine ⟨ws2, hw3, small1000 (by omega), sameOff (s4.trans (same_new hl)) hD', ws2 ++ [.ref l], upd_same, ?_⟩
          have e9 : (fl.take (j + 1)).map rowD = (fl.take j).map rowD ++ [rowD fl[j]] := by
            rw [List.take_add_one, List.getElem?_eq_getElem hjl, List.map_append]
            rfl
          rw [e9]
          refine ((hd2.off hl).setL hw3 (rno _)).snoc (Dat.setL hw3 (.tup upd_same (pne3 s4 hl) (by rw [List.length_map, List.length_map]) fun i x d a b => (Dats.ints (p := p) fl[j]).2 i x d a b) (noList_ints _ _))
        · rintro G4 ⟨s4, ws2, hw2, hd2⟩
          rw [hLL3.len, List.take_length] at hd2
          walk_at "op"
          walk_at "st"
          refine ⟨D', ws2, rfl, .inl ⟨SqL.of hw2, fun t1 ht1 => ?_⟩⟩
          have nt1 := pne3 s4 ht1
          have hB5 : Bag (upd G4 t1 (.tup ws2)) p := by
            obtain ⟨b1, b2, b3, e⟩ := hB3
            exact ⟨b1, b2, b3, (s4.trans (same_new ht1)) _ _ e⟩
          walk_at "st"
          refine fun o G6 o0 o1 hB6 x6 => ?_
          walk_at "st"
          refine ⟨by show 1 ≤ sizeLine; decide, fun t2 ht2 => ?_⟩
          have nt2 := hB6.ne ht2
          have ht16 := x6 _ _ (upd_same (H := G4) (a := t1) (o := .tup ws2)) nt1
          have hwl : ws2.length = n := by rw [hd2.1, List.length_map, hl3]
          refine ⟨t1, t2, ws2, _, rfl, rfl, SqT.of (by rw [upd_ne (ne_of_none ht16 ht2)]; exact ht16), SqT.of upd_same, len_le (by show _ + 1 ≤ 1000; omega), fun e => ?_, fun _ e => (by cases e), fun _ _ r hr => ?_⟩
          · rw [e] at hwl
            have : ([] : List V).length = 0 := rfl
            omega
          · have nr := (hB6.up (o := .tup [.int o]) nt2).ne hr
            have hd6 : Dats (upd G6 t2 (.tup [.int o])) p ws2 (fl.map rowD) := (((hd2.off ht1).ext x6).off ht2)
            refine k _ _ fl o ((hB6.up nt2).up nr) ((((x3.trans (Same.ext s4 p)).trans (ext_new ht1)).trans x6).trans ((ext_new ht2).trans (ext_new hr))) (Dat.new hr nr.symm (hd6.snoc (.int o))) hl3 ⟨hm3, hp3, o0⟩ (by rw [ht3]; omega) (by omega)

end
end Fm
end FSD
section FFmLc2
set_option Elab.async false
set_option linter.all false
set_option maxRecDepth 100000
set_option maxHeartbeats 4000000
namespace Fm
open PySem PySem.Spec PyProof.Rows L2
/-- the inner walk of a comprehension with two for, its list at D, within one turn of the outer one -/
def LcI (J1 : It) (g1 : TG) (tt1 : TT) (te : TE) (vs1 : List Nat) (σ2 : L2.St) (H4 : Hp) (D : Addr) (Nx : Hp → Prop) : Prop := ∃ W1 : Nat → Nat → Hp → Prop, (∃ m, W1 0 m H4) ∧ ∀ j k H, W1 j k H →
  (J1.stop j H ∧ Nx H) ∨ (J1.go j H ∧ ∃ Nx1 : Hp → Prop, (∀ H', Nx1 H' → ∃ k', k' < k ∧ W1 (j + 1) k' H') ∧ ∀ x H', J1.yld j H x H' → g1 x (wipe σ2 vs1) H' fun σ3 H5 => wipe σ3 vs1 = wipe σ2 vs1 ∧ tt1 σ3 H5 fun b H6 =>
    if b = true then te σ3 H6 fun y H7 => ∃ acc, H7 D = some (.lst acc) ∧ acc.length < sizeLine ∧ Nx1 (upd H7 D (.lst (acc ++ [y]))) else Nx1 H6)
def Lc2B (J : It) (g : TG) (tt : TT) (wi1 : TI) (g1 : TG) (tt1 : TT) (te : TE) (vs vs1 : List Nat) (σ : L2.St) (H1 : Hp) (D : Addr) (Qd : Hp → Prop) : Prop := ∃ W : Nat → Nat → Hp → Prop, (∃ m, W 0 m (upd H1 D (.lst []))) ∧ ∀ i m H, W i m H →
  (J.stop i H ∧ Qd H) ∨ (J.go i H ∧ ∃ Nx : Hp → Prop, (∀ H', Nx H' → ∃ m', m' < m ∧ W (i + 1) m' H') ∧ ∀ x H', J.yld i H x H' → g x (wipe σ vs) H' fun σ2 H2 => wipe σ2 vs = wipe σ vs ∧ tt σ2 H2 fun b H3 =>
    if b = true then wi1 σ2 H3 fun J1 H4 => LcI J1 g1 tt1 te vs1 σ2 H4 D Nx else Nx H3)
theorem tLc2_eq {wi wi1 : TI} {g g1 : TG} {tt tt1 : TT} {te : TE} {vs vs1 : List Nat} {σ : L2.St} {H : Hp} {Q : VK} : tLc2 wi g tt wi1 g1 tt1 te vs vs1 σ H Q = wi σ H fun J H1 => ∀ A, H1 A = none → Lc2B J g tt wi1 g1 tt1 te vs vs1 σ H1 A (fun H => Q (.ref A) H) := rfl
section
variable {J : It} {n : Nat} {G : Hp → Prop} {Y : Nat → Hp → V → Hp → Prop}
theorem l2I (w : Walk J n G Y) {g : TG} {tt : TT} {wi1 : TI} {g1 : TG} {tt1 : TT} {te : TE} {vs vs1 : List Nat} {σ : L2.St} {H1 : Hp} {D : Addr} {Qd : Hp → Prop} (Pv : Nat → Hp → Prop) (h0 : Pv 0 (upd H1 D (.lst []))) (hG : ∀ i H, i ≤ n → Pv i H → G H)
    (hs : ∀ i x H H', i < n → Pv i H → Y i H x H' → g x (wipe σ vs) H' fun σ2 H2 => wipe σ2 vs = wipe σ vs ∧ tt σ2 H2 fun b H3 =>
      if b = true then wi1 σ2 H3 fun J1 H4 => LcI J1 g1 tt1 te vs1 σ2 H4 D (Pv (i + 1)) else Pv (i + 1) H3) (hd : ∀ H, Pv n H → Qd H) : Lc2B J g tt wi1 g1 tt1 te vs vs1 σ H1 D Qd := by
  refine ⟨fun i m H => m = n - i ∧ i ≤ n ∧ Pv i H, ⟨n, by simp, Nat.zero_le _, h0⟩, ?_⟩
  rintro i m H ⟨rfl, hi, p⟩
  have q := hG i H hi p
  by_cases hlt : i < n
  · exact .inr ⟨w.goes i H hlt q, Pv (i + 1), fun H' p' => ⟨n - (i + 1), by omega, rfl, hlt, p'⟩, fun x H' y => hs i x H H' hlt p (w.yields i H x H' hlt q y)⟩
  · have e : i = n := by omega
    subst e
    exact .inl ⟨w.stops H q, hd H p⟩
theorem liI (w : Walk J n G Y) {g1 : TG} {tt1 : TT} {te : TE} {vs1 : List Nat} {σ2 : L2.St} {H4 : Hp} {D : Addr} {Nx : Hp → Prop} (Pv : Nat → Hp → Prop) (h0 : Pv 0 H4) (hG : ∀ i H, i ≤ n → Pv i H → G H)
    (hs : ∀ i x H H', i < n → Pv i H → Y i H x H' → g1 x (wipe σ2 vs1) H' fun σ3 H5 => wipe σ3 vs1 = wipe σ2 vs1 ∧ tt1 σ3 H5 fun b H6 =>
      if b = true then te σ3 H6 fun y H7 => ∃ acc, H7 D = some (.lst acc) ∧ acc.length < sizeLine ∧ Pv (i + 1) (upd H7 D (.lst (acc ++ [y]))) else Pv (i + 1) H6) (hd : ∀ H, Pv n H → Nx H) : LcI J g1 tt1 te vs1 σ2 H4 D Nx := by
  refine ⟨fun i m H => m = n - i ∧ i ≤ n ∧ Pv i H, ⟨n, by simp, Nat.zero_le _, h0⟩, ?_⟩
  rintro i m H ⟨rfl, hi, p⟩
  have q := hG i H hi p
  by_cases hlt : i < n
  · exact .inr ⟨w.goes i H hlt q, Pv (i + 1), fun H' p' => ⟨n - (i + 1), by omega, rfl, hlt, p'⟩, fun x H' y => hs i x H H' hlt p (w.yields i H x H' hlt q y)⟩
  · have e : i = n := by omega
    subst e
    exact .inl ⟨w.stops H q, hd H p⟩
end
theorem pi_listK {X : Cx} {K : PySem.W.Frag} {tg l : Expr} {tl : TE} (e : X.K = K) (hl : PE X l tl) : PI X tg l (iList K tl) := by
  subst e
  exact pi_list hl
theorem pt_truthK {X : Cx} {K : PySem.W.Frag} {a : Expr} {ta : TE} (e : X.K = K) (ha : PE X a ta) (he : ∀ whole, isTrue a X.env whole = (do let v ← whole; standAt a.pos; holding [v] (truthy v))) :
    PT X a (fun σ H Q => ta σ H fun x H' => ∃ k, TruV K x H' k ∧ Q k H') := by
  subst e
  exact pt_truth ha he
end Fm
end FFmLc2
section FKA
set_option Elab.async false
set_option linter.all false
set_option maxRecDepth 100000
set_option maxHeartbeats 4000000
local macro_rules | `(tactic| walk_at "ne") => `(tactic| first | assumption | (apply Ne.symm; assumption) | exact L2.ne_of_none (by assumption) (by assumption) | exact Ne.symm (L2.ne_of_none (by assumption) (by assumption)))
local macro_rules | `(tactic| walk_at "hl") => `(tactic| first | assumption | exact L2.upd_same | (refine Eq.trans (L2.upd_ne (by walk_at "ne")) ?_; walk_at "hl"))
local macro_rules | `(tactic| walk_at "sd") => `(tactic| first | (with_reducible show (_ : Int) < _; omega) | (with_reducible show (_ : Int) ≤ _; omega) | assumption | decide | exact ⟨by assumption, by assumption⟩ | exact ⟨by decide, by decide⟩ | exact Or.inr ⟨by decide, by decide⟩ | exact Or.inl ⟨by omega, by omega⟩ | rfl)
local macro_rules | `(tactic| walk_at "st1") => `(tactic| first
  | refine ⟨_, rfl, ?_⟩
  | refine ⟨_, _, rfl, rfl, ?_⟩
  | refine ⟨_, _, rfl, ?_⟩
  | (refine ⟨_, _, _, _, rfl, rfl, L2.SqL.of (by walk_at "hl"), rfl, ?_⟩)
  | (refine ⟨_, _, _, _, rfl, rfl, L2.SqT.of (by walk_at "hl"), rfl, ?_⟩)
  | (refine ⟨_, _, _, _, rfl, rfl, (by walk_at "hl"), rfl, ?_⟩)
  | (refine And.intro (by walk_at "sd") ?_)
  )
local macro_rules | `(tactic| walk_at "st") => `(tactic| repeat walk_at "st1")
local macro_rules | `(tactic| walk_at "op") => `(tactic| try dsimp only [L2.tSeq, L2.tAsg, L2.tOp, L2.tVar, L2.tC, L2.gSub, L2.rI, L2.rI0, L2.rIxL, L2.rIxT, L2.rSetL, L2.tIfS, L2.tTest, L2.tRet, L2.gName, L2.tNext, L2.tAnd, L2.tOr, L2.tNot, L2.tAndV, L2.tOrV, L2.tNotV, L2.tB, L2.tCB, L2.tCons, L2.tNil, L2.tCall, L2.tTup, L2.tLst, L2.tChain, L2.tUn, L2.tPar, L2.tDrop, L2.tIf, L2.tBM, L2.tBM0, L2.rAppend, L2.rCat, L2.rIsi, L2.rIsiT, L2.gTup, L2.gCons, L2.gNil, Fm.tFor_eq, Fm.tLc_eq, Fm.tLc2_eq, L2.iTup, L2.iList, L2.iRng1, L2.iRng2, L2.tSl, L2.tPart, L2.tNoPart, L2.rSlL, L2.rEq, L2.rNe, L2.rU, L2.rEqD, L2.rNeD, Fm.tRevT, Fm.rLenS, Fm.rTupOf, Fm.rLstOf, L2.tDNewK, L2.tCallS, L2.WE, Fm.wKeep, Fm.rIsK, Fm.rIsKT, List.cons_append, List.nil_append, L2.tYes])
namespace Fm
open PySem PySem.Spec PyProof.Rows L2
section
variable {P : Program} {w : World} {K : PySem.W.Frag} {mg : Str → Option Value} {base : Heap}

end
end Fm
end FKA
section FPA
set_option Elab.async false
set_option linter.all false
set_option maxRecDepth 100000
set_option maxHeartbeats 4000000
local macro_rules | `(tactic| walk_at "ne") => `(tactic| first | assumption | (apply Ne.symm; assumption) | exact L2.ne_of_none (by assumption) (by assumption) | exact Ne.symm (L2.ne_of_none (by assumption) (by assumption)))
local macro_rules | `(tactic| walk_at "hl") => `(tactic| first | assumption | exact L2.upd_same | (refine Eq.trans (L2.upd_ne (by walk_at "ne")) ?_; walk_at "hl"))
local macro_rules | `(tactic| walk_at "sd") => `(tactic| first | (with_reducible show (_ : Int) < _; omega) | (with_reducible show (_ : Int) ≤ _; omega) | assumption | decide | exact ⟨by assumption, by assumption⟩ | exact ⟨by decide, by decide⟩ | exact Or.inr ⟨by decide, by decide⟩ | exact Or.inl ⟨by omega, by omega⟩ | rfl)
local macro_rules | `(tactic| walk_at "st1") => `(tactic| first
  | refine ⟨_, rfl, ?_⟩
  | refine ⟨_, _, rfl, rfl, ?_⟩
  | refine ⟨_, _, rfl, ?_⟩
  | (refine ⟨_, _, _, _, rfl, rfl, L2.SqL.of (by walk_at "hl"), rfl, ?_⟩)
  | (refine ⟨_, _, _, _, rfl, rfl, L2.SqT.of (by walk_at "hl"), rfl, ?_⟩)
  | (refine ⟨_, _, _, _, rfl, rfl, (by walk_at "hl"), rfl, ?_⟩)
  | (refine And.intro (by walk_at "sd") ?_)
  )
local macro_rules | `(tactic| walk_at "st") => `(tactic| repeat walk_at "st1")
local macro_rules | `(tactic| walk_at "op") => `(tactic| try dsimp only [L2.tSeq, L2.tAsg, L2.tOp, L2.tVar, L2.tC, L2.gSub, L2.rI, L2.rI0, L2.rIxL, L2.rIxT, L2.rSetL, L2.tIfS, L2.tTest, L2.tRet, L2.gName, L2.tNext, L2.tAnd, L2.tOr, L2.tNot, L2.tAndV, L2.tOrV, L2.tNotV, L2.tB, L2.tCB, L2.tCons, L2.tNil, L2.tCall, L2.tTup, L2.tLst, L2.tChain, L2.tUn, L2.tPar, L2.tDrop, L2.tIf, L2.tBM, L2.tBM0, L2.rAppend, L2.rCat, L2.rIsi, L2.rIsiT, L2.gTup, L2.gCons, L2.gNil, Fm.tFor_eq, Fm.tLc_eq, Fm.tLc2_eq, L2.iTup, L2.iList, L2.iRng1, L2.iRng2, L2.tSl, L2.tPart, L2.tNoPart, L2.rSlL, L2.rEq, L2.rNe, L2.rU, L2.rEqD, L2.rNeD, Fm.tRevT, Fm.rLenS, Fm.rTupOf, Fm.rLstOf, L2.tDNewK, L2.tCallS, L2.WE, Fm.wKeep, Fm.rIsK, Fm.rIsKT, List.cons_append, List.nil_append, L2.tYes])
namespace Fm
open PySem PySem.Spec PyProof.Rows L2
abbrev s_pairs : Stmt := top 20
abbrev N_pairs : List Str := ["counts", "here", "number", "many", "a", "b"]
theorem sc_pairs : FnScope N_pairs ["counts"] (defScope s_pairs) := ⟨rfl, rfl, rfl, by decide +kernel, rfl, by decide +kernel, by decide +kernel⟩
section
variable {P : Program} {w : World} {K : PySem.W.Frag} {mg : Str → Option Value} {base : Heap}
/-! ### pairs that can meet on a floor -/
def hereN (c : List Int) (n : Nat) : List Nat := (List.range n).filter fun k => c.getD k 0 != 0
def okP (c : List Int) (a b : Nat) : Bool := decide (a < b) || (decide (a = b) && decide (c.getD a 0 > 1))
def rowOfP (c : List Int) (h : List Nat) (a : Nat) : List (Nat × Nat) := (h.filter (okP c a)).map fun b => (a, b)
def allOfP (c : List Int) (h : List Nat) (l : List Nat) : List (Nat × Nat) := l.flatMap (rowOfP c h)
def prs (c : List Int) : List (Nat × Nat) := allOfP c (hereN c c.length) (hereN c c.length)
def pairD (x : Nat × Nat) : PyData := .tuple [.int (x.1 : Nat), .int (x.2 : Nat)]
theorem hereN_len (c : List Int) (n : Nat) : (hereN c n).length ≤ n := by
  have := List.length_filter_le (fun k => c.getD k 0 != 0) (List.range n)
  rw [List.length_range] at this
  exact this
theorem hereN_mem {c : List Int} {n k : Nat} (h : k ∈ hereN c n) : k < n := List.mem_range.mp (List.mem_filter.mp h).1
theorem hereN_succ (c : List Int) (n : Nat) : hereN c (n + 1) = if c.getD n 0 != 0 then hereN c n ++ [n] else hereN c n := by
  unfold hereN
  rw [List.range_succ, List.filter_append]
  cases e : (c.getD n 0 != 0) with
  | true => rw [List.filter_cons_of_pos (by exact e)]; rfl
  | false => rw [List.filter_cons_of_neg (by rw [e]; decide)]; simp
theorem rowOfP_len (c : List Int) (h : List Nat) (a : Nat) : (rowOfP c h a).length ≤ h.length := by
  unfold rowOfP
  rw [List.length_map]
  exact List.length_filter_le _ _
theorem allOfP_len (c : List Int) (h : List Nat) : ∀ l, (allOfP c h l).length ≤ l.length * h.length
  | [] => Nat.zero_le _
  | a :: l => by
    have := allOfP_len c h l
    have := rowOfP_len c h a
    unfold allOfP at *
    rw [List.flatMap_cons, List.length_append, List.length_cons, Nat.succ_mul]
    omega
theorem pairD_no (x : Nat × Nat) : noList (pairD x) = true := noList_of fun e he => by
  simp only [List.mem_cons, List.not_mem_nil, or_false] at he
  rcases he with rfl | rfl <;> (unfold noList; rfl)
theorem pairs_no (l : List (Nat × Nat)) : ∀ d ∈ l.map pairD, noList d = true := fun d hd => by
  obtain ⟨x, _, rfl⟩ := List.mem_map.mp hd
  exact pairD_no x
theorem take_snoc {α : Type} {l : List α} {i : Nat} {x : α} (h : l[i]? = some x) : l.take (i + 1) = l.take i ++ [x] := by rw [List.take_add_one, h]; rfl
def spPrs : Sp := fun vs H Q _ => ∃ (v : V) (p : Addr) (u : HO) (c : List Int), vs = [v] ∧ H p = some u ∧ Dat H p v (rowD c) ∧ c.length ≤ 6 ∧
  ∀ q ws H', H q = none → H' q = some (.lst ws) → Dats H' p ws ((prs c).map pairD) → Same H H' → Q (.ref q) H'
theorem ok_pairs (D : Df K mg "pairs" s_pairs ["counts"]) (T : Nms mg) : CallOk P w K mg base CX0 1 "pairs" ["counts"] spPrs := by
  refine df_ok D sc_pairs (fun vs H Q E h => ?_) (fun f cdv A outer s H vs Q E hr h => ?_)
  · obtain ⟨v, p, u, c, rfl, _⟩ := h
    rfl
  · obtain ⟨v, p, u, c, rfl, hp, hd, h6, k⟩ := h
    obtain ⟨a, rfl, ha, na⟩ := row_parts hd
    have nd := sc_pairs.nd
    have pne : ∀ {S : Addr} {G : Hp}, Same H G → G S = none → S ≠ p := fun {S G} e z q => by
      rw [q] at z
      have := e p u hp
      rw [z] at this
      cases this
    refine ⟨_, (pss_cons (ps_set (i := 1) nd rfl (Or.inr rfl) (pe_lc (own := [("number", 2), ("many", 3)]) (g := (gTup K 2 (gCons (gName 2) (gCons (gName 3) gNil)))) (by rfl) nd (pi_enumT (by rfl) T.n_enumerate (pa_cons (pv 0) pa_nil)) (blkOk_by (own := [("number", 2), ("many", 3)]) (N := N_pairs) (sc := defScope s_pairs) (by decide +kernel)) (fun _ _ _ _ _ => (pg_tup rfl (pgs_cons (pg_name (i := 2) nd rfl (Or.inl rfl)) (pgs_cons (pg_name (i := 3) nd rfl (Or.inl rfl)) pgs_nil)))) (fun _ _ _ _ _ => (pts_one (pt_truthK (K := K) rfl (pv 3) (fun _ => rfl)))) (fun _ _ _ _ _ => (pv 2))))
      (pss_one (ps_ret (pe_lc2 (own := [("a", 4), ("b", 5)]) (vs1 := [5]) (g := gName 4) (g1 := gName 5) (tt := tYes) (by rfl) nd (pi_list (pv 1)) (blkOk_by (own := [("a", 4), ("b", 5)]) (N := N_pairs) (sc := defScope s_pairs) (by decide +kernel)) (by decide) (fun _ _ _ _ _ => (pg_name (i := 4) nd rfl (Or.inl rfl))) (fun _ _ _ _ _ => pts_nil) (fun _ _ _ _ _ => (pi_listK (K := K) rfl (pv 1))) (fun _ _ _ _ _ => (pg_name (i := 5) nd rfl (Or.inl rfl))) (fun _ _ _ _ _ => (pts_one (PW.pt (pw_or (pt_cmpR op_lt (pv 4) (pv 5) (nomark _)) (pw_or1 (PW.pt (pw_and (pt_cmpR op_eq (pv 4) (pv 5) (nomark _)) (pw_and1 (pt_cmpR op_gt (pe_ix (r := rIxT K) ix_tup (pv 0) (pv 4) (fun _ _ => rfl)) pe_int (nomark _)))))))))) (fun _ _ _ _ _ => (pe_tup (pa_cons (pv 4) (pa_cons (pv 5) pa_nil)))))))), ?_⟩
    walk_at "op"
    walk_at "st"
    refine ⟨_, _, rfl, SqT.of ha, fun B hB => ?_⟩
    have naB : a ≠ B := ne_of_none ha hB
    refine lI walk_enumT (fun i H2 => Same H H2 ∧ H2 B = some (.lst ((hereN c i).map fun k : Nat => V.int (k : Nat))))
      ⟨same_new hB, upd_same⟩ (fun i H2 _ ⟨e, _⟩ => SqT.of (e _ _ ha)) ?_ ?_
    · rintro i v H2 _ hi ⟨sm2, hB2⟩ ⟨t, x, y, rfl, ht, rfl, hxi, hyi⟩
      rw [List.length_map] at hi
      dsimp only at hxi hyi
      rw [List.getElem?_map, List.getElem?_eq_getElem hi] at hyi
      cases hxi
      cases hyi
      have nBt : B ≠ t := ne_of_none hB2 ht
      have gd : c.getD i 0 = c[i] := by rw [List.getD_eq_getElem?_getD, List.getElem?_eq_getElem hi]; rfl
      walk_at "op"
      refine ⟨t, _, rfl, SqT.of upd_same, rfl, _, _, rfl, _, _, rfl, rfl, ?_⟩
      refine ⟨rfl, ?_⟩
      walk_at "st"
      have hl := hereN_len c i
      rw [hereN_succ, gd]
      cases e : (c[i] != 0) with
      | true =>
        refine iteT ?_
        refine ⟨_, rfl, _, by rw [upd_ne nBt]; exact hB2, by rw [List.length_map]; exact small1000 (by omega), sameOff (sameOff sm2 (sameFree sm2 ht)) hB, ?_⟩
        rw [upd_same, if_pos rfl, List.map_append]
        rfl
      | false => exact iteF ⟨sameOff sm2 (sameFree sm2 ht), by rw [upd_ne nBt]; exact hB2⟩
    · rintro H2 ⟨sm2, hB2⟩
      rw [List.length_map] at hB2
      walk_at "op"
      walk_at "st"
      refine ⟨⟨_, SqL.of hB2⟩, fun L hL => ?_⟩
      have nBL : B ≠ L := ne_of_none hB2 hL
      have hLH := sameFree sm2 hL
      have hh6 := hereN_len c c.length
      have hmem : ∀ k ∈ hereN c c.length, k < c.length := fun k hk => hereN_mem hk
      have hprs : prs c = allOfP c (hereN c c.length) (hereN c c.length) := rfl
      generalize hereN c c.length = hs at *
      refine l2I walk_list (fun i H3 => Same H H3 ∧ H3 B = some (.lst (hs.map fun k : Nat => V.int (k : Nat))) ∧ ∃ ws, H3 L = some (.lst ws) ∧ Dats H3 p ws ((allOfP c hs (hs.take i)).map pairD))
        ⟨sameOff sm2 hLH, by rw [upd_ne nBL]; exact hB2, [], upd_same, Dats.nil⟩ (fun i H3 _ ⟨_, e, _⟩ => SqL.of e) ?_ ?_
      · rintro i x _ H3 hi ⟨sm3, hB3, ws, hw, hW⟩ ⟨rfl, hxi⟩
        rw [List.length_map] at hi
        rw [List.getElem?_map, List.getElem?_eq_getElem hi] at hxi
        cases hxi
        have hx6 := hmem _ (List.getElem_mem hi)
        have hti := take_snoc (List.getElem?_eq_getElem hi)
        generalize hs[i] = x at *
        walk_at "op"
        refine ⟨rfl, ?_⟩
        walk_at "st"
        refine ⟨⟨_, SqL.of hB3⟩, ?_⟩
        refine liI walk_list (fun j H4 => Same H H4 ∧ H4 B = some (.lst (hs.map fun k : Nat => V.int (k : Nat))) ∧ ∃ ws, H4 L = some (.lst ws) ∧ Dats H4 p ws ((allOfP c hs (hs.take i) ++ rowOfP c (hs.take j) x).map pairD))
          ⟨sm3, hB3, ws, hw, by rw [List.take_zero, show rowOfP c [] x = [] from rfl, List.append_nil]; exact hW⟩ (fun i H3 _ ⟨_, e, _⟩ => SqL.of e) ?_ ?_
        · rintro j y _ H4 hj ⟨sm4, hB4, ws4, hw4, hW4⟩ ⟨rfl, hyj⟩
          rw [List.length_map] at hj
          rw [List.getElem?_map, List.getElem?_eq_getElem hj] at hyj
          cases hyj
          have hy6 := hmem _ (List.getElem_mem hj)
          have htj := take_snoc (List.getElem?_eq_getElem hj)
          generalize hs[j] = y at *
          have hL6 : ws4.length ≤ 42 := by
            have q1 := allOfP_len c hs (hs.take i)
            have q2 := rowOfP_len c (hs.take j) x
            rw [List.length_take] at q1 q2
            have q3 : min i hs.length * hs.length ≤ 6 * 6 := Nat.mul_le_mul (by omega) (by omega)
            rw [hW4.1, List.length_map, List.length_append]
            omega
          have yes : okP c x y = true → ∀ r, H4 r = none → ∃ acc, upd H4 r (.tup [.int (x : Nat), .int (y : Nat)]) L = some (.lst acc) ∧ acc.length < sizeLine ∧
              (Same H (upd (upd H4 r (.tup [.int (x : Nat), .int (y : Nat)])) L (.lst (acc ++ [.ref r]))) ∧ upd (upd H4 r (.tup [.int (x : Nat), .int (y : Nat)])) L (.lst (acc ++ [.ref r])) B = some (.lst (hs.map fun k : Nat => V.int (k : Nat))) ∧
              ∃ ws, upd (upd H4 r (.tup [.int (x : Nat), .int (y : Nat)])) L (.lst (acc ++ [.ref r])) L = some (.lst ws) ∧ Dats (upd (upd H4 r (.tup [.int (x : Nat), .int (y : Nat)])) L (.lst (acc ++ [.ref r]))) p ws ((allOfP c hs (hs.take i) ++ rowOfP c (hs.take (j + 1)) x).map pairD)) := fun hk r hr => by
            have nLr : L ≠ r := ne_of_none hw4 hr
            have nBr : B ≠ r := ne_of_none hB4 hr
            have hrp := pne sm4 hr
            have hw5 : upd H4 r (.tup [.int (x : Nat), .int (y : Nat)]) L = some (.lst ws4) := by rw [upd_ne nLr]; exact hw4
            refine ⟨_, hw5, small1000 (by omega), sameOff (sm4.trans (same_new hr)) hLH, by rw [upd_ne nBL, upd_ne nBr]; exact hB4, _, upd_same, ?_⟩
            have e9 : (allOfP c hs (hs.take i) ++ rowOfP c (hs.take (j + 1)) x).map pairD = (allOfP c hs (hs.take i) ++ rowOfP c (hs.take j) x).map pairD ++ [pairD (x, y)] := by
              rw [htj]
              unfold rowOfP
              rw [List.filter_append, List.filter_cons_of_pos hk, List.filter_nil]
              simp
            rw [e9]
            refine ((hW4.off hr).setL hw5 (pairs_no _)).snoc ?_
            exact Dat.setL hw5 (Dat.new hr hrp (Dats.cons (.int _) (Dats.cons (.int _) Dats.nil))) (pairD_no (x, y))
          have no : okP c x y = false → (Same H H4 ∧ H4 B = some (.lst (hs.map fun k : Nat => V.int (k : Nat))) ∧ ∃ ws, H4 L = some (.lst ws) ∧ Dats H4 p ws ((allOfP c hs (hs.take i) ++ rowOfP c (hs.take (j + 1)) x).map pairD)) := fun hk => by
            refine ⟨sm4, hB4, ws4, hw4, ?_⟩
            have e9 : rowOfP c (hs.take (j + 1)) x = rowOfP c (hs.take j) x := by
              rw [htj]
              unfold rowOfP
              rw [List.filter_append, List.filter_cons_of_neg (by rw [hk]; decide), List.filter_nil, List.append_nil]
            rw [e9]
            exact hW4
          have ha4 := sm4 _ _ ha
          have gx : (c.map V.int)[x]? = some (.int (c.getD x 0)) := by
            rw [List.getElem?_map, List.getElem?_eq_getElem hx6, List.getD_eq_getElem?_getD, List.getElem?_eq_getElem hx6]
            rfl
          walk_at "op"
          refine ⟨rfl, ?_⟩
          walk_at "st"
          cases e1 : decide ((x : Int) < (y : Int)) with
          | true =>
            have hk : okP c x y = true := by
              unfold okP
              rw [decide_eq_true (show x < y by have := of_decide_eq_true e1; omega)]
              rfl
            refine iteT (iteT ⟨_, rfl, _, rfl, by show 2 ≤ sizeLine; decide, fun r hr => yes hk r hr⟩)
          | false =>
            have e1' : decide (x < y) = false := decide_eq_false (fun z => by have := of_decide_eq_false e1; omega)
            refine iteF ?_
            walk_at "st"
            refine ite2 (fun c1 => ?_) (fun c1 => ?_)
            · have exy : x = y := by
                have z := of_decide_eq_true c1
                injection z with z
                omega
              refine ⟨_, rfl, _, rfl, a, _, _, _, rfl, rfl, SqT.of ha4, atI_nat gx, ?_⟩
              walk_at "st"
              cases e2 : decide (1 < c.getD x 0) with
              | true =>
                have hk : okP c x y = true := by
                  unfold okP
                  rw [e1', decide_eq_true exy, decide_eq_true (show c.getD x 0 > 1 from of_decide_eq_true e2)]
                  rfl
                refine iteT ⟨_, rfl, _, rfl, by show 2 ≤ sizeLine; decide, fun r hr => yes hk r hr⟩
              | false =>
                have hk : okP c x y = false := by
                  unfold okP
                  rw [e1', decide_eq_false (show ¬ c.getD x 0 > 1 from of_decide_eq_false e2)]
                  simp
                exact iteF (no hk)
            · have exy : ¬ x = y := fun z => c1 (decide_eq_true (by rw [z]))
              have hk : okP c x y = false := by
                unfold okP
                rw [e1', decide_eq_false exy]
                rfl
              exact iteF (no hk)
        · rintro H4 ⟨sm4, hB4, ws4, hw4, hW4⟩
          refine ⟨sm4, hB4, ws4, hw4, ?_⟩
          have e9 : allOfP c hs (hs.take (i + 1)) = allOfP c hs (hs.take i) ++ rowOfP c hs x := by
            unfold allOfP
            rw [hti, List.flatMap_append, List.flatMap_singleton]
          rw [e9]
          rw [List.length_map, List.take_length] at hW4
          exact hW4
      · rintro H3 ⟨sm3, hB3, ws, hw, hW⟩
        rw [List.length_map, List.take_length, ← hprs] at hW
        exact k L ws H3 hLH hw hW sm3

end
end Fm
end FPA
section FMT
set_option Elab.async false
set_option linter.all false
set_option maxRecDepth 100000
set_option maxHeartbeats 4000000
local macro_rules | `(tactic| walk_at "ne") => `(tactic| first | assumption | (apply Ne.symm; assumption) | exact L2.ne_of_none (by assumption) (by assumption) | exact Ne.symm (L2.ne_of_none (by assumption) (by assumption)))
local macro_rules | `(tactic| walk_at "hl") => `(tactic| first | assumption | exact L2.upd_same | (refine Eq.trans (L2.upd_ne (by walk_at "ne")) ?_; walk_at "hl"))
local macro_rules | `(tactic| walk_at "sd") => `(tactic| first | (with_reducible show (_ : Int) < _; omega) | (with_reducible show (_ : Int) ≤ _; omega) | assumption | decide | exact ⟨by assumption, by assumption⟩ | exact ⟨by decide, by decide⟩ | exact Or.inr ⟨by decide, by decide⟩ | exact Or.inl ⟨by omega, by omega⟩ | rfl)
local macro_rules | `(tactic| walk_at "st1") => `(tactic| first
  | refine ⟨_, rfl, ?_⟩
  | refine ⟨_, _, rfl, rfl, ?_⟩
  | refine ⟨_, _, rfl, ?_⟩
  | (refine ⟨_, _, _, _, rfl, rfl, L2.SqL.of (by walk_at "hl"), rfl, ?_⟩)
  | (refine ⟨_, _, _, _, rfl, rfl, L2.SqT.of (by walk_at "hl"), rfl, ?_⟩)
  | (refine ⟨_, _, _, _, rfl, rfl, (by walk_at "hl"), rfl, ?_⟩)
  | (refine And.intro (by walk_at "sd") ?_)
  )
local macro_rules | `(tactic| walk_at "st") => `(tactic| repeat walk_at "st1")
local macro_rules | `(tactic| walk_at "op") => `(tactic| try dsimp only [L2.tSeq, L2.tAsg, L2.tOp, L2.tVar, L2.tC, L2.gSub, L2.rI, L2.rI0, L2.rIxL, L2.rIxT, L2.rSetL, L2.tIfS, L2.tTest, L2.tRet, L2.gName, L2.tNext, L2.tAnd, L2.tOr, L2.tNot, L2.tAndV, L2.tOrV, L2.tNotV, L2.tB, L2.tCB, L2.tCons, L2.tNil, L2.tCall, L2.tTup, L2.tLst, L2.tChain, L2.tUn, L2.tPar, L2.tDrop, L2.tIf, L2.tBM, L2.tBM0, L2.rAppend, L2.rCat, L2.rIsi, L2.rIsiT, L2.gTup, L2.gCons, L2.gNil, Fm.tFor_eq, Fm.tLc_eq, Fm.tLc2_eq, L2.iTup, L2.iList, L2.iRng1, L2.iRng2, L2.tSl, L2.tPart, L2.tNoPart, L2.rSlL, L2.rEq, L2.rNe, L2.rU, L2.rEqD, L2.rNeD, Fm.tRevT, Fm.rLenS, Fm.rTupOf, Fm.rLstOf, L2.tDNewK, L2.tCallS, L2.WE, Fm.wKeep, Fm.rIsK, Fm.rIsKT, List.cons_append, List.nil_append, L2.tYes])
namespace Fm
open PySem PySem.Spec PyProof.Rows L2
section
variable {P : Program} {w : World} {K : PySem.W.Frag} {mg : Str → Option Value} {base : Heap}
/-! ### the meetings of a standing -/
def triD (x : Nat × Nat × Nat) : PyData := .tuple [.int (x.1 : Nat), .int (x.2.1 : Nat), .int (x.2.2 : Nat)]
def onF (f : Nat) (l : List (Nat × Nat)) : List (Nat × Nat × Nat) := l.map fun x => (f, x)
def mts (rows : List (List Int)) (n : Nat) : List (Nat × Nat × Nat) := (List.range n).flatMap fun f => onF f (prs (rows.getD f []))
theorem mts_succ (rows : List (List Int)) (n : Nat) : mts rows (n + 1) = mts rows n ++ onF n (prs (rows.getD n [])) := by unfold mts; rw [List.range_succ, List.flatMap_append, List.flatMap_singleton]
theorem prs_len {c : List Int} (h : c.length ≤ 6) : (prs c).length ≤ 36 := by
  have q1 := allOfP_len c (hereN c c.length) (hereN c c.length)
  have q2 := hereN_len c c.length
  have q3 := Nat.mul_le_mul (show (hereN c c.length).length ≤ 6 by omega) (show (hereN c c.length).length ≤ 6 by omega)
  unfold prs
  omega
theorem mts_len {rows : List (List Int)} (h : ∀ r ∈ rows, r.length ≤ 6) : ∀ n, (mts rows n).length ≤ n * 36
  | 0 => Nat.zero_le _
  | n + 1 => by
    have ih := mts_len h n
    have h2 : (rows.getD n []).length ≤ 6 := by
      rw [List.getD_eq_getElem?_getD]
      cases e : rows[n]? with
      | none => exact Nat.zero_le _
      | some l => exact h l (List.mem_of_getElem? e)
    have := prs_len h2
    rw [mts_succ, List.length_append]
    unfold onF
    rw [List.length_map]
    omega
theorem triD_no (x : Nat × Nat × Nat) : noList (triD x) = true := noList_of fun e he => by
  simp only [List.mem_cons, List.not_mem_nil, or_false] at he
  rcases he with rfl | rfl | rfl <;> (unfold noList; rfl)
theorem tris_no (l : List (Nat × Nat × Nat)) : ∀ d ∈ l.map triD, noList d = true := fun d hd => by
  obtain ⟨x, _, rfl⟩ := List.mem_map.mp hd
  exact triD_no x
theorem pair_parts {H : Hp} {p : Addr} {v : V} {x : Nat × Nat} (h : Dat H p v (pairD x)) : ∃ a, v = .ref a ∧ H a = some (.tup [.int (x.1 : Nat), .int (x.2 : Nat)]) ∧ a ≠ p := by
  obtain ⟨a, ys, rfl, ha, np, hs⟩ := h.isTup
  have e : ys = [.int (x.1 : Nat), .int (x.2 : Nat)] := dats_ints (ns := [((x.1 : Nat) : Int), ((x.2 : Nat) : Int)]) hs
  rw [e] at ha
  exact ⟨a, rfl, ha, np⟩
def spMts : Sp := fun vs H Q _ => ∃ (hv sv : V) (p p' : Addr) (u : HO) (hd : PyData) (m n : Nat) (rows : List (List Int)) (out : Int), vs = [hv, sv] ∧ H p' = some u ∧ Dat H p hv hd ∧ HouseN m n hd ∧ Dat H p' sv (stD rows out) ∧ rows.length = n ∧ StOk m rows out ∧
  ∀ q ws H', H q = none → H' q = some (.lst ws) → Dats H' p' ws ((mts rows n).map triD) → Same H H' → Q (.ref q) H'
end
end Fm
end FMT
section FCM
set_option Elab.async false
set_option linter.all false
set_option maxRecDepth 100000
set_option maxHeartbeats 4000000
local macro_rules | `(tactic| walk_at "ne") => `(tactic| first | assumption | (apply Ne.symm; assumption) | exact L2.ne_of_none (by assumption) (by assumption) | exact Ne.symm (L2.ne_of_none (by assumption) (by assumption)))
local macro_rules | `(tactic| walk_at "hl") => `(tactic| first | assumption | exact L2.upd_same | (refine Eq.trans (L2.upd_ne (by walk_at "ne")) ?_; walk_at "hl"))
local macro_rules | `(tactic| walk_at "sd") => `(tactic| first | (with_reducible show (_ : Int) < _; omega) | (with_reducible show (_ : Int) ≤ _; omega) | assumption | decide | exact ⟨by assumption, by assumption⟩ | exact ⟨by decide, by decide⟩ | exact Or.inr ⟨by decide, by decide⟩ | exact Or.inl ⟨by omega, by omega⟩ | rfl)
local macro_rules | `(tactic| walk_at "st1") => `(tactic| first
  | refine ⟨_, rfl, ?_⟩
  | refine ⟨_, _, rfl, rfl, ?_⟩
  | refine ⟨_, _, rfl, ?_⟩
  | (refine ⟨_, _, _, _, rfl, rfl, L2.SqL.of (by walk_at "hl"), rfl, ?_⟩)
  | (refine ⟨_, _, _, _, rfl, rfl, L2.SqT.of (by walk_at "hl"), rfl, ?_⟩)
  | (refine ⟨_, _, _, _, rfl, rfl, (by walk_at "hl"), rfl, ?_⟩)
  | (refine And.intro (by walk_at "sd") ?_)
  )
local macro_rules | `(tactic| walk_at "st") => `(tactic| repeat walk_at "st1")
local macro_rules | `(tactic| walk_at "op") => `(tactic| try dsimp only [L2.tSeq, L2.tAsg, L2.tOp, L2.tVar, L2.tC, L2.gSub, L2.rI, L2.rI0, L2.rIxL, L2.rIxT, L2.rSetL, L2.tIfS, L2.tTest, L2.tRet, L2.gName, L2.tNext, L2.tAnd, L2.tOr, L2.tNot, L2.tAndV, L2.tOrV, L2.tNotV, L2.tB, L2.tCB, L2.tCons, L2.tNil, L2.tCall, L2.tTup, L2.tLst, L2.tChain, L2.tUn, L2.tPar, L2.tDrop, L2.tIf, L2.tBM, L2.tBM0, L2.rAppend, L2.rCat, L2.rIsi, L2.rIsiT, L2.gTup, L2.gCons, L2.gNil, Fm.tFor_eq, Fm.tLc_eq, Fm.tLc2_eq, L2.iTup, L2.iList, L2.iRng1, L2.iRng2, L2.tSl, L2.tPart, L2.tNoPart, L2.rSlL, L2.rEq, L2.rNe, L2.rU, L2.rEqD, L2.rNeD, Fm.tRevT, Fm.rLenS, Fm.rTupOf, Fm.rLstOf, L2.tDNewK, L2.tCallS, L2.WE, Fm.wKeep, Fm.rIsK, Fm.rIsKT, List.cons_append, List.nil_append, L2.tYes])
namespace Fm
open PySem PySem.Spec PyProof.Rows L2
abbrev s_can_meet : Stmt := top 21
abbrev N_can_meet : List Str := ["standing", "thing", "floor", "a", "b", "counts"]
theorem sc_can_meet : FnScope N_can_meet ["standing", "thing"] (defScope s_can_meet) := ⟨rfl, rfl, rfl, by decide +kernel, rfl, by decide +kernel, by decide +kernel⟩
section
variable {P : Program} {w : World} {K : PySem.W.Frag} {mg : Str → Option Value} {base : Heap}
/-! ### what can meet -/
def cellN (rows : List (List Int)) (f a : Nat) : Int := (rows.getD f []).getD a 0
def Meets3 (m : Nat) (rows : List (List Int)) (f a b : Nat) : Prop := f < rows.length ∧ a ≤ b ∧ b < m ∧ (if a = b then 2 ≤ cellN rows f a else 1 ≤ cellN rows f a ∧ 1 ≤ cellN rows f b)
def spCan : Sp := fun vs H Q _ => ∃ (sv v : V) (p p' : Addr) (m : Nat) (rows : List (List Int)) (out : Int) (d : PyData), vs = [sv, v] ∧ Dat H p sv (stD rows out) ∧ Dat H p' v d ∧ StOk m rows out ∧ 1 ≤ rows.length ∧ rows.length ≤ 4 ∧ 1 ≤ m ∧ m ≤ 6 ∧
  ∀ b : Bool, (b = true ↔ ∃ x, d = triD x ∧ Meets3 m rows x.1 x.2.1 x.2.2) → Q (.bl b) H
theorem upTo_nat {M : Int} {d : PyData} (h : UpTo (.int M) d) : ∃ k : Nat, d = .int (k : Nat) ∧ (k : Int) ≤ M := by
  obtain ⟨i, rfl, h0, h1⟩ := h
  refine ⟨i.toNat, by rw [Int.toNat_of_nonneg h0], ?_⟩
  rw [Int.toNat_of_nonneg h0]
  exact h1 M rfl
theorem upTo_iff {M : Int} {k : Nat} : UpTo (.int M) (.int (k : Nat)) ↔ (k : Int) ≤ M :=
  ⟨fun ⟨i, e, h0, h1⟩ => by cases e; exact h1 M rfl, fun h => ⟨_, rfl, by omega, fun M' e => by cases e; exact h⟩⟩
theorem triD_inj {x y : Nat × Nat × Nat} (h : triD x = triD y) : x = y := by
  obtain ⟨a, b, c⟩ := x
  obtain ⟨a', b', c'⟩ := y
  unfold triD at h
  simp at h
  obtain ⟨h1, h2, h3⟩ := h
  rw [show a = a' by omega, show b = b' by omega, show c = c' by omega]
theorem ok_can_meet (D : Df K mg "can_meet" s_can_meet ["standing", "thing"]) (T : Nms mg) (c_is_tuple_of : CallOk P w K mg base CX0 1 "is_tuple_of" ["thing", "many"] spTupOf)
    (c_is_up_to : CallOk P w K mg base CX0 2 "is_up_to" ["thing", "most"] spUpTo) : CallOk P w K mg base CX0 3 "can_meet" ["standing", "thing"] spCan := by
  refine df_ok D sc_can_meet (fun vs H Q E h => ?_) (fun f cdv A outer s H vs Q E hr h => ?_)
  · obtain ⟨sv, v, p, p', m, rows, out, d, rfl, _⟩ := h
    rfl
  · obtain ⟨sv, v, p, p', m, rows, out, d, rfl, sD, hd, ok, h1, h4, hm1, hm6, k⟩ := h
    have nd := sc_can_meet.nd
    refine ⟨_, (pss_cons (ps_if (pt_not (pt_val (pe_cc c_is_tuple_of (hr.mono (by omega)) (pa_cons (pv 1) (pa_cons pe_int pa_nil))))) (pss_one (ps_ret pe_bl)) pss_nil)
      (pss_cons (ps_asg (pv 1) (pg_tup rfl (pgs_cons (pg_name (i := 2) nd rfl (Or.inl rfl)) (pgs_cons (pg_name (i := 3) nd rfl (Or.inl rfl)) (pgs_cons (pg_name (i := 4) nd rfl (Or.inl rfl)) pgs_nil)))))
      (pss_cons (ps_if (pt_not (pt_val (pe_cc c_is_up_to (hr.mono (by omega)) (pa_cons (pv 2) (pa_cons (pe_op op_sub (pe_callB (r := rLenS K) call_lenS (by rfl) T.n_len (by decide +kernel) (pa_cons (pv 0) pa_nil)) pe_int) pa_nil))))) (pss_one (ps_ret pe_bl)) pss_nil)
      (pss_cons (ps_set (i := 5) nd rfl (Or.inl rfl) (pe_ix (r := rIxT K) ix_tup (pv 0) (pv 2) (fun _ _ => rfl)))
      (pss_cons (ps_if (PW.pt (pw_or (pt_not (pt_val (pe_cc c_is_up_to (hr.mono (by omega)) (pa_cons (pv 4) (pa_cons (pe_op op_sub (pe_callB (r := rLenS K) call_lenS (by rfl) T.n_len (by decide +kernel) (pa_cons (pv 5) pa_nil)) pe_int) pa_nil))))) (pw_or1 (pt_not (pt_val (pe_cc c_is_up_to (hr.mono (by omega)) (pa_cons (pv 3) (pa_cons (pv 4) pa_nil)))))))) (pss_one (ps_ret pe_bl)) pss_nil)
      (pss_cons (ps_if (pt_cmpR op_eq (pv 3) (pv 4) (nomark _)) (pss_one (ps_ret (pe_cmpR op_ge (pe_ix (r := rIxT K) ix_tup (pv 5) (pv 3) (fun _ _ => rfl)) pe_int (nomark _)))) pss_nil)
      (pss_one (ps_ret (pe_and (pe_cmpR op_ge (pe_ix (r := rIxT K) ix_tup (pv 5) (pv 3) (fun _ _ => rfl)) pe_int (nomark _)) (pe_one (pe_cmpR op_ge (pe_ix (r := rIxT K) ix_tup (pv 5) (pv 4) (fun _ _ => rfl)) pe_int (nomark _)))))))))))), ?_⟩
    walk_at "op"
    walk_at "st"
    refine ⟨v, 3, p', d, rfl, hd, fun b hb => ?_⟩
    walk_at "st"
    cases b with
    | false =>
      refine iteT ?_
      refine k false ⟨fun z => Bool.noConfusion z, fun ⟨x, e, _⟩ => ?_⟩
      exact hb.mpr ⟨_, e, rfl⟩
    | true =>
      obtain ⟨ds, rfl, hl3⟩ := hb.mp rfl
      refine iteF ?_
      obtain ⟨a, ys, rfl, ha, nap, hs⟩ := hd.isTup
      have hl : ys.length = 3 := by rw [hs.1]; omega
      match ys, hl, ds, hs with
      | [y0, y1, y2], _, [d0, d1, d2], hs =>
      have g0 := hs.2 0 y0 d0 rfl rfl
      have g1 := hs.2 1 y1 d1 rfl rfl
      have g2 := hs.2 2 y2 d2 rfl rfl
      obtain ⟨sa, xs, rfl, hsa, nsp, hx⟩ := st_parts sD
      have good : (∃ x, PyData.tuple [d0, d1, d2] = triD x ∧ Meets3 m rows x.1 x.2.1 x.2.2) ↔ ∃ f a b : Nat, d0 = .int (f : Nat) ∧ d1 = .int (a : Nat) ∧ d2 = .int (b : Nat) ∧ Meets3 m rows f a b :=
        ⟨fun ⟨⟨f, a, b⟩, e, h⟩ => by
          unfold triD at e
          simp at e
          exact ⟨f, a, b, e.1, e.2.1, e.2.2, h⟩, fun ⟨f, a, b, e0, e1, e2, h⟩ => ⟨(f, a, b), by rw [e0, e1, e2]; rfl, h⟩⟩
      rw [good] at k
      have no : (¬ ∃ f a b : Nat, d0 = .int (f : Nat) ∧ d1 = .int (a : Nat) ∧ d2 = .int (b : Nat) ∧ Meets3 m rows f a b) → Q (.bl false) H := fun z => k false ⟨fun z => Bool.noConfusion z, fun y => (z y).elim⟩
      have hxl : xs.length = rows.length := by rw [hx.1, List.length_map]
      walk_at "op"
      walk_at "st"
      refine ⟨a, _, rfl, SqT.of ha, rfl, _, _, rfl, _, _, rfl, _, _, rfl, rfl, ?_⟩
      walk_at "op"
      walk_at "st"
      refine ⟨sa, _, rfl, .inr (SqT.of hsa), ?_⟩
      walk_at "st"
      refine ⟨y0, _, p', d0, rfl, g0, .inr ⟨_, rfl⟩, fun b0 hb0 => ?_⟩
      walk_at "st"
      cases b0 with
      | false =>
        refine iteT (no fun ⟨f, a', b', e0, _, _, hf, _⟩ => ?_)
        have z := hb0.mpr (by
          rw [e0]
          refine upTo_iff.mpr ?_
          rw [List.length_append, hxl]
          have : ([V.int out] : List V).length = 1 := rfl
          omega)
        cases z
      | true =>
        obtain ⟨f, rfl, hf⟩ := upTo_nat (hb0.mp rfl)
        obtain rfl := g0.isInt
        have hfl : f < rows.length := by
          rw [List.length_append, hxl] at hf
          have : ([V.int out] : List V).length = 1 := rfl
          omega
        refine iteF ?_
        obtain ⟨rv, hrv, hdr⟩ := hx.back (i := f) (d := rowD rows[f]) (by rw [List.getElem?_map, List.getElem?_eq_getElem hfl]; rfl)
        obtain ⟨ca, rfl, hca, _⟩ := row_parts hdr
        have hcl : rows[f].length = m := ok.len _ (List.getElem_mem hfl)
        have hgd : rows.getD f [] = rows[f] := by rw [List.getD_eq_getElem?_getD, List.getElem?_eq_getElem hfl]; rfl
        generalize rows[f] = c at *
        have gx : ∀ x, x < m → atI (c.map V.int) ((x : Nat) : Int) = some (.int (cellN rows f x)) := fun x hx6 => by
          refine atI_nat ?_
          unfold cellN
          rw [hgd, List.getElem?_map, List.getElem?_eq_getElem (by omega), List.getD_eq_getElem?_getD, List.getElem?_eq_getElem (by omega)]
          rfl
        walk_at "op"
        walk_at "st"
        refine ⟨sa, _, _, _, rfl, rfl, SqT.of hsa, atI_nat (j := f) (by rw [List.getElem?_append_left (by omega)]; exact hrv), ?_⟩
        walk_at "op"
        walk_at "st"
        refine ⟨ca, _, rfl, .inr (SqT.of hca), ?_⟩
        walk_at "st"
        refine ⟨y2, _, p', d2, rfl, g2, .inr ⟨_, rfl⟩, fun b1 hb1 => ?_⟩
        walk_at "st"
        cases b1 with
        | false =>
          refine iteT (iteT (no fun ⟨f', a', b', _, _, e2, _, _, hb, _⟩ => ?_))
          have z := hb1.mpr (by
            rw [e2]
            refine upTo_iff.mpr ?_
            rw [List.length_map, hcl]
            omega)
          cases z
        | true =>
          obtain ⟨b, rfl, hbm⟩ := upTo_nat (hb1.mp rfl)
          obtain rfl := g2.isInt
          have hbm' : b < m := by
            rw [List.length_map, hcl] at hbm
            omega
          refine iteF ?_
          walk_at "st"
          refine ⟨y1, _, p', d1, rfl, g1, .inr ⟨_, rfl⟩, fun b2 hb2 => ?_⟩
          walk_at "st"
          cases b2 with
          | false =>
            refine iteT (no fun ⟨f', a', b', _, e1, e2, _, hab, _⟩ => ?_)
            have z := hb2.mpr (by
              rw [e1]
              refine upTo_iff.mpr ?_
              injection e2 with e2
              omega)
            cases z
          | true =>
            obtain ⟨a', rfl, hab⟩ := upTo_nat (hb2.mp rfl)
            obtain rfl := g1.isInt
            have hab' : a' ≤ b := by omega
            refine iteF ?_
            have fin : ∀ bb : Bool, (bb = true ↔ Meets3 m rows f a' b) → Q (.bl bb) H := fun bb hbb => k bb ⟨fun z => ⟨f, a', b, rfl, rfl, rfl, hbb.mp z⟩, fun ⟨f2, a2, b2, e0, e1, e2, hM⟩ => by
              injection e0 with e0
              injection e1 with e1
              injection e2 with e2
              rw [show f = f2 by omega, show a' = a2 by omega, show b = b2 by omega] at hbb
              exact hbb.mpr hM⟩
            refine ⟨_, rfl, _, rfl, rfl, _, rfl, ?_⟩
            refine ite2 (fun c1 => ?_) (fun c1 => ?_)
            · have exy : a' = b := by
                have z := of_decide_eq_true c1
                injection z with z
                omega
              walk_at "st"
              refine ⟨ca, _, _, _, rfl, rfl, SqT.of hca, gx a' (by omega), ?_⟩
              walk_at "st"
              refine fin _ ?_
              unfold Meets3
              rw [if_pos exy, decide_eq_true_iff]
              exact ⟨fun z => ⟨hfl, hab', hbm', z⟩, fun z => z.2.2.2⟩
            · have exy : ¬ a' = b := fun z => c1 (decide_eq_true (by rw [z]))
              walk_at "st"
              refine ⟨ca, _, _, _, rfl, rfl, SqT.of hca, gx a' (by omega), ?_⟩
              refine ⟨_, _, rfl, rfl, _, rfl, ?_⟩
              refine ite2 (fun c2 => ?_) (fun c2 => ?_)
              · refine ⟨_, rfl, _, rfl, ca, _, _, _, rfl, rfl, SqT.of hca, gx b hbm', _, _, rfl, rfl, ?_⟩
                refine fin _ ?_
                unfold Meets3
                rw [if_neg exy, decide_eq_true_iff]
                exact ⟨fun z => ⟨hfl, hab', hbm', of_decide_eq_true c2, z⟩, fun z => z.2.2.2.2⟩
              · refine fin _ ?_
                unfold Meets3
                rw [if_neg exy]
                exact ⟨fun z => Bool.noConfusion z, fun z => (c2 (decide_eq_true z.2.2.2.1)).elim⟩

end
end Fm
end FCM
section FMB
set_option Elab.async false
set_option linter.all false
set_option maxRecDepth 100000
set_option maxHeartbeats 4000000
local macro_rules | `(tactic| walk_at "ne") => `(tactic| first | assumption | (apply Ne.symm; assumption) | exact L2.ne_of_none (by assumption) (by assumption) | exact Ne.symm (L2.ne_of_none (by assumption) (by assumption)))
local macro_rules | `(tactic| walk_at "hl") => `(tactic| first | assumption | exact L2.upd_same | (refine Eq.trans (L2.upd_ne (by walk_at "ne")) ?_; walk_at "hl"))
local macro_rules | `(tactic| walk_at "sd") => `(tactic| first | (with_reducible show (_ : Int) < _; omega) | (with_reducible show (_ : Int) ≤ _; omega) | assumption | decide | exact ⟨by assumption, by assumption⟩ | exact ⟨by decide, by decide⟩ | exact Or.inr ⟨by decide, by decide⟩ | exact Or.inl ⟨by omega, by omega⟩ | rfl)
local macro_rules | `(tactic| walk_at "st1") => `(tactic| first
  | refine ⟨_, rfl, ?_⟩
  | refine ⟨_, _, rfl, rfl, ?_⟩
  | refine ⟨_, _, rfl, ?_⟩
  | (refine ⟨_, _, _, _, rfl, rfl, L2.SqL.of (by walk_at "hl"), rfl, ?_⟩)
  | (refine ⟨_, _, _, _, rfl, rfl, L2.SqT.of (by walk_at "hl"), rfl, ?_⟩)
  | (refine ⟨_, _, _, _, rfl, rfl, (by walk_at "hl"), rfl, ?_⟩)
  | (refine And.intro (by walk_at "sd") ?_)
  )
local macro_rules | `(tactic| walk_at "st") => `(tactic| repeat walk_at "st1")
local macro_rules | `(tactic| walk_at "op") => `(tactic| try dsimp only [L2.tSeq, L2.tAsg, L2.tOp, L2.tVar, L2.tC, L2.gSub, L2.rI, L2.rI0, L2.rIxL, L2.rIxT, L2.rSetL, L2.tIfS, L2.tTest, L2.tRet, L2.gName, L2.tNext, L2.tAnd, L2.tOr, L2.tNot, L2.tAndV, L2.tOrV, L2.tNotV, L2.tB, L2.tCB, L2.tCons, L2.tNil, L2.tCall, L2.tTup, L2.tLst, L2.tChain, L2.tUn, L2.tPar, L2.tDrop, L2.tIf, L2.tBM, L2.tBM0, L2.rAppend, L2.rCat, L2.rIsi, L2.rIsiT, L2.gTup, L2.gCons, L2.gNil, Fm.tFor_eq, Fm.tLc_eq, Fm.tLc2_eq, L2.iTup, L2.iList, L2.iRng1, L2.iRng2, L2.tSl, L2.tPart, L2.tNoPart, L2.rSlL, L2.rEq, L2.rNe, L2.rU, L2.rEqD, L2.rNeD, Fm.tRevT, Fm.rLenS, Fm.rTupOf, Fm.rLstOf, L2.tDNewK, L2.tCallS, L2.WE, Fm.wKeep, Fm.rIsK, Fm.rIsKT, List.cons_append, List.nil_append, L2.tYes])
namespace Fm
open PySem PySem.Spec PyProof.Rows L2
section
variable {P : Program} {w : World} {K : PySem.W.Frag} {mg : Str → Option Value} {base : Heap}
/-! ### behind a meeting -/
def intD : PyData → Int
  | .int i => i
  | _ => 0
def tabD (fs : List PyData) (f k : Nat) : List PyData := match fs[f]? with
  | some (.tuple l) => (match l[k]? with
    | some (.tuple rs) => rs
    | _ => [])
  | _ => []
def goN (fs : List PyData) (k f a b : Nat) : Nat := (intD (cellD (tabD fs f k) a b)).toNat
theorem tabD_at {fs : List PyData} {m n f k : Nat} (hN : HouseN m n (.tuple fs)) (hf : f < n) (hk : k < 2) : TabD m (.tuple (tabD fs f k)) := by
  obtain ⟨fs', e, hl, _, _, _, _, hF⟩ := hN
  cases e
  have hfl : f < fs.length := by omega
  obtain ⟨sd, ud, e1, h2, h3⟩ := hF fs[f] (List.getElem_mem _)
  obtain ⟨rs, e2, l2, r2, c2⟩ := h2
  obtain ⟨ru, e3, l3, r3, c3⟩ := h3
  subst e2 e3
  unfold tabD
  rw [List.getElem?_eq_getElem hfl, e1]
  match k, hk with
  | 0, _ => exact ⟨rs, rfl, l2, r2, c2⟩
  | 1, _ => exact ⟨ru, rfl, l3, r3, c3⟩
theorem goN_comm {fs : List PyData} {m n f k a b : Nat} (hN : HouseN m n (.tuple fs)) (hf : f < n) (hk : k < 2) (ha : a < m) (hb : b < m) : goN fs k f a b = goN fs k f b a := by
  obtain ⟨rs, e, _, _, c⟩ := tabD_at hN hf hk
  cases e
  unfold goN
  rw [c a b ha hb]
/-- the house in the heap: its tables' cells -/
theorem house_goes {H : Hp} {ph : Addr} {hv : V} {fs : List PyData} {m n f : Nat} (hD : Dat H ph hv (.tuple fs)) (hN : HouseN m n (.tuple fs)) (hf : f < n) :
    ∃ (ah af : Addr) (hs : List V) (tb : Nat → Addr), hv = .ref ah ∧ H ah = some (.tup hs) ∧ hs.length = n ∧ hs[f]? = some (V.ref af) ∧ H af = some (.tup [.ref (tb 0), .ref (tb 1)]) ∧
      ∀ k, k < 2 → ∀ a b, a < m → b < m → ∃ (ss : List V) (ra : Addr) (ya : List V), H (tb k) = some (.tup ss) ∧ ss[a]? = some (V.ref ra) ∧ H ra = some (.tup ya) ∧ ya[b]? = some (V.int (goN fs k f a b : Nat)) ∧ goN fs k f a b < m := by
  have t0 := tabD_at hN hf (k := 0) (by decide)
  have t1 := tabD_at hN hf (k := 1) (by decide)
  obtain ⟨fs', e, hl, _, _, _, _, hF⟩ := hN
  cases e
  obtain ⟨ah, hs, rfl, hah, _, hh⟩ := hD.isTup
  have hfl : f < fs.length := by omega
  obtain ⟨sd, ud, e1, h2, h3⟩ := hF fs[f] (List.getElem_mem _)
  obtain ⟨rs, rfl, l2, r2, c2⟩ := h2
  obtain ⟨ru, rfl, l3, r3, c3⟩ := h3
  have e4 : fs[f]? = some (.tuple [.tuple rs, .tuple ru]) := by rw [List.getElem?_eq_getElem hfl, e1]
  have q0 : tabD fs f 0 = rs := by unfold tabD; rw [e4]; rfl
  have q1 : tabD fs f 1 = ru := by unfold tabD; rw [e4]; rfl
  obtain ⟨x, hx, hdx⟩ := hh.back e4
  obtain ⟨af, ys, rfl, haf, _, hy⟩ := hdx.isTup
  have hyl : ys.length = 2 := hy.1
  match ys, hyl with
  | [w1, w2], _ =>
    obtain ⟨s0, ss, rfl, hs0, _, hss⟩ := (hy.2 0 w1 _ rfl rfl).isTup
    obtain ⟨u0, us, rfl, hu0, _, hus⟩ := (hy.2 1 w2 _ rfl rfl).isTup
    refine ⟨ah, af, hs, fun k => if k = 0 then s0 else u0, rfl, hah, by rw [hh.1, hl], hx, haf, fun k hk a b ha hb => ?_⟩
    match k, hk with
    | 0, _ =>
      obtain ⟨ra, ya, st, c1, c2, c3, c6, c4, c5⟩ := cell_at hss l2 r2 (a := a) (b := b) ha hb
      have eg : (st : Int) = ((goN fs 0 f a b : Nat) : Int) := by unfold goN; rw [q0, c6]; show st = ((st.toNat : Nat) : Int); omega
      refine ⟨ss, ra, ya, hs0, c1, c2, by rw [← eg]; exact c3, by omega⟩
    | 1, _ =>
      obtain ⟨ra, ya, st, c1, c2, c3, c6, c4, c5⟩ := cell_at hus l3 r3 (a := a) (b := b) ha hb
      have eg : (st : Int) = ((goN fs 1 f a b : Nat) : Int) := by unfold goN; rw [q1, c6]; show st = ((st.toNat : Nat) : Int); omega
      refine ⟨us, ra, ya, hu0, c1, c2, by rw [← eg]; exact c3, by omega⟩
def addAt (c : List Int) (i : Nat) (z : Int) : List Int := c.set i (c.getD i 0 + z)
def rowMet (c : List Int) (a b s : Nat) : List Int := addAt (addAt (addAt c a (-1)) b (-1)) s 1
def metRows (fs : List PyData) (rows : List (List Int)) (f a b : Nat) : List (List Int) :=
  let r1 := rows.set f (rowMet (rows.getD f []) a b (goN fs 0 f a b))
  if f + 1 < rows.length then r1.set (f + 1) (addAt (rows.getD (f + 1) []) (goN fs 1 f a b) 1) else r1
def metOut (rows : List (List Int)) (out : Int) (f : Nat) : Int := if f + 1 < rows.length then out else out + 1
theorem addAt_len (c : List Int) (i : Nat) (z : Int) : (addAt c i z).length = c.length := by unfold addAt; rw [List.length_set]
theorem rowMet_len (c : List Int) (a b s : Nat) : (rowMet c a b s).length = c.length := by unfold rowMet; rw [addAt_len, addAt_len, addAt_len]
theorem map_addAt (c : List Int) (i : Nat) (z : Int) : (addAt c i z).map V.int = (c.map V.int).set i (.int (c.getD i 0 + z)) := by unfold addAt; rw [List.map_set]
theorem Dats.set {H : Hp} {p : Addr} {xs : List V} {ds : List PyData} {v : V} {d : PyData} (h : Dats H p xs ds) (i : Nat) (k : Dat H p v d) : Dats H p (xs.set i v) (ds.set i d) := by
  refine ⟨by rw [List.length_set, List.length_set, h.1], fun j x e a b => ?_⟩
  rw [List.getElem?_set] at a b
  by_cases hj : i = j
  · rw [if_pos hj] at a b
    by_cases hl : i < xs.length
    · rw [if_pos hl] at a
      rw [if_pos (by rw [← h.1]; exact hl)] at b
      cases a
      cases b
      exact k
    · rw [if_neg hl] at a
      cases a
  · rw [if_neg hj] at a b
    exact h.2 j x e a b
theorem getD_at {c : List Int} {i : Nat} (h : i < c.length) : (c.map V.int)[i]? = some (.int (c.getD i 0)) := by
  rw [List.getElem?_map, List.getElem?_eq_getElem h, List.getD_eq_getElem?_getD, List.getElem?_eq_getElem h]
  rfl
theorem tri_parts {H : Hp} {p : Addr} {v : V} {x : Nat × Nat × Nat} (h : Dat H p v (triD x)) : ∃ a, v = .ref a ∧ H a = some (.tup [.int (x.1 : Nat), .int (x.2.1 : Nat), .int (x.2.2 : Nat)]) ∧ a ≠ p := by
  obtain ⟨a, ys, rfl, ha, np, hs⟩ := h.isTup
  have e : ys = [.int (x.1 : Nat), .int (x.2.1 : Nat), .int (x.2.2 : Nat)] := dats_ints (ns := [((x.1 : Nat) : Int), ((x.2.1 : Nat) : Int), ((x.2.2 : Nat) : Int)]) hs
  rw [e] at ha
  exact ⟨a, rfl, ha, np⟩

end
end Fm
end FMB
section FML
set_option Elab.async false
set_option linter.all false
set_option maxRecDepth 100000
set_option maxHeartbeats 4000000
local macro_rules | `(tactic| walk_at "ne") => `(tactic| first | assumption | (apply Ne.symm; assumption) | exact L2.ne_of_none (by assumption) (by assumption) | exact Ne.symm (L2.ne_of_none (by assumption) (by assumption)))
local macro_rules | `(tactic| walk_at "hl") => `(tactic| first | assumption | exact L2.upd_same | (refine Eq.trans (L2.upd_ne (by walk_at "ne")) ?_; walk_at "hl"))
local macro_rules | `(tactic| walk_at "sd") => `(tactic| first | (with_reducible show (_ : Int) < _; omega) | (with_reducible show (_ : Int) ≤ _; omega) | assumption | decide | exact ⟨by assumption, by assumption⟩ | exact ⟨by decide, by decide⟩ | exact Or.inr ⟨by decide, by decide⟩ | exact Or.inl ⟨by omega, by omega⟩ | rfl)
local macro_rules | `(tactic| walk_at "st1") => `(tactic| first
  | refine ⟨_, rfl, ?_⟩
  | refine ⟨_, _, rfl, rfl, ?_⟩
  | refine ⟨_, _, rfl, ?_⟩
  | (refine ⟨_, _, _, _, rfl, rfl, L2.SqL.of (by walk_at "hl"), rfl, ?_⟩)
  | (refine ⟨_, _, _, _, rfl, rfl, L2.SqT.of (by walk_at "hl"), rfl, ?_⟩)
  | (refine ⟨_, _, _, _, rfl, rfl, (by walk_at "hl"), rfl, ?_⟩)
  | (refine And.intro (by walk_at "sd") ?_)
  )
local macro_rules | `(tactic| walk_at "st") => `(tactic| repeat walk_at "st1")
local macro_rules | `(tactic| walk_at "op") => `(tactic| try dsimp only [L2.tSeq, L2.tAsg, L2.tOp, L2.tVar, L2.tC, L2.gSub, L2.rI, L2.rI0, L2.rIxL, L2.rIxT, L2.rSetL, L2.tIfS, L2.tTest, L2.tRet, L2.gName, L2.tNext, L2.tAnd, L2.tOr, L2.tNot, L2.tAndV, L2.tOrV, L2.tNotV, L2.tB, L2.tCB, L2.tCons, L2.tNil, L2.tCall, L2.tTup, L2.tLst, L2.tChain, L2.tUn, L2.tPar, L2.tDrop, L2.tIf, L2.tBM, L2.tBM0, L2.rAppend, L2.rCat, L2.rIsi, L2.rIsiT, L2.gTup, L2.gCons, L2.gNil, Fm.tFor_eq, Fm.tLc_eq, Fm.tLc2_eq, L2.iTup, L2.iList, L2.iRng1, L2.iRng2, L2.tSl, L2.tPart, L2.tNoPart, L2.rSlL, L2.rEq, L2.rNe, L2.rU, L2.rEqD, L2.rNeD, Fm.tRevT, Fm.rLenS, Fm.rTupOf, Fm.rLstOf, L2.tDNewK, L2.tCallS, L2.WE, Fm.wKeep, Fm.rIsK, Fm.rIsKT, List.cons_append, List.nil_append, L2.tYes])
namespace Fm
open PySem PySem.Spec PyProof.Rows L2
abbrev s_met : Stmt := top 22
abbrev N_met : List Str := ["house", "standing", "meeting", "floor", "a", "b", "stay", "up", "told", "here", "above"]
theorem sc_met : FnScope N_met ["house", "standing", "meeting"] (defScope s_met) := ⟨rfl, rfl, rfl, by decide +kernel, rfl, by decide +kernel, by decide +kernel⟩
section
variable {P : Program} {w : World} {K : PySem.W.Frag} {mg : Str → Option Value} {base : Heap}
theorem aug_list {K : PySem.W.Frag} {to ti : TE} {σ : L2.St} {G : Hp} {B : Addr} {c : List Int} {i : Nat} {op : Int → Int → Int} {Dn : Ends} {z : Int} (ho : ∀ Q : VK, Q (.ref B) G → to σ G Q) (hi : ∀ Q : VK, Q (.int (i : Nat)) G → ti σ G Q)
    (hB : G B = some (.lst (c.map V.int))) (h : i < c.length) (e : ∀ x, op x 1 = x + z) (hn : Dn.nx σ (upd G B (.lst ((addAt c i z).map V.int)))) : tAugS to ti (tC (.int 1)) (rGetL K) (ipI op) rSetL Dn σ G := by
  refine ho _ (hi _ ?_)
  refine ⟨B, _, i, _, rfl, rfl, SqL.of hB, getD_at h, ?_⟩
  refine ⟨_, _, rfl, rfl, ?_⟩
  refine ⟨B, _, _, i, rfl, rfl, hB, ixN_of (by rw [List.length_map]; exact h), ?_⟩
  rw [e, ← map_addAt]
  exact hn
theorem set_rows {rows : List (List Int)} {i : Nat} (h : i < rows.length) (r : List Int) (x : PyData) : (rows.map rowD ++ [x]).set i (rowD r) = (rows.set i r).map rowD ++ [x] := by
  rw [List.set_append_left _ _ (by rw [List.length_map]; exact h), List.map_set]
theorem set_last {α : Type} (A : List α) (x y : α) {i : Nat} (h : i = A.length) : (A ++ [x]).set i y = A ++ [y] := by
  subst h
  rw [List.set_append_right _ _ (Nat.le_refl _), Nat.sub_self]
  rfl
theorem std_no (rows : List (List Int)) (x : Int) : ∀ d ∈ rows.map rowD ++ [PyData.int x], noList d = true := fun d hd => by
  rcases List.mem_append.mp hd with hd | hd
  · obtain ⟨r, _, rfl⟩ := List.mem_map.mp hd
    exact noList_ints _ _
  · rw [List.mem_singleton.mp hd]
    unfold noList
    rfl
def spMet : Sp := fun vs H Q _ => ∃ (hv sv mv : V) (p ph pm : Addr) (u : HO) (fs : List PyData) (m n f a b : Nat) (rows : List (List Int)) (out : Int), vs = [hv, sv, mv] ∧ H p = some u ∧ Dat H ph hv (.tuple fs) ∧ HouseN m n (.tuple fs) ∧ Dat H p sv (stD rows out) ∧ rows.length = n ∧ StOk m rows out ∧
  Dat H pm mv (triD (f, a, b)) ∧ f < n ∧ a < m ∧ b < m ∧ ∀ v H', Dat H' p v (stD (metRows fs rows f a b) (metOut rows out f)) → Same H H' → Q v H'
theorem ok_met (D : Df K mg "met" s_met ["house", "standing", "meeting"]) (T : Nms mg) : CallOk P w K mg base CX0 1 "met" ["house", "standing", "meeting"] spMet := by
  refine df_ok D sc_met (fun vs H Q E h => ?_) (fun f cdv A outer s H vs Q E hr h => ?_)
  · obtain ⟨hv, sv, mv, p, ph, pm, u, fs, m, n, f, a, b, rows, out, rfl, _⟩ := h
    rfl
  · obtain ⟨hv, sv, mv, p, ph, pm, u, fs, m, n, fn, a, b, rows, out, rfl, hp, hD, hN, sD, hl, ok, mD, hf, ham, hbm, k⟩ := h
    have nd := sc_met.nd
    have hn : 1 ≤ n ∧ n ≤ 4 ∧ m ≤ 6 := by
      obtain ⟨_, _, _, hn1, hn4, _, hm, _⟩ := hN
      exact ⟨hn1, hn4, hm⟩
    have pne : ∀ {S : Addr} {G : Hp}, Same H G → G S = none → S ≠ p := fun {S G} e z q => by
      rw [q] at z
      have := e p u hp
      rw [z] at this
      cases this
    obtain ⟨ma, rfl, hma, _⟩ := tri_parts mD
    obtain ⟨sa, xs, rfl, hsa, nsp, hx⟩ := st_parts sD
    obtain ⟨ah, af, hs, tb, rfl, g1, g2, g3, g4, g5⟩ := house_goes hD hN hf
    have hxl : xs.length = n := by rw [hx.1, List.length_map, hl]
    have hfl : fn < rows.length := by omega
    obtain ⟨rv, hrv, hdr⟩ := hx.back (i := fn) (d := rowD rows[fn]) (by rw [List.getElem?_map, List.getElem?_eq_getElem hfl]; rfl)
    obtain ⟨ca, rfl, hca, _⟩ := row_parts hdr
    have hcl : rows[fn].length = m := ok.len _ (List.getElem_mem hfl)
    have hgd : rows.getD fn [] = rows[fn] := by rw [List.getD_eq_getElem?_getD, List.getElem?_eq_getElem hfl]; rfl
    generalize rows[fn] = c at *
    have hsat : ∀ i, i < n → (xs ++ [V.int out])[i]? = xs[i]? := fun i hi => List.getElem?_append_left (by omega)
    refine ⟨_, (pss_cons (ps_asg (pv 2) (pg_tup rfl (pgs_cons (pg_name (i := 3) nd rfl (Or.inl rfl)) (pgs_cons (pg_name (i := 4) nd rfl (Or.inl rfl)) (pgs_cons (pg_name (i := 5) nd rfl (Or.inl rfl)) pgs_nil)))))
      (pss_cons (ps_asg (pe_ix (r := rIxT K) ix_tup (pv 0) (pv 3) (fun _ _ => rfl)) (pg_tup rfl (pgs_cons (pg_name (i := 6) nd rfl (Or.inl rfl)) (pgs_cons (pg_name (i := 7) nd rfl (Or.inl rfl)) pgs_nil))))
      (pss_cons (ps_set (i := 8) nd rfl (Or.inl rfl) (pe_callTy (r := rLstOf K) call_lstOf (by rfl) T.n_list (by decide +kernel) (pa_cons (pv 1) pa_nil)))
      (pss_cons (ps_set (i := 9) nd rfl (Or.inl rfl) (pe_callTy (r := rLstOf K) call_lstOf (by rfl) T.n_list (by decide +kernel) (pa_cons (pe_ix (r := rIxT K) ix_tup (pv 1) (pv 3) (fun _ _ => rfl)) pa_nil)))
      (pss_cons (ps_augS (pv 9) (pv 4) get_list pe_int ip_sub set_list)
      (pss_cons (ps_augS (pv 9) (pv 5) get_list pe_int ip_sub set_list)
      (pss_cons (ps_augS (pv 9) (pe_ix (r := rIxT K) ix_tup (pe_ix (r := rIxT K) ix_tup (pv 6) (pv 4) (fun _ _ => rfl)) (pv 5) (fun _ _ => rfl)) get_list pe_int ip_add set_list)
      (pss_cons (ps_asg (pe_callTy (r := rTupOf K) call_tupOf (by rfl) T.n_tuple (by decide +kernel) (pa_cons (pv 9) pa_nil)) (pg_sub (pv 8) (pv 3) set_list))
      (pss_cons (ps_if (pt_cmpR op_lt (pe_op op_add (pv 3) pe_int) (pe_callB (r := rLenS K) call_lenS (by rfl) T.n_len (by decide +kernel) (pa_cons (pv 0) pa_nil)) (nomark _)) (pss_cons (ps_set (i := 10) nd rfl (Or.inl rfl) (pe_callTy (r := rLstOf K) call_lstOf (by rfl) T.n_list (by decide +kernel) (pa_cons (pe_ix (r := rIxT K) ix_tup (pv 1) (pe_op op_add (pv 3) pe_int) (fun _ _ => rfl)) pa_nil)))
      (pss_cons (ps_augS (pv 10) (pe_ix (r := rIxT K) ix_tup (pe_ix (r := rIxT K) ix_tup (pv 7) (pv 4) (fun _ _ => rfl)) (pv 5) (fun _ _ => rfl)) get_list pe_int ip_add set_list)
      (pss_one (ps_asg (pe_callTy (r := rTupOf K) call_tupOf (by rfl) T.n_tuple (by decide +kernel) (pa_cons (pv 10) pa_nil)) (pg_sub (pv 8) (pe_op op_add (pv 3) pe_int) set_list))))) (pss_one (ps_augS (pv 8) (pe_op op_add (pv 3) pe_int) get_list pe_int ip_add set_list)))
      (pss_one (ps_ret (pe_callTy (r := rTupOf K) call_tupOf (by rfl) T.n_tuple (by decide +kernel) (pa_cons (pv 8) pa_nil))))))))))))), ?_⟩
    walk_at "op"
    walk_at "st"
    refine ⟨ma, _, rfl, SqT.of hma, rfl, _, _, rfl, _, _, rfl, _, _, rfl, rfl, ?_⟩
    walk_at "op"
    walk_at "st"
    refine ⟨ah, _, _, _, rfl, rfl, SqT.of g1, atI_nat g3, ?_⟩
    refine ⟨af, _, rfl, SqT.of g4, rfl, _, _, rfl, _, _, rfl, rfl, ?_⟩
    walk_at "op"
    walk_at "st"
    refine ⟨sa, _, rfl, .inr (SqT.of hsa), fun L hL => ?_⟩
    have s1 : Same H (upd H L (.lst (xs ++ [.int out]))) := same_new hL
    walk_at "st"
    refine ⟨sa, _, _, _, rfl, rfl, SqT.of (s1 _ _ hsa), atI_nat (j := fn) (by rw [hsat fn hf]; exact hrv), ?_⟩
    refine ⟨ca, _, rfl, .inr (SqT.of (s1 _ _ hca)), fun B hB => ?_⟩
    have nLB : L ≠ B := ne_of_none upd_same hB
    have hBH : H B = none := sameFree s1 hB
    have e1B : upd (upd H L (.lst (xs ++ [.int out]))) B (.lst (c.map V.int)) B = some (.lst (c.map V.int)) := upd_same
    have e1L : upd (upd H L (.lst (xs ++ [.int out]))) B (.lst (c.map V.int)) L = some (.lst (xs ++ [.int out])) := by rw [upd_ne nLB]; exact upd_same
    have s2 : Same H (upd (upd H L (.lst (xs ++ [.int out]))) B (.lst (c.map V.int))) := sameOff s1 hBH
    generalize upd (upd H L (.lst (xs ++ [.int out]))) B (.lst (c.map V.int)) = G1 at *
    refine aug_list (K := K) (op := fun i j => i - j) (z := -1) (i := a) ?_ ?_ e1B (by omega) (fun x => rfl) ?_
    · exact fun Q q => ⟨_, rfl, q⟩
    · exact fun Q q => ⟨_, rfl, q⟩
    have e2B : upd G1 B (.lst ((addAt c a (-1)).map V.int)) B = some (.lst ((addAt c a (-1)).map V.int)) := upd_same
    have e2L : upd G1 B (.lst ((addAt c a (-1)).map V.int)) L = some (.lst (xs ++ [.int out])) := by rw [upd_ne nLB]; exact e1L
    have s3 : Same H (upd G1 B (.lst ((addAt c a (-1)).map V.int))) := sameOff s2 hBH
    generalize upd G1 B (.lst ((addAt c a (-1)).map V.int)) = G2 at *
    walk_at "op"
    refine aug_list (K := K) (op := fun i j => i - j) (z := -1) (i := b) ?_ ?_ e2B (by rw [addAt_len]; omega) (fun x => rfl) ?_
    · exact fun Q q => ⟨_, rfl, q⟩
    · exact fun Q q => ⟨_, rfl, q⟩
    have e3B : upd G2 B (.lst ((addAt (addAt c a (-1)) b (-1)).map V.int)) B = some (.lst ((addAt (addAt c a (-1)) b (-1)).map V.int)) := upd_same
    have e3L : upd G2 B (.lst ((addAt (addAt c a (-1)) b (-1)).map V.int)) L = some (.lst (xs ++ [.int out])) := by rw [upd_ne nLB]; exact e2L
    have s4 : Same H (upd G2 B (.lst ((addAt (addAt c a (-1)) b (-1)).map V.int))) := sameOff s3 hBH
    generalize upd G2 B (.lst ((addAt (addAt c a (-1)) b (-1)).map V.int)) = G3 at *
    obtain ⟨ss, ra, ya, q1, q2, q3, q4, q5⟩ := g5 0 (by decide) a b ham hbm
    walk_at "op"
    refine aug_list (K := K) (op := fun i j => i + j) (z := 1) (i := goN fs 0 fn a b) ?_ ?_ e3B (by rw [addAt_len, addAt_len]; omega) (fun x => rfl) ?_
    · exact fun Q q => ⟨_, rfl, q⟩
    · exact fun Q q => ⟨_, rfl, _, rfl, _, _, _, _, rfl, rfl, SqT.of (s4 _ _ q1), atI_nat q2, _, rfl, _, _, _, _, rfl, rfl, SqT.of (s4 _ _ q3), atI_nat q4, q⟩
    have e4B : upd G3 B (.lst ((rowMet c a b (goN fs 0 fn a b)).map V.int)) B = some (.lst ((rowMet c a b (goN fs 0 fn a b)).map V.int)) := upd_same
    have e4L : upd G3 B (.lst ((rowMet c a b (goN fs 0 fn a b)).map V.int)) L = some (.lst (xs ++ [.int out])) := by rw [upd_ne nLB]; exact e3L
    have s5 : Same H (upd G3 B (.lst ((rowMet c a b (goN fs 0 fn a b)).map V.int))) := sameOff s4 hBH
    rw [show addAt (addAt (addAt c a (-1)) b (-1)) (goN fs 0 fn a b) 1 = rowMet c a b (goN fs 0 fn a b) from rfl]
    generalize upd G3 B (.lst ((rowMet c a b (goN fs 0 fn a b)).map V.int)) = G4 at *
    have hrl := rowMet_len c a b (goN fs 0 fn a b)
    walk_at "op"
    walk_at "st"
    refine ⟨B, _, rfl, .inl ⟨SqL.of e4B, fun t ht => ?_⟩⟩
    have nLt : L ≠ t := ne_of_none e4L ht
    have htp := pne s5 ht
    have htH := sameFree s5 ht
    have s6 : Same H (upd G4 t (.tup ((rowMet c a b (goN fs 0 fn a b)).map V.int))) := s5.trans (same_new ht)
    have e6L : upd G4 t (.tup ((rowMet c a b (goN fs 0 fn a b)).map V.int)) L = some (.lst (xs ++ [.int out])) := by rw [upd_ne nLt]; exact e4L
    have dT : Dat (upd G4 t (.tup ((rowMet c a b (goN fs 0 fn a b)).map V.int))) p (.ref t) (rowD (rowMet c a b (goN fs 0 fn a b))) := Dat.new ht htp (Dats.ints _)
    generalize upd G4 t (.tup ((rowMet c a b (goN fs 0 fn a b)).map V.int)) = G6 at *
    have hLn : L ≠ p := pne (Same.refl H) hL
    have all0 : Dats H p (xs ++ [.int out]) (rows.map rowD ++ [.int out]) := hx.snoc (.int out)
    refine ⟨_, rfl, _, rfl, L, _, _, fn, rfl, rfl, e6L, ixN_of (by rw [List.length_append]; omega), ?_⟩
    have e7L : upd G6 L (.lst ((xs ++ [V.int out]).set fn (.ref t))) L = some (.lst ((xs ++ [V.int out]).set fn (.ref t))) := upd_same
    have s7 : Same H (upd G6 L (.lst ((xs ++ [V.int out]).set fn (.ref t)))) := sameOff s6 hL
    have d7 : Dats (upd G6 L (.lst ((xs ++ [V.int out]).set fn (.ref t)))) p ((xs ++ [V.int out]).set fn (.ref t)) ((rows.map rowD ++ [PyData.int out]).set fn (rowD (rowMet c a b (goN fs 0 fn a b)))) := by
      refine Dats.set ((all0.same s7)) fn (Dat.setL e6L dT (noList_ints _ _))
    generalize upd G6 L (.lst ((xs ++ [V.int out]).set fn (.ref t))) = G7 at *
    refine ⟨_, rfl, _, _, rfl, rfl, _, rfl, ah, hs, rfl, .inr (SqT.of (s7 _ _ g1)), ?_⟩
    refine ⟨_, _, rfl, rfl, _, rfl, ?_⟩
    refine ite2 (fun c0 => ?_) (fun c0 => ?_)
    · have hf1 : fn + 1 < n := by
        have z := of_decide_eq_true c0
        omega
      have hf1l : fn + 1 < rows.length := by omega
      obtain ⟨rv2, hrv2, hdr2⟩ := hx.back (i := fn + 1) (d := rowD rows[fn + 1]) (by rw [List.getElem?_map, List.getElem?_eq_getElem hf1l]; rfl)
      obtain ⟨cb, rfl, hcb, _⟩ := row_parts hdr2
      have hcl2 : rows[fn + 1].length = m := ok.len _ (List.getElem_mem hf1l)
      have hgd2 : rows.getD (fn + 1) [] = rows[fn + 1] := by rw [List.getD_eq_getElem?_getD, List.getElem?_eq_getElem hf1l]; rfl
      generalize rows[fn + 1] = c2 at *
      walk_at "op"
      walk_at "st"
      refine ⟨sa, _, _, _, rfl, rfl, SqT.of (s7 _ _ hsa), atI_of (by omega) (by rw [show ((fn : Int) + 1).toNat = fn + 1 from by omega, hsat _ hf1]; exact hrv2), ?_⟩
      refine ⟨cb, _, rfl, .inr (SqT.of (s7 _ _ hcb)), fun E1 hE1 => ?_⟩
      have nLE : L ≠ E1 := ne_of_none e7L hE1
      have hE1H := sameFree s7 hE1
      have e8B : upd G7 E1 (.lst (c2.map V.int)) E1 = some (.lst (c2.map V.int)) := upd_same
      have e8L : upd G7 E1 (.lst (c2.map V.int)) L = some (.lst ((xs ++ [V.int out]).set fn (.ref t))) := by rw [upd_ne nLE]; exact e7L
      have s8 : Same H (upd G7 E1 (.lst (c2.map V.int))) := sameOff s7 hE1H
      have d8 := d7.off (o := .lst (c2.map V.int)) hE1
      generalize upd G7 E1 (.lst (c2.map V.int)) = G8 at *
      obtain ⟨us, rb, yb, q1', q2', q3', q4', q5'⟩ := g5 1 (by decide) a b ham hbm
      walk_at "op"
      refine aug_list (K := K) (op := fun i j => i + j) (z := 1) (i := goN fs 1 fn a b) ?_ ?_ e8B (by omega) (fun x => rfl) ?_
      · exact fun Q q => ⟨_, rfl, q⟩
      · exact fun Q q => ⟨_, rfl, _, rfl, _, _, _, _, rfl, rfl, SqT.of (s8 _ _ q1'), atI_nat q2', _, rfl, _, _, _, _, rfl, rfl, SqT.of (s8 _ _ q3'), atI_nat q4', q⟩
      have e9B : upd G8 E1 (.lst ((addAt c2 (goN fs 1 fn a b) 1).map V.int)) E1 = some (.lst ((addAt c2 (goN fs 1 fn a b) 1).map V.int)) := upd_same
      have e9L : upd G8 E1 (.lst ((addAt c2 (goN fs 1 fn a b) 1).map V.int)) L = some (.lst ((xs ++ [V.int out]).set fn (.ref t))) := by rw [upd_ne nLE]; exact e8L
      have s9 : Same H (upd G8 E1 (.lst ((addAt c2 (goN fs 1 fn a b) 1).map V.int))) := sameOff s8 hE1H
      rw [set_rows hfl] at d8
      have d9 : Dats (upd G8 E1 (.lst ((addAt c2 (goN fs 1 fn a b) 1).map V.int))) p _ _ := d8.setL e8B (std_no _ _)
      generalize upd G8 E1 (.lst ((addAt c2 (goN fs 1 fn a b) 1).map V.int)) = G9 at *
      walk_at "op"
      walk_at "st"
      refine ⟨E1, _, rfl, .inl ⟨SqL.of e9B, fun t2 ht2 => ?_⟩⟩
      have nLt2 : L ≠ t2 := ne_of_none e9L ht2
      have ht2p := pne s9 ht2
      have e10L : upd G9 t2 (.tup ((addAt c2 (goN fs 1 fn a b) 1).map V.int)) L = some (.lst ((xs ++ [V.int out]).set fn (.ref t))) := by rw [upd_ne nLt2]; exact e9L
      have s10 : Same H (upd G9 t2 (.tup ((addAt c2 (goN fs 1 fn a b) 1).map V.int))) := s9.trans (same_new ht2)
      have dT2 : Dat (upd G9 t2 (.tup ((addAt c2 (goN fs 1 fn a b) 1).map V.int))) p (.ref t2) (rowD (addAt c2 (goN fs 1 fn a b) 1)) := Dat.new ht2 ht2p (Dats.ints _)
      have d10 := d9.off (o := .tup ((addAt c2 (goN fs 1 fn a b) 1).map V.int)) ht2
      generalize upd G9 t2 (.tup ((addAt c2 (goN fs 1 fn a b) 1).map V.int)) = G10 at *
      refine ⟨_, rfl, _, rfl, _, _, rfl, rfl, L, _, _, fn + 1, rfl, rfl, e10L, by rw [show (fn : Int) + 1 = ((fn + 1 : Nat) : Int) from by omega]; exact ixN_of (by rw [List.length_set, List.length_append]; omega), ?_⟩
      have e11L : upd G10 L (.lst (((xs ++ [V.int out]).set fn (.ref t)).set (fn + 1) (.ref t2))) L = some (.lst (((xs ++ [V.int out]).set fn (.ref t)).set (fn + 1) (.ref t2))) := upd_same
      have s11 : Same H (upd G10 L (.lst (((xs ++ [V.int out]).set fn (.ref t)).set (fn + 1) (.ref t2)))) := sameOff s10 hL
      have d11 : Dats (upd G10 L (.lst (((xs ++ [V.int out]).set fn (.ref t)).set (fn + 1) (.ref t2)))) p _ _ := Dats.set (d10.setL e10L (std_no _ _)) (fn + 1) (Dat.setL e10L dT2 (noList_ints _ _))
      rw [set_rows (by rw [List.length_set]; exact hf1l)] at d11
      generalize upd G10 L (.lst (((xs ++ [V.int out]).set fn (.ref t)).set (fn + 1) (.ref t2))) = G11 at *
      walk_at "op"
      walk_at "st"
      refine ⟨L, _, rfl, .inl ⟨SqL.of e11L, fun t3 ht3 => ?_⟩⟩
      refine k _ _ ?_ (s11.trans (same_new ht3))
      have q := Dat.new (ds := ((rows.set fn (rowMet c a b (goN fs 0 fn a b))).set (fn + 1) (addAt c2 (goN fs 1 fn a b) 1)).map rowD ++ [.int out]) ht3 (pne s11 ht3) d11
      unfold metRows metOut
      rw [hgd, hgd2, if_pos hf1l, if_pos hf1l]
      exact q
    · have hf1 : ¬ fn + 1 < n := fun z => c0 (decide_eq_true (by omega))
      have hf1l : ¬ fn + 1 < rows.length := by omega
      rw [set_rows hfl] at d7
      have hlast : (xs ++ [V.int out]).set fn (.ref t) = xs.set fn (.ref t) ++ [V.int out] := List.set_append_left _ _ (by omega)
      rw [hlast] at e7L d7
      walk_at "op"
      have hgl : (xs.set fn (.ref t) ++ [V.int out])[fn + 1]? = some (V.int out) := by
        rw [List.getElem?_append_right (by rw [List.length_set]; omega), List.length_set, show fn + 1 - xs.length = 0 from by omega]
        rfl
      refine ⟨_, rfl, _, rfl, _, _, rfl, rfl, L, _, fn + 1, V.int out, rfl, by show V.int ((fn : Int) + 1) = V.int ((fn + 1 : Nat) : Int); rw [show (fn : Int) + 1 = ((fn + 1 : Nat) : Int) from by omega], SqL.of e7L, hgl, ?_⟩
      refine ⟨_, _, rfl, rfl, ?_⟩
      refine ⟨L, _, _, fn + 1, rfl, rfl, e7L, by rw [show (fn : Int) + 1 = ((fn + 1 : Nat) : Int) from by omega]; exact ixN_of (by rw [List.length_append, List.length_set]; show _ < _ + 1; omega), ?_⟩
      rw [set_last _ _ _ (by rw [List.length_set]; omega)]
      have e8L : upd G7 L (.lst (xs.set fn (.ref t) ++ [V.int (out + 1)])) L = some (.lst (xs.set fn (.ref t) ++ [V.int (out + 1)])) := upd_same
      have s8 : Same H (upd G7 L (.lst (xs.set fn (.ref t) ++ [V.int (out + 1)]))) := sameOff s7 hL
      have d8 : Dats (upd G7 L (.lst (xs.set fn (.ref t) ++ [V.int (out + 1)]))) p ((xs.set fn (.ref t) ++ [V.int out]).set n (.int (out + 1))) (((rows.set fn (rowMet c a b (goN fs 0 fn a b))).map rowD ++ [PyData.int out]).set n (.int (out + 1))) := Dats.set (d7.setL e7L (std_no _ _)) n (.int _)
      rw [set_last _ _ _ (by rw [List.length_set]; omega), set_last _ _ _ (by rw [List.length_map, List.length_set]; omega)] at d8
      generalize upd G7 L (.lst (xs.set fn (.ref t) ++ [V.int (out + 1)])) = G8 at *
      walk_at "op"
      walk_at "st"
      refine ⟨L, _, rfl, .inl ⟨SqL.of e8L, fun t3 ht3 => ?_⟩⟩
      refine k _ _ ?_ (s8.trans (same_new ht3))
      have q := Dat.new (ds := (rows.set fn (rowMet c a b (goN fs 0 fn a b))).map rowD ++ [.int (out + 1)]) ht3 (pne s8 ht3) d8
      unfold metRows metOut
      rw [hgd, if_neg hf1l, if_neg hf1l]
      exact q

end
end Fm
end FML
section FBH
set_option Elab.async false
set_option linter.all false
set_option maxRecDepth 100000
set_option maxHeartbeats 4000000
local macro_rules | `(tactic| walk_at "ne") => `(tactic| first | assumption | (apply Ne.symm; assumption) | exact L2.ne_of_none (by assumption) (by assumption) | exact Ne.symm (L2.ne_of_none (by assumption) (by assumption)))
local macro_rules | `(tactic| walk_at "hl") => `(tactic| first | assumption | exact L2.upd_same | (refine Eq.trans (L2.upd_ne (by walk_at "ne")) ?_; walk_at "hl"))
local macro_rules | `(tactic| walk_at "sd") => `(tactic| first | (with_reducible show (_ : Int) < _; omega) | (with_reducible show (_ : Int) ≤ _; omega) | assumption | decide | exact ⟨by assumption, by assumption⟩ | exact ⟨by decide, by decide⟩ | exact Or.inr ⟨by decide, by decide⟩ | exact Or.inl ⟨by omega, by omega⟩ | rfl)
local macro_rules | `(tactic| walk_at "st1") => `(tactic| first
  | refine ⟨_, rfl, ?_⟩
  | refine ⟨_, _, rfl, rfl, ?_⟩
  | refine ⟨_, _, rfl, ?_⟩
  | (refine ⟨_, _, _, _, rfl, rfl, L2.SqL.of (by walk_at "hl"), rfl, ?_⟩)
  | (refine ⟨_, _, _, _, rfl, rfl, L2.SqT.of (by walk_at "hl"), rfl, ?_⟩)
  | (refine ⟨_, _, _, _, rfl, rfl, (by walk_at "hl"), rfl, ?_⟩)
  | (refine And.intro (by walk_at "sd") ?_)
  )
local macro_rules | `(tactic| walk_at "st") => `(tactic| repeat walk_at "st1")
local macro_rules | `(tactic| walk_at "op") => `(tactic| try dsimp only [L2.tSeq, L2.tAsg, L2.tOp, L2.tVar, L2.tC, L2.gSub, L2.rI, L2.rI0, L2.rIxL, L2.rIxT, L2.rSetL, L2.tIfS, L2.tTest, L2.tRet, L2.gName, L2.tNext, L2.tAnd, L2.tOr, L2.tNot, L2.tAndV, L2.tOrV, L2.tNotV, L2.tB, L2.tCB, L2.tCons, L2.tNil, L2.tCall, L2.tTup, L2.tLst, L2.tChain, L2.tUn, L2.tPar, L2.tDrop, L2.tIf, L2.tBM, L2.tBM0, L2.rAppend, L2.rCat, L2.rIsi, L2.rIsiT, L2.gTup, L2.gCons, L2.gNil, Fm.tFor_eq, Fm.tLc_eq, Fm.tLc2_eq, L2.iTup, L2.iList, L2.iRng1, L2.iRng2, L2.tSl, L2.tPart, L2.tNoPart, L2.rSlL, L2.rEq, L2.rNe, L2.rU, L2.rEqD, L2.rNeD, Fm.tRevT, Fm.rLenS, Fm.rTupOf, Fm.rLstOf, L2.tDNewK, L2.tCallS, L2.WE, Fm.wKeep, Fm.rIsK, Fm.rIsKT, List.cons_append, List.nil_append, L2.tYes])
namespace Fm
open PySem PySem.Spec PyProof.Rows L2
section
variable {P : Program} {w : World} {K : PySem.W.Frag} {mg : Str → Option Value} {base : Heap}
/-- the error NoMeeting(0) is made: what is still to be shown of its class at C -/
def MakesAt (P : Program) (w : World) (K : PySem.W.Frag) (mg : Str → Option Value) (base : Heap) (C : Addr) : Prop := ∀ (X : Cx) {p p2 p3 : Pos} {j : Nat}, X.prog = P → X.w = w → X.K = K → X.mg = mg → X.base = base → X.calm = true → Gl X "NoMeeting" → Room 2 X.A →
  PMk X (.Call (.Name "NoMeeting" p) [.Constant (.int 0) j p2] [] p3) (fun _ H Q => ∀ d, H d = none → Q (.ref C) (some d) (upd H d (.xd [("at", .int 0)])))
def spBehind (C : Addr) : Sp := fun vs H Q E => ∃ (hv sv mv : V) (p ph pm : Addr) (u : HO) (fs : List PyData) (m n : Nat) (rows : List (List Int)) (out : Int) (d : PyData), vs = [hv, sv, mv] ∧ H p = some u ∧ Dat H ph hv (.tuple fs) ∧ HouseN m n (.tuple fs) ∧ Dat H p sv (stD rows out) ∧ rows.length = n ∧ StOk m rows out ∧ Dat H pm mv d ∧
  (∀ f a b, d = triD (f, a, b) → Meets3 m rows f a b → ∀ v H', Dat H' p v (stD (metRows fs rows f a b) (metOut rows out f)) → Same H H' → Q v H') ∧
  ((¬ ∃ x, d = triD x ∧ Meets3 m rows x.1 x.2.1 x.2.2) → ∀ H1 dx, Same H H1 → H1 dx = none → E (.ref C) (some dx) (upd H1 dx (.xd [("at", .int 0)])))
end
end Fm
end FBH
section FKB
set_option Elab.async false
set_option linter.all false
set_option maxRecDepth 100000
set_option maxHeartbeats 4000000
local macro_rules | `(tactic| walk_at "ne") => `(tactic| first | assumption | (apply Ne.symm; assumption) | exact L2.ne_of_none (by assumption) (by assumption) | exact Ne.symm (L2.ne_of_none (by assumption) (by assumption)))
local macro_rules | `(tactic| walk_at "hl") => `(tactic| first | assumption | exact L2.upd_same | (refine Eq.trans (L2.upd_ne (by walk_at "ne")) ?_; walk_at "hl"))
local macro_rules | `(tactic| walk_at "sd") => `(tactic| first | (with_reducible show (_ : Int) < _; omega) | (with_reducible show (_ : Int) ≤ _; omega) | assumption | decide | exact ⟨by assumption, by assumption⟩ | exact ⟨by decide, by decide⟩ | exact Or.inr ⟨by decide, by decide⟩ | exact Or.inl ⟨by omega, by omega⟩ | rfl)
local macro_rules | `(tactic| walk_at "st1") => `(tactic| first
  | refine ⟨_, rfl, ?_⟩
  | refine ⟨_, _, rfl, rfl, ?_⟩
  | refine ⟨_, _, rfl, ?_⟩
  | (refine ⟨_, _, _, _, rfl, rfl, L2.SqL.of (by walk_at "hl"), rfl, ?_⟩)
  | (refine ⟨_, _, _, _, rfl, rfl, L2.SqT.of (by walk_at "hl"), rfl, ?_⟩)
  | (refine ⟨_, _, _, _, rfl, rfl, (by walk_at "hl"), rfl, ?_⟩)
  | (refine And.intro (by walk_at "sd") ?_)
  )
local macro_rules | `(tactic| walk_at "st") => `(tactic| repeat walk_at "st1")
local macro_rules | `(tactic| walk_at "op") => `(tactic| try dsimp only [L2.tSeq, L2.tAsg, L2.tOp, L2.tVar, L2.tC, L2.gSub, L2.rI, L2.rI0, L2.rIxL, L2.rIxT, L2.rSetL, L2.tIfS, L2.tTest, L2.tRet, L2.gName, L2.tNext, L2.tAnd, L2.tOr, L2.tNot, L2.tAndV, L2.tOrV, L2.tNotV, L2.tB, L2.tCB, L2.tCons, L2.tNil, L2.tCall, L2.tTup, L2.tLst, L2.tChain, L2.tUn, L2.tPar, L2.tDrop, L2.tIf, L2.tBM, L2.tBM0, L2.rAppend, L2.rCat, L2.rIsi, L2.rIsiT, L2.gTup, L2.gCons, L2.gNil, Fm.tFor_eq, Fm.tLc_eq, Fm.tLc2_eq, L2.iTup, L2.iList, L2.iRng1, L2.iRng2, L2.tSl, L2.tPart, L2.tNoPart, L2.rSlL, L2.rEq, L2.rNe, L2.rU, L2.rEqD, L2.rNeD, Fm.tRevT, Fm.rLenS, Fm.rTupOf, Fm.rLstOf, L2.tDNewK, L2.tCallS, L2.WE, Fm.wKeep, Fm.rIsK, Fm.rIsKT, List.cons_append, List.nil_append, L2.tYes])
namespace Fm
open PySem PySem.Spec PyProof.Rows L2
section
variable {P : Program} {w : World} {K : PySem.W.Frag} {mg : Str → Option Value} {base : Heap}

end
end Fm
end FKB
section FGO
set_option Elab.async false
set_option linter.all false
set_option maxRecDepth 100000
set_option maxHeartbeats 4000000
local macro_rules | `(tactic| walk_at "ne") => `(tactic| first | assumption | (apply Ne.symm; assumption) | exact L2.ne_of_none (by assumption) (by assumption) | exact Ne.symm (L2.ne_of_none (by assumption) (by assumption)))
local macro_rules | `(tactic| walk_at "hl") => `(tactic| first | assumption | exact L2.upd_same | (refine Eq.trans (L2.upd_ne (by walk_at "ne")) ?_; walk_at "hl"))
local macro_rules | `(tactic| walk_at "sd") => `(tactic| first | (with_reducible show (_ : Int) < _; omega) | (with_reducible show (_ : Int) ≤ _; omega) | assumption | decide | exact ⟨by assumption, by assumption⟩ | exact ⟨by decide, by decide⟩ | exact Or.inr ⟨by decide, by decide⟩ | exact Or.inl ⟨by omega, by omega⟩ | rfl)
local macro_rules | `(tactic| walk_at "st1") => `(tactic| first
  | refine ⟨_, rfl, ?_⟩
  | refine ⟨_, _, rfl, rfl, ?_⟩
  | refine ⟨_, _, rfl, ?_⟩
  | (refine ⟨_, _, _, _, rfl, rfl, L2.SqL.of (by walk_at "hl"), rfl, ?_⟩)
  | (refine ⟨_, _, _, _, rfl, rfl, L2.SqT.of (by walk_at "hl"), rfl, ?_⟩)
  | (refine ⟨_, _, _, _, rfl, rfl, (by walk_at "hl"), rfl, ?_⟩)
  | (refine And.intro (by walk_at "sd") ?_)
  )
local macro_rules | `(tactic| walk_at "st") => `(tactic| repeat walk_at "st1")
local macro_rules | `(tactic| walk_at "op") => `(tactic| try dsimp only [L2.tSeq, L2.tAsg, L2.tOp, L2.tVar, L2.tC, L2.gSub, L2.rI, L2.rI0, L2.rIxL, L2.rIxT, L2.rSetL, L2.tIfS, L2.tTest, L2.tRet, L2.gName, L2.tNext, L2.tAnd, L2.tOr, L2.tNot, L2.tAndV, L2.tOrV, L2.tNotV, L2.tB, L2.tCB, L2.tCons, L2.tNil, L2.tCall, L2.tTup, L2.tLst, L2.tChain, L2.tUn, L2.tPar, L2.tDrop, L2.tIf, L2.tBM, L2.tBM0, L2.rAppend, L2.rCat, L2.rIsi, L2.rIsiT, L2.gTup, L2.gCons, L2.gNil, Fm.tFor_eq, Fm.tLc_eq, Fm.tLc2_eq, L2.iTup, L2.iList, L2.iRng1, L2.iRng2, L2.tSl, L2.tPart, L2.tNoPart, L2.rSlL, L2.rEq, L2.rNe, L2.rU, L2.rEqD, L2.rNeD, Fm.tRevT, Fm.rLenS, Fm.rTupOf, Fm.rLstOf, L2.tDNewK, L2.tCallS, L2.WE, Fm.wKeep, Fm.rIsK, Fm.rIsKT, List.cons_append, List.nil_append, L2.tYes])
namespace Fm
open PySem PySem.Spec PyProof.Rows L2
section
variable {P : Program} {w : World} {K : PySem.W.Frag} {mg : Str → Option Value} {base : Heap}
/-! ### behind a meeting -/

end
end Fm
end FGO
section FFmLcN
set_option Elab.async false
set_option linter.all false
set_option maxRecDepth 100000
set_option maxHeartbeats 4000000
namespace Fm
open PySem PySem.Spec PyProof.Rows L2
/-! ### list comprehensions of any number of clauses without tests, clause by clause from the last one -/
/-- the turn of clause k; code: what stands behind the store -/
def TurnIs (L : Expr) (k : Nat) (tg ik : Expr) (env : Env) (acc : Value) (code : Sem Fin → Sem Fin) : Prop := ∀ it : Value, compTurn L k it acc env = (do
  standAt ik.pos
  match ← pyNext it with
  | none => pure (.done .next)
  | some v => do
    letOwnedTupleGo tg it v
    assign tg env v
    code (again (.compLoop L k it acc env)))
/-- a further clause's start -/
def stepIn (L : Expr) (k : Nat) (ik : Expr) (env : Env) (acc : Value) (next : Sem Fin) : Sem Fin := do
  let x ← eval ik env
  standAt ik.pos
  let x ← foldedSetIterable ik env x
  let _ ← runOwn (.compStart L k (← holding [x] (pyIter x)) acc env) env
  next
/-- the item's end -/
def stepLeaf (elt : Expr) (env : Env) (acc : Value) (next : Sem Fin) : Sem Fin := do
  (do let _ ← call (.builtin "list.append") [acc, ← eval elt env])
  next
abbrev LvT := Addr → L2.St → Hp → (Hp → Prop) → Prop
def bLeaf (te : TE) : LvT := fun D σ H Nx => te σ H fun y H1 => ∃ acc, H1 D = some (.lst acc) ∧ acc.length < sizeLine ∧ Nx (upd H1 D (.lst (acc ++ [y])))
def bIn (wi : TI) (g : TG) (vs : List Nat) (b : LvT) : LvT := fun D σ H Nx => wi σ H fun J H1 => ∃ W : Nat → Nat → Hp → Prop, (∃ m, W 0 m H1) ∧ ∀ j m G, W j m G →
  (J.stop j G ∧ Nx G) ∨ (J.go j G ∧ ∃ Nx1 : Hp → Prop, (∀ G', Nx1 G' → ∃ m', m' < m ∧ W (j + 1) m' G') ∧ ∀ x G', J.yld j G x G' → g x (wipe σ vs) G' fun σ2 G2 => wipe σ2 vs = wipe σ vs ∧ b D σ2 G2 Nx1)
def tLcN (wi : TI) (g : TG) (vs : List Nat) (b : LvT) : TE := fun σ H Q => wi σ H fun J H1 => ∀ D, H1 D = none → ∃ W : Nat → Nat → Hp → Prop, (∃ m, W 0 m (upd H1 D (.lst []))) ∧ ∀ j m G, W j m G →
  (J.stop j G ∧ Q (.ref D) G) ∨ (J.go j G ∧ ∃ Nx1 : Hp → Prop, (∀ G', Nx1 G' → ∃ m', m' < m ∧ W (j + 1) m' G') ∧ ∀ x G', J.yld j G x G' → g x (wipe σ vs) G' fun σ2 G2 => wipe σ2 vs = wipe σ vs ∧ b D σ2 G2 Nx1)
section
variable {prog : Program} {w : World} {A : Around} {R : Result → Shared → Prop} {elt : Expr} {gens : List Comprehension} {scope : Scope} {pos : Pos} {k : Nat} {tg ik : Expr} {env : Env} {acc it : Value} {code : Sem Fin → Sem Fin}
theorem loop_by (T : TurnIs (.ListComp elt gens scope pos) k tg ik env acc code) (W : Nat → Shared → Prop)
    (turn : ∀ n s, W n s → wpAny (model prog w) A (pyNext it) (fun r s1 => match r with
      | none => R (.ok .next) s1
      | some v => wpAny (model prog w) A (letOwnedTupleGo tg it v) (fun _ s2 => wpAny (model prog w) A (assign tg env v) (fun _ s3 => wpAny (model prog w) A (code (again (.compLoop (.ListComp elt gens scope pos) k it acc env))) (fun f s4 => f = .again (.compLoop (.ListComp elt gens scope pos) k it acc env) ∧ ∃ m, m < n ∧ W m s4) (fun _ _ => False) s3) (fun _ _ => False) s2) (fun _ _ => False) s1) (fun _ _ => False) s)
    (n : Nat) {s : Shared} (h : W n s) : codeAny (model prog w) A (.compLoop (.ListComp elt gens scope pos) k it acc env) R s := by
  refine codeAny_loop rfl W (fun n s hW => ?_) n h
  show wpAny _ A ((compTurn (.ListComp elt gens scope pos) k it acc env).onRaise _) _ _ s
  refine wpAny_noted ?_
  rw [T it]
  refine wpAny_bind (wpAny_standAt (wpAny_bind (thnF (turn n s hW) fun r s1 q1 => ?_)))
  cases r with
  | none => exact wpAny_pure q1
  | some v => exact wpAny_bind (thnF q1 fun _ s2 q2 => wpAny_bind (thnF q2 fun _ s3 q3 => thnF q3 fun f s4 ⟨e, q4⟩ => by subst e; exact ⟨rfl, q4⟩))
/-- a clause's loop is started: the iterator is its own -/
theorem start_by (h0 : codeAny (model prog w) A (.compLoop (.ListComp elt gens scope pos) k it acc env) R s) (ha : ((clausesOf (.ListComp elt gens scope pos))[k]?).elim false (·.is_async != 0) = false)
    (h1 : wpAny (model prog w) A (pyIter it) (fun v s1 => v = it ∧ codeAny (model prog w) A (.compLoop (.ListComp elt gens scope pos) k it acc env) R s1) (fun _ _ => False) s) : codeAny (model prog w) A (.compStart (.ListComp elt gens scope pos) k it acc env) R s := by
  refine codeAny_of_tree ?_
  show wpAny _ _ ((compStart (.ListComp elt gens scope pos) k it acc env).onRaise _) _ _ s
  refine wpAny_notedAt ?_
  unfold compStart
  rw [ha]
  show wpAny _ _ (ask >>= _) _ _ s
  have fin : ∀ s', wpAny (model prog w) A (pyIter it) (fun v s1 => v = it ∧ codeAny (model prog w) A (.compLoop (.ListComp elt gens scope pos) k it acc env) R s1) (fun _ _ => False) s' →
      wpAny (model prog w) A (do let v ← pyIter it; again (.compLoop (.ListComp elt gens scope pos) k v acc env)) (fun fin s' => match fin with | .done f => R (.ok f) s' | .again c' => c'.quiet = true ∧ codeAny (model prog w) A c' R s') (fun _ _ => False) s' := fun s' q =>
    wpAny_bind (thnF q fun v s1 ⟨e, c⟩ => by subst e; exact wpAny_pure ⟨rfl, c⟩)
  refine wpAny_bind (wpAny_askSetting (wpAny_ite ?_))
  split
  · first
      | exact wpAny_pure (And.intro rfl h0)
      | exact wpAny_bind (wpAny_pure (wpAny_pure (And.intro rfl h0)))
  · refine wpAny_bind (wpAny_rule ?_)
    cases (clausesOf (.ListComp elt gens scope pos))[k]? with
    | none =>
      refine wpAny_mono (Q := fun fin s' => match fin with | .done f => R (.ok f) s' | .again c' => c'.quiet = true ∧ codeAny (model prog w) A c' R s') (E := fun _ _ => False) ?_ (fun _ _ q => q) (fun _ _ z => z.elim)
      first
        | exact fin _ h1
        | exact wpAny_bind (wpAny_pure (fin _ h1))
    | some g =>
      refine wpAny_mono (Q := fun fin s' => match fin with | .done f => R (.ok f) s' | .again c' => c'.quiet = true ∧ codeAny (model prog w) A c' R s') (E := fun _ _ => False) ?_ (fun _ _ q => q) (fun _ _ z => z.elim)
      first
        | exact wpAny_bind (wpAny_standAt (fin _ h1))
        | (show wpAny _ _ (standAt g.iter.pos >>= _) _ _ _; exact wpAny_bind (wpAny_standAt (fin _ h1)))
end
/-- what stands behind a store: it goes on where Nx holds -/
def BdOk (X : Cx) (code : Sem Fin → Sem Fin) (b : L2.St → Hp → (Hp → Prop) → Prop) (vs' : List Nat) : Prop :=
  ∀ (pins : List (Addr × Obj)) (s : Shared) (σ : L2.St) (H : Hp) (Nx : Hp → Prop) (next : Sem Fin) (Qn : Fin → Shared → Prop), Inv X pins σ H s → b σ H Nx →
    (∀ s' H', Inv X pins (wipe σ vs') H' s' → Nx H' → wpAny (model X.prog X.w) X.A next Qn (fun _ _ => False) s') → wpAny (model X.prog X.w) X.A (code next) Qn (fun _ _ => False) s
/-- the loop of one clause, in its block -/
theorem run_lv {X : Cx} {pins : List (Addr × Obj)} {σ : L2.St} {H : Hp} {s : Shared} {R : Result → Shared → Prop} {elt : Expr} {gens : List Comprehension} {scope : Scope} {pos : Pos} {k : Nat} {tg ik : Expr} {D it : Addr} {code : Sem Fin → Sem Fin} {vs vs' : List Nat} {g : TG} {b : LvT} {J : It} {fp : List Addr} {tn : Nat → Heap → Prop}
    {W : Nat → Nat → Hp → Prop} {Nx : Hp → Prop} {m0 : Nat} (hc : X.calm = true) (hxe : X.xe = fun _ _ => False) (TI : TurnIs (.ListComp elt gens scope pos) k tg ik X.env (.ref D) code) (pg : PG X tg g)
    (bd : BdOk X code (b D) vs') (hvs : ∀ i ∈ vs', i ∈ vs)
    (T : Turn X.prog X.w X.K tg J fp it tn) (hf : ∀ a ∈ fp, ∀ H', H' a = none → FpOk X pins H' a) (I : Inv X pins (wipe σ vs) H s) (st : tn 0 s.heap) (nf : ∀ a ∈ fp, H a = none) (w0 : W 0 m0 H)
    (turn : ∀ j m G, W j m G → (J.stop j G ∧ Nx G) ∨ (J.go j G ∧ ∃ Nx1 : Hp → Prop, (∀ G', Nx1 G' → ∃ m', m' < m ∧ W (j + 1) m' G') ∧ ∀ x G', J.yld j G x G' → g x (wipe σ vs) G' fun σ2 G2 => wipe σ2 vs = wipe σ vs ∧ b D σ2 G2 Nx1))
    (hR : ∀ s' H', Inv X pins (wipe σ vs) H' s' → Nx H' → R (.ok .next) s') : codeAny (model X.prog X.w) X.A (.compLoop (.ListComp elt gens scope pos) k (.ref it) (.ref D) X.env) R s := by
  refine loop_by TI (fun n s' => ∃ j H', Inv X pins (wipe σ vs) H' s' ∧ tn j s'.heap ∧ (∀ a ∈ fp, H' a = none) ∧ W j n H') (fun n s1 hW => ?_) m0 ⟨0, H, I, st, nf, w0⟩
  obtain ⟨j, H1, I1, st1, nf1, w1⟩ := hW
  rcases turn j n H1 w1 with ⟨hs, nx⟩ | ⟨hg, Nx1, hN, step⟩
  · refine thnF (T.done X rfl rfl rfl hc j pins s1 _ H1 (fun _ _ => False) I1 (fun a ha => hf a ha H1 (nf1 a ha)) st1 hs) fun r s2 ⟨hr, I2⟩ => ?_
    subst hr
    exact hR s2 H1 I2 nx
  · refine thnF (T.item X rfl rfl rfl hc j pins s1 _ H1 (fun _ _ => False) I1 (fun a ha => hf a ha H1 (nf1 a ha)) st1 hg) fun r s2 ⟨u, hr, h2⟩ => ?_
    subst hr
    refine thnF h2 fun _ s3 ⟨x, H3, I3, r3, y3, st3, nf3⟩ => ?_
    have P3 := I3.pinned (fun a ha => hf a ha H3 (nf3 a ha)) (T.obj _ _ st3)
    have pgr := pg.run _ s3 _ H3 x u _ P3 r3 (step x H3 y3)
    rw [hxe] at pgr
    refine thnF pgr fun _ s4 ⟨σ4, H4, I4, hw, q4⟩ => ?_
    refine bd _ s4 σ4 H4 Nx1 _ _ I4 q4 fun s5 H5 I5 n5 => wpAny_pure ⟨rfl, ?_⟩
    obtain ⟨m', hm, w'⟩ := hN H5 n5
    have kept : ∀ a ∈ fp, ∀ o, s3.heap.get? a = some o → s5.heap.get? a = some o ∧ H5 a = none := fun a ha o e => by
      have z := I5.pin (a, o) (List.mem_append_right _ (List.mem_append_right _ (mem_pinsAt ha e)))
      exact ⟨z.1, z.2.1⟩
    refine ⟨m', hm, j + 1, H5, I5.unpinned.weak ?_ (fun i v e => ?_), T.keep _ _ _ st3 fun a ha o e => (kept a ha o e).1, fun a ha => ?_, w'⟩
    · rw [wipe_length, wipe_length, ← wipe_length σ4 vs, hw, wipe_length]
    · rw [← hw] at e
      obtain ⟨e1, e2⟩ := wipe_some e
      rw [wipe_out fun z => e2 (hvs i z)]
      exact e1
    · obtain ⟨o, e, _⟩ := T.obj _ _ st3 a ha
      exact (kept a ha o e).2
/-- a further clause: its source, then its loop -/
theorem lv_in {X : Cx} {elt : Expr} {gens : List Comprehension} {scope : Scope} {pos : Pos} {k : Nat} {tg ik : Expr} {D : Addr} {code : Sem Fin → Sem Fin} {vs vs' : List Nat} {wi : TI} {g : TG} {b : LvT} (hc : X.calm = true) (hxe : X.xe = fun _ _ => False)
    (TI : TurnIs (.ListComp elt gens scope pos) k tg ik X.env (.ref D) code) (pi : PI X tg ik wi) (pg : PG X tg g)
    (bd : BdOk X code (b D) vs') (hvs : ∀ i ∈ vs', i ∈ vs)
    (hs : ∀ x, foldedSetIterable ik X.env x = pure x) (ha : ((clausesOf (.ListComp elt gens scope pos))[k]?).elim false (·.is_async != 0) = false) :
    BdOk X (stepIn (.ListComp elt gens scope pos) k ik X.env (.ref D)) (bIn wi g vs b D) vs := by
  intro pins s σ H Nx next Qn I h hn
  have r0 := pi.run pins s σ H _ I h
  rw [hxe] at r0
  unfold stepIn
  refine wpAny_bind (thnF r0 fun x s1 hx => wpAny_bind (wpAny_standAt (wpAny_bind (wpAny_of_eq (hs x) (wpAny_bind (wpAny_holding (thnF hx fun itv s2 h2 => ?_)))))))
  obtain ⟨it, fp, tn, J, H2, e, I2, T, st2, f2, W, ⟨m1, w1⟩, turn⟩ := h2
  subst e
  have nf : ∀ a ∈ fp, H2 a = none := fun a ha => (f2 a ha).1
  have loop := run_lv (R := fun r s' => ∃ f, r = .ok f ∧ ∃ H', Inv X pins (wipe σ vs) H' s' ∧ Nx H') (s := s2) (H := H2) (σ := σ) hc hxe TI pg bd hvs T (fun a ha H' z => ⟨z, (f2 a ha).2⟩) (I2.weak (wipe_length _ _) fun j v e => (wipe_some e).1) st2 nf w1 turn (fun s' H' I' n => ⟨_, rfl, H', I', n⟩)
  refine wpAny_bind (wpAny_runOwn ?_)
  rw [Around.mark_none]
  refine codeAny_mono (start_by loop ha (T.self X.A 0 s2 _ _ st2 ⟨rfl, loop⟩)) fun r s' hr => ?_
  obtain ⟨f, rfl, H', I', n⟩ := hr
  exact hn s' H' I' n
/-- the item -/
theorem lv_leaf {X : Cx} {elt : Expr} {te : TE} {D : Addr} (hxe : X.xe = fun _ _ => False) (pe : PE X elt te) :
    BdOk X (stepLeaf elt X.env (.ref D)) (bLeaf te D) [] := by
  intro pins s σ H Nx next Qn I h hn
  have r0 := pe.run pins s σ H _ I h
  rw [hxe] at r0
  unfold stepLeaf
  refine wpAny_bind (wpAny_bind (thnF r0 fun u s1 ⟨y, H1, I1, r1, acc, hD, hz, nx⟩ => wpAny_bind ?_))
  exact app_ok I1 hD hz r1 fun s2 I2 => wpAny_pure (hn s2 _ I2 nx)
/-- the whole -/
theorem pe_lcN {X : Cx} {elt tg iter : Expr} {rest : List Comprehension} {scope : Scope} {own : List (Str × Nat)} {pos : Pos} {wi : TI} {g : TG} {b : LvT} {vs' : List Nat} {code : Env → Addr → Sem Fin → Sem Fin} (hc : X.calm = true) (hN : X.N.Nodup) (hi : PI X tg iter wi) (ok : BlkOk X.N X.env.scope scope own)
    (hg : ∀ (s : Shared) (H : Hp) (C : Addr) (cl : List (Str × Addr)) (fp : List Addr), PG (X.blk s H scope (compEnvC scope cl C X.env) fp) tg g)
    (TI : ∀ (env : Env) (D : Addr), TurnIs (.ListComp elt (⟨tg, iter, [], 0⟩ :: rest) scope pos) 0 tg iter env (.ref D) (code env D)) (hvs : ∀ i ∈ vs', i ∈ own.map (·.2))
    (bd : ∀ (s : Shared) (H : Hp) (C : Addr) (cl : List (Str × Addr)) (fp : List Addr) (D : Addr), BdOk (X.blk s H scope (compEnvC scope cl C X.env) fp) (code (compEnvC scope cl C X.env) D) (b D) vs')
    (hs : ∀ x, foldedSetIterable iter X.env x = pure x := by intro _; rfl) : PE X (.ListComp elt (⟨tg, iter, [], 0⟩ :: rest) scope pos) (tLcN wi g (own.map (·.2)) b) := by
  refine ⟨fun pins s σ H Q I h => ?_⟩
  rw [eval_ListComp]
  have hfree : ∀ y ∈ scope.names, y.2 = .free → ∃ c, X.env.cells.lookup y.1 = some c := fun y hy e => I.ok.has _ (ok.free y hy e)
  refine wpAny_comprehension_free (use := none) rfl hs (closure_ok hfree) ok.kind (fun y hy e => (ok.uniq y hy).trans (by rw [e])) (thn (hi.run pins s σ H _ I h) fun xv s1 hx => thn hx fun itv s2 h2 => ?_)
  obtain ⟨it, fp, tn, J, H2, e, I2, T, st2, f2, q⟩ := h2
  subst e
  refine wpAny_newObj_type (newEnv_comp ?_) (show 0 ≤ sizeLine by omega)
  generalize hD : s2.heap.objs.size = D
  have nD : H2 D = none := I2.hok.fresh (Nat.le_of_eq hD)
  obtain ⟨W, ⟨m0, w0⟩, turn⟩ := q D nD
  have older : ∀ a ∈ fp, a < s2.heap.objs.size := fun a ha => by
    obtain ⟨o, e, _⟩ := T.obj _ _ st2 a ha
    exact Heap.lt_size e
  generalize eL : ({ s2 with heap := s2.heap.push { cls := .type "list", data := .seq ([] : List Value).toArray } } : Shared) = t3
  have hL : t3.heap = s2.heap.push { cls := .type "list", data := .seq ([] : List Value).toArray } := by rw [← eL]
  have I3 : Inv X pins σ (upd H2 D (.lst [])) t3 := by
    subst eL
    exact I2.laid (t' := s2.toks) (fun a o e => Heap.get?_push_of_some _ e) (Nat.le_of_eq hD) ⟨Nat.zero_le _, [], 0, .nil, by rw [← hD]; exact Heap.get?_push_size _ rfl⟩
  have F3 : ∀ a ∈ fp, FpOk X pins (upd H2 D (.lst [])) a ∧ a < t3.heap.objs.size := fun a ha => by
    have lt := older a ha
    refine ⟨⟨?_, (f2 a ha).2⟩, by rw [hL, Heap.size_push]; exact Nat.lt_succ_of_lt lt⟩
    rw [upd_ne (by rw [← hD]; exact Nat.ne_of_lt lt)]
    exact (f2 a ha).1
  have B := block_start I3 ok hN F3
  have N3 : ∀ a ∈ fp, upd H2 D (.lst []) a = none := fun a ha => (F3 a ha).1.1
  show codeAny _ _ (.compStart (.ListComp elt (⟨tg, iter, [], 0⟩ :: rest) scope pos) 0 (.ref it) (.ref D) (compEnvC scope (cellsFrom (t3.heap.objs.size + 1) scope.names (cloFrom X.env.cells scope.names [])) t3.heap.objs.size X.env)) (compPost (model X.prog X.w) X.A X.xe none _ (.ref D) t3.heap.objs.size) { t3 with heap := pushCells (t3.heap.push { cls := .type "dict", data := .dict #[] }) scope.names }
  have pgB := hg t3 (upd H2 D (.lst [])) t3.heap.objs.size (cellsFrom (t3.heap.objs.size + 1) scope.names (cloFrom X.env.cells scope.names [])) fp
  have bdB := bd t3 (upd H2 D (.lst [])) t3.heap.objs.size (cellsFrom (t3.heap.objs.size + 1) scope.names (cloFrom X.env.cells scope.names [])) fp D
  generalize eC : compEnvC scope (cellsFrom (t3.heap.objs.size + 1) scope.names (cloFrom X.env.cells scope.names [])) t3.heap.objs.size X.env = ce at B pgB bdB ⊢
  have hce : ce.locals = t3.heap.objs.size := by rw [← eC]; rfl
  have st4 : tn 0 (pushCells (t3.heap.push { cls := .type "dict", data := .dict #[] }) scope.names) := T.keep _ _ _ st2 fun a _ o e => pushCells_keeps _ _ _ _ (Heap.get?_push_of_some _ (by rw [hL]; exact Heap.get?_push_of_some _ e))
  have loop := run_lv (X := X.blk t3 (upd H2 D (.lst [])) scope ce fp) (R := compPost (model X.prog X.w) X.A X.xe none (EP X pins σ Q) (.ref D) t3.heap.objs.size) (σ := σ) (vs := own.map (·.2)) (g := g) (b := b) (Nx := fun G => Q (.ref D) G) (m0 := m0) hc rfl (TI ce D) pgB bdB hvs T
    (fun a ha H' z => ⟨z, (B.ok.exf a ha).1, B.ok.exfs a ha, .inl ha, fun x c e => (B.ok.exf a ha).2 x c e, fun p hp => by cases hp⟩) B st4 N3 w0 turn (fun s' H' I' hq => ?_)
  · exact start_by loop rfl (T.self X.A 0 _ _ _ st4 ⟨rfl, loop⟩)
  · have back : Inv X pins σ H' s' := I3.call' (ch := fp) I'.os I'.base I'.hok I'.bare fun a ha => ⟨(F3 a ha).1.2.2.2.1, (F3 a ha).1.2.1, (F3 a ha).1.2.2.2.2.1, (F3 a ha).1.2.2.2.2.2⟩
    obtain ⟨m, hm, _⟩ := I'.loc
    have hm : s'.heap.Ns ce.locals m := hm
    have free : H' ce.locals = none := I'.free
    rw [hce] at hm free
    refine ⟨m, hm, fun h2 sb => ?_⟩
    obtain ⟨z0, z1, z2, z3, z4, z5⟩ := I3.fpOk (Nat.le_refl _) free
    exact ⟨.ref D, H', back.turned (t' := s'.toks) (fun a o ha e => (sb.2 a ha).trans e) z0 z1 z3 z4 z5, rfl, hq⟩
/-- three clauses -/
theorem pe_lc3 {X : Cx} {elt t0 i0 t1 i1 t2 i2 : Expr} {scope : Scope} {own : List (Str × Nat)} {pos : Pos} {w0 w1 w2 : TI} {g0 g1 g2 : TG} {te : TE} {vs1 vs2 : List Nat} (hc : X.calm = true) (hN : X.N.Nodup) (ok : BlkOk X.N X.env.scope scope own) (hv1 : ∀ i ∈ vs1, i ∈ own.map (·.2)) (hv2 : ∀ i ∈ vs2, i ∈ vs1)
    (h0 : PI X t0 i0 w0) (hg0 : ∀ (s : Shared) (H : Hp) (C : Addr) (cl : List (Str × Addr)) (fp : List Addr), PG (X.blk s H scope (compEnvC scope cl C X.env) fp) t0 g0)
    (h1 : ∀ (s : Shared) (H : Hp) (C : Addr) (cl : List (Str × Addr)) (fp : List Addr), PI (X.blk s H scope (compEnvC scope cl C X.env) fp) t1 i1 w1) (hg1 : ∀ (s : Shared) (H : Hp) (C : Addr) (cl : List (Str × Addr)) (fp : List Addr), PG (X.blk s H scope (compEnvC scope cl C X.env) fp) t1 g1)
    (h2 : ∀ (s : Shared) (H : Hp) (C : Addr) (cl : List (Str × Addr)) (fp : List Addr), PI (X.blk s H scope (compEnvC scope cl C X.env) fp) t2 i2 w2) (hg2 : ∀ (s : Shared) (H : Hp) (C : Addr) (cl : List (Str × Addr)) (fp : List Addr), PG (X.blk s H scope (compEnvC scope cl C X.env) fp) t2 g2)
    (he : ∀ (s : Shared) (H : Hp) (C : Addr) (cl : List (Str × Addr)) (fp : List Addr), PE (X.blk s H scope (compEnvC scope cl C X.env) fp) elt te)
    (s0 : ∀ x, foldedSetIterable i0 X.env x = pure x := by intro _; rfl) (s1 : ∀ env x, foldedSetIterable i1 env x = pure x := by intro _ _; rfl) (s2 : ∀ env x, foldedSetIterable i2 env x = pure x := by intro _ _; rfl) :
    PE X (.ListComp elt [⟨t0, i0, [], 0⟩, ⟨t1, i1, [], 0⟩, ⟨t2, i2, [], 0⟩] scope pos) (tLcN w0 g0 (own.map (·.2)) (bIn w1 g1 vs1 (bIn w2 g2 vs2 (bLeaf te)))) :=
  pe_lcN (code := fun env D => stepIn (.ListComp elt [⟨t0, i0, [], 0⟩, ⟨t1, i1, [], 0⟩, ⟨t2, i2, [], 0⟩] scope pos) 1 i1 env (.ref D)) hc hN h0 ok hg0 (fun env D it => rfl) hv1 (fun s H C cl fp D =>
    lv_in (code := stepIn (.ListComp elt [⟨t0, i0, [], 0⟩, ⟨t1, i1, [], 0⟩, ⟨t2, i2, [], 0⟩] scope pos) 2 i2 (compEnvC scope cl C X.env) (.ref D)) hc rfl (fun it => rfl) (h1 s H C cl fp) (hg1 s H C cl fp)
      (lv_in (code := stepLeaf elt (compEnvC scope cl C X.env) (.ref D)) hc rfl (fun it => rfl) (h2 s H C cl fp) (hg2 s H C cl fp) (lv_leaf rfl (he s H C cl fp)) (fun i hi => by cases hi) (s2 _) rfl) hv2 (s1 _) rfl) s0
section
variable {J : It} {n : Nat} {G : Hp → Prop} {Y : Nat → Hp → V → Hp → Prop}
/-- the walk of the first clause -/
theorem cN (w : Walk J n G Y) {g : TG} {vs : List Nat} {b : LvT} {σ : L2.St} {H1 : Hp} {D : Addr} {Q : VK} (Pv : Nat → Hp → Prop) (h0 : Pv 0 (upd H1 D (.lst []))) (hG : ∀ i H, i ≤ n → Pv i H → G H)
    (hs : ∀ i x H H', i < n → Pv i H → Y i H x H' → g x (wipe σ vs) H' fun σ2 H2 => wipe σ2 vs = wipe σ vs ∧ b D σ2 H2 (Pv (i + 1))) (hd : ∀ H, Pv n H → Q (.ref D) H) :
    ∃ W : Nat → Nat → Hp → Prop, (∃ m, W 0 m (upd H1 D (.lst []))) ∧ ∀ j m G, W j m G → (J.stop j G ∧ Q (.ref D) G) ∨ (J.go j G ∧ ∃ Nx1 : Hp → Prop, (∀ G', Nx1 G' → ∃ m', m' < m ∧ W (j + 1) m' G') ∧ ∀ x G', J.yld j G x G' → g x (wipe σ vs) G' fun σ2 G2 => wipe σ2 vs = wipe σ vs ∧ b D σ2 G2 Nx1) := by
  refine ⟨fun i m H => m = n - i ∧ i ≤ n ∧ Pv i H, ⟨n, by simp, Nat.zero_le _, h0⟩, ?_⟩
  rintro i m H ⟨rfl, hi, p⟩
  rcases Nat.lt_or_ge i n with hlt | hge
  · exact .inr ⟨w.goes i H hlt (hG i H hi p), Pv (i + 1), fun H' p' => ⟨n - (i + 1), by omega, rfl, hlt, p'⟩, fun x H' y => hs i x H H' hlt p (w.yields i H x H' hlt (hG i H hi p) y)⟩
  · obtain rfl : i = n := by omega
    exact .inl ⟨w.stops H (hG i H hi p), hd H p⟩
/-- .. of a further one -/
theorem cI (w : Walk J n G Y) {g : TG} {vs : List Nat} {b : LvT} {σ : L2.St} {H1 : Hp} {D : Addr} {Nx : Hp → Prop} (Pv : Nat → Hp → Prop) (h0 : Pv 0 H1) (hG : ∀ i H, i ≤ n → Pv i H → G H)
    (hs : ∀ i x H H', i < n → Pv i H → Y i H x H' → g x (wipe σ vs) H' fun σ2 H2 => wipe σ2 vs = wipe σ vs ∧ b D σ2 H2 (Pv (i + 1))) (hd : ∀ H, Pv n H → Nx H) :
    ∃ W : Nat → Nat → Hp → Prop, (∃ m, W 0 m H1) ∧ ∀ j m G, W j m G → (J.stop j G ∧ Nx G) ∨ (J.go j G ∧ ∃ Nx1 : Hp → Prop, (∀ G', Nx1 G' → ∃ m', m' < m ∧ W (j + 1) m' G') ∧ ∀ x G', J.yld j G x G' → g x (wipe σ vs) G' fun σ2 G2 => wipe σ2 vs = wipe σ vs ∧ b D σ2 G2 Nx1) := by
  refine ⟨fun i m H => m = n - i ∧ i ≤ n ∧ Pv i H, ⟨n, by simp, Nat.zero_le _, h0⟩, ?_⟩
  rintro i m H ⟨rfl, hi, p⟩
  rcases Nat.lt_or_ge i n with hlt | hge
  · exact .inr ⟨w.goes i H hlt (hG i H hi p), Pv (i + 1), fun H' p' => ⟨n - (i + 1), by omega, rfl, hlt, p'⟩, fun x H' y => hs i x H H' hlt p (w.yields i H x H' hlt (hG i H hi p) y)⟩
  · obtain rfl : i = n := by omega
    exact .inl ⟨w.stops H (hG i H hi p), hd H p⟩
end
end Fm
end FFmLcN
section FFmTupF
set_option Elab.async false
set_option linter.all false
set_option maxRecDepth 100000
set_option maxHeartbeats 4000000
namespace Fm
open PySem PySem.Spec PySem.Calls PyProof.Rows L2
/-- a tuple written out, its object told -/
def tTupF (t : TA) : TE := fun σ H Q => t σ H fun xs H1 => xs.length ≤ sizeLine ∧ ∀ p o, H1 p = none → o.dict = none → Q (.ref p) (upd H1 p (.frz o (.tup xs)))
theorem pe_tupF {X : Cx} {es : List Expr} {t : TA} {pos : Pos} {x1} (h : PA X es t) : PE X (.Tuple es x1 pos) (tTupF t) := by
  refine ⟨fun pins s σ H Q I hq => ?_⟩
  refine wpAny_Tuple_spliced (thn (h.run pos pins s σ H _ I hq) fun us s1 ⟨xs, H1, I1, r, z, q⟩ => ⟨by rw [← r.length]; exact z, ?_⟩)
  have hn : H1 s1.heap.objs.size = none := I1.hok.fresh (Nat.le_refl _)
  let ob : Obj := { cls := .type "tuple", data := .seq us.toArray }
  refine ⟨.ref s1.heap.objs.size, upd H1 s1.heap.objs.size (.frz ob (.tup xs)), I1.laid (t' := s1.toks) (fun b u e => Heap.get?_push_of_some _ e) (Nat.le_refl _) ?_, rfl, q _ ob hn rfl⟩
  exact ⟨Heap.get?_push_size _ rfl, z, us, r, ⟨_, Heap.get?_push_size _ rfl, rfl, _, rfl⟩⟩
end Fm
end FFmTupF
section FTH
set_option Elab.async false
set_option linter.all false
set_option maxRecDepth 100000
set_option maxHeartbeats 4000000
local macro_rules | `(tactic| walk_at "ne") => `(tactic| first | assumption | (apply Ne.symm; assumption) | exact L2.ne_of_none (by assumption) (by assumption) | exact Ne.symm (L2.ne_of_none (by assumption) (by assumption)))
local macro_rules | `(tactic| walk_at "hl") => `(tactic| first | assumption | exact L2.upd_same | (refine Eq.trans (L2.upd_ne (by walk_at "ne")) ?_; walk_at "hl"))
local macro_rules | `(tactic| walk_at "sd") => `(tactic| first | (with_reducible show (_ : Int) < _; omega) | (with_reducible show (_ : Int) ≤ _; omega) | assumption | decide | exact ⟨by assumption, by assumption⟩ | exact ⟨by decide, by decide⟩ | exact Or.inr ⟨by decide, by decide⟩ | exact Or.inl ⟨by omega, by omega⟩ | rfl)
local macro_rules | `(tactic| walk_at "st1") => `(tactic| first
  | refine ⟨_, rfl, ?_⟩
  | refine ⟨_, _, rfl, rfl, ?_⟩
  | refine ⟨_, _, rfl, ?_⟩
  | (refine ⟨_, _, _, _, rfl, rfl, L2.SqL.of (by walk_at "hl"), rfl, ?_⟩)
  | (refine ⟨_, _, _, _, rfl, rfl, L2.SqT.of (by walk_at "hl"), rfl, ?_⟩)
  | (refine ⟨_, _, _, _, rfl, rfl, (by walk_at "hl"), rfl, ?_⟩)
  | (refine And.intro (by walk_at "sd") ?_)
  )
local macro_rules | `(tactic| walk_at "st") => `(tactic| repeat walk_at "st1")
local macro_rules | `(tactic| walk_at "op") => `(tactic| try dsimp only [L2.tSeq, L2.tAsg, L2.tOp, L2.tVar, L2.tC, L2.gSub, L2.rI, L2.rI0, L2.rIxL, L2.rIxT, L2.rSetL, L2.tIfS, L2.tTest, L2.tRet, L2.gName, L2.tNext, L2.tAnd, L2.tOr, L2.tNot, L2.tAndV, L2.tOrV, L2.tNotV, L2.tB, L2.tCB, L2.tCons, L2.tNil, L2.tCall, L2.tTup, L2.tLst, L2.tChain, L2.tUn, L2.tPar, L2.tDrop, L2.tIf, L2.tBM, L2.tBM0, L2.rAppend, L2.rCat, L2.rIsi, L2.rIsiT, L2.gTup, L2.gCons, L2.gNil, Fm.tFor_eq, Fm.tLc_eq, Fm.tLc2_eq, L2.iTup, L2.iList, L2.iRng1, L2.iRng2, L2.tSl, L2.tPart, L2.tNoPart, L2.rSlL, L2.rEq, L2.rNe, L2.rU, L2.rEqD, L2.rNeD, Fm.tRevT, Fm.rLenS, Fm.rTupOf, Fm.rLstOf, L2.tDNewK, L2.tCallS, L2.WE, Fm.wKeep, Fm.rIsK, Fm.rIsKT, List.cons_append, List.nil_append, L2.tYes])
namespace Fm
open PySem PySem.Spec PyProof.Rows L2
section
variable {P : Program} {w : World} {K : PySem.W.Frag} {mg : Str → Option Value} {base : Heap}
def rowC (a b n : Nat) : List (Nat × Nat × Nat) := (List.range n).map fun k => (a, b, b + k)
def rowB (m a n : Nat) : List (Nat × Nat × Nat) := (List.range n).flatMap fun j => rowC a (a + j) (m - (a + j))
def thrN (m n : Nat) : List (Nat × Nat × Nat) := (List.range n).flatMap fun a => rowB m a (m - a)
def thr (m : Nat) : List (Nat × Nat × Nat) := thrN m m
theorem rowC_succ (a b n : Nat) : rowC a b (n + 1) = rowC a b n ++ [(a, b, b + n)] := by unfold rowC; rw [List.range_succ, List.map_append]; rfl
theorem rowB_succ (m a n : Nat) : rowB m a (n + 1) = rowB m a n ++ rowC a (a + n) (m - (a + n)) := by unfold rowB; rw [List.range_succ, List.flatMap_append, List.flatMap_singleton]
theorem thrN_succ (m n : Nat) : thrN m (n + 1) = thrN m n ++ rowB m n (m - n) := by unfold thrN; rw [List.range_succ, List.flatMap_append, List.flatMap_singleton]
theorem rowC_len (a b n : Nat) : (rowC a b n).length = n := by unfold rowC; rw [List.length_map, List.length_range]
theorem rowB_len {m : Nat} (hm : m ≤ 6) (a : Nat) : ∀ n, (rowB m a n).length ≤ n * 6
  | 0 => Nat.le_refl 0
  | n + 1 => by
    have := rowB_len hm a n
    rw [rowB_succ, List.length_append, rowC_len]
    omega
theorem thrN_len {m : Nat} (hm : m ≤ 6) : ∀ n, (thrN m n).length ≤ n * 36
  | 0 => Nat.le_refl 0
  | n + 1 => by
    have := thrN_len hm n
    have := rowB_len hm n (m - n)
    rw [thrN_succ, List.length_append]
    omega
theorem small1000 {n : Nat} (h : n ≤ 1000) : n < sizeLine := by rw [sizeLine_eq]; omega
theorem rowC_mem {a b n : Nat} {x : Nat × Nat × Nat} (h : x ∈ rowC a b n) : x.1 = a ∧ x.2.1 = b ∧ b ≤ x.2.2 ∧ x.2.2 < b + n := by
  unfold rowC at h
  obtain ⟨k, hk, rfl⟩ := List.mem_map.mp h
  have := List.mem_range.mp hk
  exact ⟨rfl, rfl, Nat.le_add_right _ _, by show b + k < b + n; omega⟩
theorem thr_mem {m : Nat} {x : Nat × Nat × Nat} (h : x ∈ thr m) : x.1 < m ∧ x.2.1 < m ∧ x.2.2 < m := by
  unfold thr thrN at h
  obtain ⟨a, ha, h⟩ := List.mem_flatMap.mp h
  unfold rowB at h
  obtain ⟨j, hj, h⟩ := List.mem_flatMap.mp h
  obtain ⟨h1, h2, h3, h4⟩ := rowC_mem h
  have := List.mem_range.mp ha
  have := List.mem_range.mp hj
  omega
/-- a three at v, its object told -/
def TF (H : Hp) (p : Addr) (v : V) (x : Nat × Nat × Nat) : Prop := ∃ (q : Addr) (o : Obj), v = .ref q ∧ H q = some (.frz o (.tup [.int (x.1 : Nat), .int (x.2.1 : Nat), .int (x.2.2 : Nat)])) ∧ o.dict = none ∧ q ≠ p
theorem TF.same {H H' : Hp} {p : Addr} {v : V} {x : Nat × Nat × Nat} (h : TF H p v x) (e : Same H H') : TF H' p v x := by
  obtain ⟨q, o, h1, h2, h3, h4⟩ := h
  exact ⟨q, o, h1, e _ _ h2, h3, h4⟩
theorem TF.setL {H : Hp} {p R : Addr} {v : V} {x : Nat × Nat × Nat} {xs ys : List V} (hR : H R = some (.lst xs)) (h : TF H p v x) : TF (upd H R (.lst ys)) p v x := by
  obtain ⟨q, o, h1, h2, h3, h4⟩ := h
  exact ⟨q, o, h1, by rw [upd_ne (fun z => by rw [z, hR] at h2; cases h2)]; exact h2, h3, h4⟩
theorem TF.fresh {H : Hp} {p q : Addr} {v : V} {x : Nat × Nat × Nat} (hq : H q = none) (h : TF H p v x) : TF H q v x := by
  obtain ⟨a, o, h1, h2, h3, h4⟩ := h
  exact ⟨a, o, h1, h2, h3, fun z => by rw [z, hq] at h2; cases h2⟩
def TFs (H : Hp) (p : Addr) (ws : List V) (l : List (Nat × Nat × Nat)) : Prop := ws.length = l.length ∧ ∀ (i : Nat) (x : V) (y : Nat × Nat × Nat), ws[i]? = some x → l[i]? = some y → TF H p x y
theorem TFs.nil {H : Hp} {p : Addr} : TFs H p [] [] := ⟨rfl, fun i x y a _ => by simp at a⟩
theorem TFs.same {H H' : Hp} {p : Addr} {ws : List V} {l : List (Nat × Nat × Nat)} (h : TFs H p ws l) (e : Same H H') : TFs H' p ws l := ⟨h.1, fun i x y a b => (h.2 i x y a b).same e⟩
theorem TFs.setL {H : Hp} {p R : Addr} {ws : List V} {l : List (Nat × Nat × Nat)} {xs ys : List V} (hR : H R = some (.lst xs)) (h : TFs H p ws l) : TFs (upd H R (.lst ys)) p ws l := ⟨h.1, fun i x y a b => (h.2 i x y a b).setL hR⟩
theorem TFs.snoc {H : Hp} {p : Addr} {ws : List V} {l : List (Nat × Nat × Nat)} {v : V} {z : Nat × Nat × Nat} (h : TFs H p ws l) (k : TF H p v z) : TFs H p (ws ++ [v]) (l ++ [z]) := by
  refine ⟨by rw [List.length_append, List.length_append, h.1]; rfl, fun i x y a b => ?_⟩
  by_cases hi : i < ws.length
  · rw [List.getElem?_append_left hi] at a
    rw [List.getElem?_append_left (by rw [← h.1]; exact hi)] at b
    exact h.2 i x y a b
  · have e : i = ws.length := by
      have := (List.getElem?_eq_some_iff.mp a).1
      rw [List.length_append, List.length_singleton] at this
      omega
    subst e
    rw [List.getElem?_append_right (Nat.le_refl _), Nat.sub_self] at a
    rw [List.getElem?_append_right (by rw [h.1]; exact Nat.le_refl _), h.1, Nat.sub_self] at b
    cases a
    cases b
    exact k
theorem TFs.at {H : Hp} {p : Addr} {ws : List V} {l : List (Nat × Nat × Nat)} {i : Nat} {x : V} (h : TFs H p ws l) (e : ws[i]? = some x) : ∃ y, l[i]? = some y ∧ TF H p x y := by
  have hi : i < l.length := by
    rw [← h.1]
    exact (List.getElem?_eq_some_iff.mp e).1
  exact ⟨l[i], List.getElem?_eq_getElem hi, h.2 i x _ e (List.getElem?_eq_getElem hi)⟩
def spThrees : Sp := fun vs H Q _ => ∃ (m : Nat) (p : Addr) (u : HO), vs = [.int (m : Nat)] ∧ m ≤ 6 ∧ H p = some u ∧ ∀ q ws H', H q = none → H' q = some (.lst ws) → TFs H' p ws (thr m) → Same H H' → Q (.ref q) H'
theorem pne_of {H : Hp} {p : Addr} {u : HO} (hp : H p = some u) {S : Addr} {G : Hp} (e : Same H G) (q : G S = none) : S ≠ p := fun z => by
  rw [z, e p u hp] at q
  cases q
def ords (x : Nat × Nat × Nat) : List (Nat × Nat × Nat) := [(x.1, x.2.1, x.2.2), (x.1, x.2.2, x.2.1), (x.2.1, x.2.2, x.1)]
def spOrders : Sp := fun vs H Q _ => ∃ (tv : V) (p : Addr) (u : HO) (x : Nat × Nat × Nat), vs = [tv] ∧ H p = some u ∧ TF H p tv x ∧ ∀ v H', Dat H' p v (.tuple ((ords x).map triD)) → Same H H' → Q v H'
end
end Fm
end FTH
section FFmConf
/-! People on floors, told by how many there are of each number: three who come to one end in any order are enough. Pure arithmetic, nothing of the model. -/
set_option linter.all false
namespace FmC
/-- how many people of each number on each floor -/
abbrev St := Nat → Nat → Nat
def plus (c d : St) : St := fun f a => c f a + d f a
/-- one person -/
def one (f a : Nat) : St := fun g b => if g = f ∧ b = a then 1 else 0
instance : Add St := ⟨plus⟩
theorem add_at (c d : St) (f a : Nat) : (c + d) f a = c f a + d f a := rfl
theorem add_ac (c d e : St) : c + d + e = c + (d + e) := by funext f a; simp only [add_at]; omega
theorem add_cm (c d : St) : c + d = d + c := by funext f a; simp only [add_at]; omega
theorem add_rc (c d e : St) : c + d + e = c + e + d := by funext f a; simp only [add_at]; omega
theorem one_self (f a : Nat) : one f a f a = 1 := by simp [one]
theorem one_ne {f a g b : Nat} (h : ¬ (g = f ∧ b = a)) : one f a g b = 0 := by simp [one, h]
/-- a person is here, or the other states agree -/
theorem swap {c d : St} {f a g b : Nat} (h : c + one f a = d + one g b) : (f = g ∧ a = b ∧ c = d) ∨ ∃ e : St, c = e + one g b ∧ d = e + one f a := by
  by_cases e : f = g ∧ a = b
  · refine .inl ⟨e.1, e.2, ?_⟩
    obtain ⟨rfl, rfl⟩ := e
    funext x y
    have := congrFun (congrFun h x) y
    simp only [add_at] at this
    omega
  · refine .inr ⟨fun x y => c x y - one g b x y, ?_, ?_⟩
    · funext x y
      have h1 := congrFun (congrFun h x) y
      simp only [add_at] at h1 ⊢
      by_cases k : x = g ∧ y = b
      · obtain ⟨rfl, rfl⟩ := k
        have : one f a x y = 0 := one_ne fun q => e ⟨q.1.symm, q.2.symm⟩
        have := one_self x y
        omega
      · have := one_ne (f := g) (a := b) k
        omega
    · funext x y
      have h1 := congrFun (congrFun h x) y
      simp only [add_at] at h1 ⊢
      by_cases k : x = g ∧ y = b
      · obtain ⟨rfl, rfl⟩ := k
        have : one f a x y = 0 := one_ne fun q => e ⟨q.1.symm, q.2.symm⟩
        have := one_self x y
        omega
      · have := one_ne (f := g) (a := b) k
        omega
section
-- n floors of m numbers; who stays, who goes up
variable (n m : Nat) (S U : Nat → Nat → Nat → Nat)
/-- the tables are alike both ways about and within the numbers -/
structure Tables : Prop where
  sc : ∀ f a b, f < n → a < m → b < m → S f a b = S f b a
  uc : ∀ f a b, f < n → a < m → b < m → U f a b = U f b a
  sm : ∀ f a b, f < n → a < m → b < m → S f a b < m
  um : ∀ f a b, f < n → a < m → b < m → U f a b < m
/-- one meeting -/
def Step (c d : St) : Prop := ∃ (e : St) (f a b : Nat), f < n ∧ a < m ∧ b < m ∧ c = e + one f a + one f b ∧ d = e + one f (S f a b) + one (f + 1) (U f a b)
inductive Run : St → St → Prop
  | nil (c : St) : Run c c
  | cons {c d e : St} : Step n m S U c d → Run d e → Run c e
variable {n m S U}
theorem Run.one {c d : St} (h : Step n m S U c d) : Run n m S U c d := .cons h (.nil d)
theorem Run.trans {c d e : St} (h : Run n m S U c d) (k : Run n m S U d e) : Run n m S U c e := by
  induction h with
  | nil => exact k
  | cons s _ ih => exact .cons s (ih k)
/-- others beside don't matter -/
theorem Step.beside {c d : St} (h : Step n m S U c d) (x : St) : Step n m S U (x + c) (x + d) := by
  obtain ⟨e, f, a, b, hf, ha, hb, rfl, rfl⟩ := h
  exact ⟨x + e, f, a, b, hf, ha, hb, by simp only [add_ac], by simp only [add_ac]⟩
theorem Run.beside {c d : St} (h : Run n m S U c d) (x : St) : Run n m S U (x + c) (x + d) := by
  induction h with
  | nil => exact .nil _
  | cons s _ ih => exact .cons (s.beside x) ih
variable (n m S U)
/-- three on one floor, alone: whoever meets first, they can come to one state -/
def Three : Prop := ∀ f x y z, f < n → x < m → y < m → z < m → ∃ E, Run n m S U (one f (S f x y) + one (f + 1) (U f x y) + one f z) E ∧ Run n m S U (one f (S f x z) + one (f + 1) (U f x z) + one f y) E
variable {n m S U}
theorem join_three (T : Three n m S U) {e : St} {f x y z : Nat} (hf : f < n) (hx : x < m) (hy : y < m) (hz : z < m) : ∃ E, Run n m S U (e + one f z + one f (S f x y) + one (f + 1) (U f x y)) E ∧ Run n m S U (e + one f y + one f (S f x z) + one (f + 1) (U f x z)) E := by
  obtain ⟨E, h1, h2⟩ := T f x y z hf hx hy hz
  refine ⟨e + E, ?_, ?_⟩
  · have := h1.beside e
    rw [show e + (one f (S f x y) + one (f + 1) (U f x y) + one f z) = e + one f z + one f (S f x y) + one (f + 1) (U f x y) from by funext p q; simp only [add_at]; omega] at this
    exact this
  · have := h2.beside e
    rw [show e + (one f (S f x z) + one (f + 1) (U f x z) + one f y) = e + one f y + one f (S f x z) + one (f + 1) (U f x z) from by funext p q; simp only [add_at]; omega] at this
    exact this
/-- two meetings of four people come to one state -/
theorem join_four {e : St} {f a b g x y : Nat} (hf : f < n) (ha : a < m) (hb : b < m) (hg : g < n) (hx : x < m) (hy : y < m) :
    ∃ E, Run n m S U (e + one g x + one g y + one f (S f a b) + one (f + 1) (U f a b)) E ∧ Run n m S U (e + one f a + one f b + one g (S g x y) + one (g + 1) (U g x y)) E := by
  refine ⟨e + one f (S f a b) + one (f + 1) (U f a b) + one g (S g x y) + one (g + 1) (U g x y), .one ⟨e + one f (S f a b) + one (f + 1) (U f a b), g, x, y, hg, hx, hy, ?_, rfl⟩, .one ⟨e + one g (S g x y) + one (g + 1) (U g x y), f, a, b, hf, ha, hb, ?_, ?_⟩⟩
  · funext p q; simp only [add_at]; omega
  · funext p q; simp only [add_at]; omega
  · funext p q; simp only [add_at]; omega
/-- any two meetings come to one state -/
theorem local_join (B : Tables n m S U) (T : Three n m S U) {c d1 d2 : St} (h1 : Step n m S U c d1) (h2 : Step n m S U c d2) : ∃ E, Run n m S U d1 E ∧ Run n m S U d2 E := by
  obtain ⟨e, f, a, b, hf, ha, hb, hc, rfl⟩ := h1
  obtain ⟨e', g, x, y, hg, hx, hy, hc', rfl⟩ := h2
  rw [hc] at hc'
  rcases swap hc' with ⟨rfl, rfl, h⟩ | ⟨k, h, h'⟩
  · -- b = y
    rcases swap h with ⟨_, rfl, rfl⟩ | ⟨k, rfl, rfl⟩
    · exact ⟨_, .nil _, .nil _⟩
    · -- people a, x, b: meetings (a, b) and (x, b)
      obtain ⟨E, r1, r2⟩ := join_three T (e := k) hf hb ha hx
      rw [B.sc f b a hf hb ha, B.uc f b a hf hb ha] at r1
      rw [B.sc f b x hf hb hx, B.uc f b x hf hb hx] at r2
      exact ⟨E, r1, r2⟩
  · -- e + one f a = k + one g y, e' + one g x = k + one f b
    rcases swap h with ⟨rfl, rfl, rfl⟩ | ⟨l, rfl, rfl⟩
    · -- a = y
      rcases swap h' with ⟨_, rfl, rfl⟩ | ⟨l, rfl, rfl⟩
      · refine ⟨_, .nil _, ?_⟩
        rw [B.sc f x a hf hx ha, B.uc f x a hf hx ha]
        exact .nil _
      · -- people a, b, x: meetings (a, b) and (x, a)
        obtain ⟨E, r1, r2⟩ := join_three T (e := l) hf ha hb hx
        rw [B.sc f a x hf ha hx, B.uc f a x hf ha hx] at r2
        exact ⟨E, r1, r2⟩
    · -- e = l + one g y, k = l + one f a
      rcases swap h' with ⟨rfl, rfl, rfl⟩ | ⟨q, rfl, h3⟩
      · -- x = b: people a, b, y: meetings (a, b) and (b, y)
        obtain ⟨E, r1, r2⟩ := join_three T (e := l) hf hb ha hy
        rw [B.sc _ x a hf hb ha, B.uc _ x a hf hb ha] at r1
        exact ⟨E, r1, r2⟩
      · rcases swap h3 with ⟨rfl, rfl, rfl⟩ | ⟨r, rfl, rfl⟩
        · -- x = a: people a, b, y: meetings (a, b) and (a, y)
          exact join_three T (e := l) hf ha hb hy
        · exact join_four hf ha hb hg hx hy
/-! ### how many meetings are left -/
def sumTo : Nat → (Nat → Nat) → Nat
  | 0, _ => 0
  | k + 1, g => sumTo k g + g k
theorem sumTo_add (k : Nat) (g h : Nat → Nat) : sumTo k (fun i => g i + h i) = sumTo k g + sumTo k h := by
  induction k with
  | zero => rfl
  | succ k ih => simp only [sumTo, ih]; omega
theorem sumTo_at {k i : Nat} (hi : i < k) (v : Nat) : sumTo k (fun j => if j = i then v else 0) = v := by
  induction k with
  | zero => omega
  | succ k ih =>
    by_cases h : i = k
    · subst h
      have z : ∀ j, j ≤ i → sumTo j (fun j => if j = i then v else 0) = 0 := fun j => by
        induction j with
        | zero => intro _; rfl
        | succ j ih => intro hj; simp only [sumTo]; rw [ih (by omega), if_neg (by omega)]
      simp only [sumTo, if_pos]
      rw [z i (Nat.le_refl _)]
      omega
    · simp only [sumTo]
      rw [ih (by omega), if_neg (Ne.symm h)]
      omega
theorem sumTo_out {k i : Nat} (hi : k ≤ i) (v : Nat) : sumTo k (fun j => if j = i then v else 0) = 0 := by
  induction k with
  | zero => rfl
  | succ k ih => simp only [sumTo]; rw [ih (by omega), if_neg (by omega)]
theorem sumTo_zero (k : Nat) : sumTo k (fun _ => 0) = 0 := by
  induction k with
  | zero => rfl
  | succ k ih => simp only [sumTo, ih]
variable (n m)
def tall (c : St) : Nat := sumTo n fun f => (n - f) * sumTo m (c f)
variable {n m}
theorem tall_add (c d : St) : tall n m (c + d) = tall n m c + tall n m d := by
  unfold tall
  rw [← sumTo_add]
  congr 1
  funext f
  rw [← Nat.mul_add, ← sumTo_add]
  rfl
theorem tall_one {f a : Nat} (hf : f < n) (ha : a < m) : tall n m (one f a) = n - f := by
  unfold tall
  have : (fun g => (n - g) * sumTo m (one f a g)) = fun g => if g = f then n - f else 0 := by
    funext g
    by_cases h : g = f
    · subst h
      rw [if_pos rfl, show one g a g = fun b => if b = a then 1 else 0 from by funext b; simp [one], sumTo_at ha, Nat.mul_one]
    · rw [if_neg h, show one f a g = fun b => if b = 0 then 0 else 0 from by funext b; simp [one, h]]
      simp only [ite_self]
      rw [sumTo_zero, Nat.mul_zero]
  rw [this, sumTo_at hf]
theorem tall_up {f a : Nat} (hf : f ≤ n) (ha : a < m) : tall n m (one f a) = n - f := by
  by_cases h : f < n
  · exact tall_one h ha
  · have e : f = n := by omega
    subst e
    unfold tall
    have : (fun g => (f - g) * sumTo m (one f a g)) = fun g => if g = f then 0 else (fun g => (f - g) * sumTo m (one f a g)) g := by
      funext g
      by_cases h : g = f
      · rw [if_pos h, h, Nat.sub_self, Nat.zero_mul]
      · rw [if_neg h]
    have z : ∀ k, k ≤ f → sumTo k (fun g => (f - g) * sumTo m (one f a g)) = 0 := fun k => by
      induction k with
      | zero => intro _; rfl
      | succ k ih =>
        intro hk
        simp only [sumTo]
        rw [ih (by omega)]
        have : one f a k = fun _ => 0 := by funext b; exact one_ne (by omega)
        rw [this]
        rw [sumTo_zero, Nat.mul_zero]
    rw [z f (Nat.le_refl _), Nat.sub_self]
/-- each meeting makes it one less -/
theorem step_tall (B : Tables n m S U) {c d : St} (h : Step n m S U c d) : tall n m c = tall n m d + 1 := by
  obtain ⟨e, f, a, b, hf, ha, hb, rfl, rfl⟩ := h
  rw [tall_add, tall_add, tall_add, tall_add, tall_one hf ha, tall_one hf hb, tall_one hf (B.sm f a b hf ha hb), tall_up (by omega : f + 1 ≤ n) (B.um f a b hf ha hb)]
  omega
/-- all that can come of a state comes to one -/
theorem join (B : Tables n m S U) (T : Three n m S U) : ∀ (k : Nat) {c d1 d2 : St}, tall n m c ≤ k → Run n m S U c d1 → Run n m S U c d2 → ∃ E, Run n m S U d1 E ∧ Run n m S U d2 E := by
  intro k
  induction k with
  | zero =>
    intro c d1 d2 hk h1 h2
    cases h1 with
    | nil => exact ⟨_, h2, .nil _⟩
    | cons s r =>
      have := step_tall B s
      omega
  | succ k ih =>
    intro c d1 d2 hk h1 h2
    cases h1 with
    | nil => exact ⟨_, h2, .nil _⟩
    | cons s1 r1 =>
      cases h2 with
      | nil => exact ⟨_, .nil _, .cons s1 r1⟩
      | cons s2 r2 =>
        have t1 := step_tall B s1
        have t2 := step_tall B s2
        obtain ⟨F, j1, j2⟩ := local_join B T s1 s2
        obtain ⟨G, g1, g2⟩ := ih (by omega) r1 j1
        obtain ⟨H, e1, e2⟩ := ih (by omega) (j2.trans g2) r2
        exact ⟨H, g1.trans e1, e2⟩
/-- nobody can meet -/
def Still (n m : Nat) (S U : Nat → Nat → Nat → Nat) (c : St) : Prop := ∀ d, ¬ Step n m S U c d
/-- one end, whatever is met -/
theorem one_end (B : Tables n m S U) (T : Three n m S U) {c d1 d2 : St} (h1 : Run n m S U c d1) (h2 : Run n m S U c d2) (s1 : Still n m S U d1) (s2 : Still n m S U d2) : d1 = d2 := by
  obtain ⟨E, r1, r2⟩ := join B T _ (Nat.le_refl _) h1 h2
  cases r1 with
  | cons s _ => exact absurd s (s1 _)
  | nil =>
    cases r2 with
    | cons s _ => exact absurd s (s2 _)
    | nil => rfl
/-- what a run leads to leads to the end of the whole -/
theorem end_of_run (B : Tables n m S U) (T : Three n m S U) {c d e : St} (h : Run n m S U c d) (k : Run n m S U c e) (s : Still n m S U e) : Run n m S U d e := by
  obtain ⟨E, r1, r2⟩ := join B T _ (Nat.le_refl _) h k
  cases r2 with
  | cons t _ => exact absurd t (s _)
  | nil => exact r1
end
end FmC
end FFmConf
section FFmTri
/-! Of houses: what three alone come to, and floors by kinds. Pure arithmetic, nothing of the model. -/
set_option linter.all false
namespace FmC
section
variable {n m : Nat} {S U : Nat → Nat → Nat → Nat}
/-- who goes up: from the last floor everybody is told as 0 -/
def outU (n : Nat) (U : Nat → Nat → Nat → Nat) : Nat → Nat → Nat → Nat := fun f a b => if f + 1 < n then U f a b else 0
/-- what the program's look at threes tells: in all orders the same stays, and those who go up come to the same -/
def Tri (n m : Nat) (S U : Nat → Nat → Nat → Nat) : Prop := ∀ f x y z, f < n → x < m → y < m → z < m → S f (S f x y) z = S f (S f x z) y ∧
  (f + 1 < n → S (f + 1) (U f x y) (U f (S f x y) z) = S (f + 1) (U f x z) (U f (S f x z) y)) ∧
  (f + 2 < n → U (f + 1) (U f x y) (U f (S f x y) z) = U (f + 1) (U f x z) (U f (S f x z) y))
/-- the tables within -/
structure Tabs (n m : Nat) (S U : Nat → Nat → Nat → Nat) : Prop where
  pos : 1 ≤ m
  sc : ∀ f a b, f < n → a < m → b < m → S f a b = S f b a
  uc : ∀ f a b, f < n → a < m → b < m → U f a b = U f b a
  sm : ∀ f a b, f < n → a < m → b < m → S f a b < m
  um : ∀ f a b, f < n → a < m → b < m → U f a b < m
theorem Tabs.tables (B : Tabs n m S U) : Tables n m S (outU n U) := by
  refine ⟨B.sc, fun f a b hf ha hb => ?_, B.sm, fun f a b hf ha hb => ?_⟩
  · unfold outU
    rw [B.uc f a b hf ha hb]
  · unfold outU
    have := B.um f a b hf ha hb
    have := B.pos
    split <;> omega
theorem three_of (B : Tabs n m S U) (T : Tri n m S U) : Three n m S (outU n U) := by
  intro f x y z hf hx hy hz
  obtain ⟨t1, t2, t3⟩ := T f x y z hf hx hy hz
  have sxy := B.sm f x y hf hx hy
  have sxz := B.sm f x z hf hx hz
  -- two meetings on the floor
  have two : ∀ p q, p < m → q < m → Run n m S (outU n U) (one f (S f x p) + one (f + 1) (outU n U f x p) + one f q) (one f (S f (S f x p) q) + one (f + 1) (outU n U f x p) + one (f + 1) (outU n U f (S f x p) q)) := fun p q hp hq => by
    refine .one ⟨one (f + 1) (outU n U f x p), f, S f x p, q, hf, B.sm f x p hf hx hp, hq, ?_, ?_⟩
    · funext i j; simp only [add_at]; omega
    · funext i j; simp only [add_at]; omega
  by_cases h1 : f + 1 < n
  · -- and one above
    have u1 : ∀ a b, outU n U f a b = U f a b := fun a b => if_pos h1
    have more : ∀ r u v, u < m → v < m → Run n m S (outU n U) (r + one (f + 1) u + one (f + 1) v) (r + one (f + 1) (S (f + 1) u v) + one (f + 2) (outU n U (f + 1) u v)) := fun r u v hu hv => .one ⟨r, f + 1, u, v, h1, hu, hv, rfl, rfl⟩
    have r1 := (two y z hy hz).trans (more _ _ _ (by rw [u1]; exact B.um f x y hf hx hy) (by rw [u1]; exact B.um f _ z hf sxy hz))
    have r2 := (two z y hz hy).trans (more _ _ _ (by rw [u1]; exact B.um f x z hf hx hz) (by rw [u1]; exact B.um f _ y hf sxz hy))
    refine ⟨_, r1, ?_⟩
    have e : outU n U (f + 1) (U f x y) (U f (S f x y) z) = outU n U (f + 1) (U f x z) (U f (S f x z) y) := by
      unfold outU
      by_cases h2 : f + 2 < n
      · rw [if_pos h2, if_pos h2, t3 h2]
      · rw [if_neg h2, if_neg h2]
    simp only [u1] at r2 ⊢
    rw [t1, t2 h1, e]
    exact r2
  · have u0 : ∀ a b, outU n U f a b = 0 := fun a b => if_neg h1
    refine ⟨_, two y z hy hz, ?_⟩
    have r2 := two z y hz hy
    rw [← t1] at r2
    simp only [u0] at r2 ⊢
    exact r2
/-! ### floors by kinds -/
/-- those who go up are the same in all orders -/
def Even (m : Nat) (s u : Nat → Nat → Nat) : Prop := ∀ x y z, x < m → y < m → z < m → (u x y = u x z ∧ u (s x y) z = u (s x z) y) ∨ (u x y = u (s x z) y ∧ u (s x y) z = u x z)
def Forgets (m : Nat) (s u : Nat → Nat → Nat) : Prop := ∀ x y z w, x < m → y < m → z < m → w < m → s x y = s z w ∧ u x y = u z w
theorem tri_of (B : Tabs n m S U) (hs : ∀ f x y z, f < n → x < m → y < m → z < m → S f (S f x y) z = S f (S f x z) y) (hk : ∀ f, f + 1 < n → Even m (S f) (U f) ∨ Forgets m (S (f + 1)) (U (f + 1))) : Tri n m S U := by
  intro f x y z hf hx hy hz
  have sxy := B.sm f x y hf hx hy
  have sxz := B.sm f x z hf hx hz
  have b1 := B.um f x y hf hx hy
  have b2 := B.um f x z hf hx hz
  have b3 := B.um f _ z hf sxy hz
  have b4 := B.um f _ y hf sxz hy
  refine ⟨hs f x y z hf hx hy hz, fun h1 => ?_, fun h2 => ?_⟩
  · rcases hk f h1 with E | F
    · rcases E x y z hx hy hz with ⟨e1, e2⟩ | ⟨e1, e2⟩
      · rw [e1, e2]
      · rw [e1, e2]
        exact B.sc _ _ _ h1 b4 b2
    · exact (F _ _ _ _ b1 b3 b2 b4).1
  · have h1 : f + 1 < n := by omega
    rcases hk f h1 with E | F
    · rcases E x y z hx hy hz with ⟨e1, e2⟩ | ⟨e1, e2⟩
      · rw [e1, e2]
      · rw [e1, e2]
        exact B.uc _ _ _ h1 b4 b2
    · exact (F _ _ _ _ b1 b3 b2 b4).2
end
/-! ### the words of the law's houses -/
def word (kind a b m : Nat) : Nat := match kind with
  | 0 => max a b
  | 1 => (a + b) % m
  | 2 => 0
  | 3 => min (a + b) (m - 1)
  | 4 => a * b % m
  | _ => if a = b then a else m - 1
def goesAt (way a b m : Nat) : Nat := match way with
  | 0 => min a b
  | 1 => (a + b) / m
  | _ => 0
theorem word_facts : ∀ m < 7, ∀ kind < 6, ∀ a < m, ∀ b < m, word kind a b m < m ∧ word kind a b m = word kind b a m ∧ ∀ c < m, word kind (word kind a b m) c m = word kind (word kind a c m) b m := by decide +kernel
def evenAt (way kind a b c m : Nat) : Prop := (goesAt way a b m = goesAt way a c m ∧ goesAt way (word kind a b m) c m = goesAt way (word kind a c m) b m) ∨ (goesAt way a b m = goesAt way (word kind a c m) b m ∧ goesAt way (word kind a b m) c m = goesAt way a c m)
instance (way kind a b c m : Nat) : Decidable (evenAt way kind a b c m) := by unfold evenAt; exact inferInstance
theorem even0 : ∀ m < 7, ∀ a < m, ∀ b < m, ∀ c < m, evenAt 0 0 a b c m := by decide +kernel
theorem even1 : ∀ m < 7, ∀ a < m, ∀ b < m, ∀ c < m, evenAt 1 1 a b c m := by decide +kernel
theorem goes_facts {m way kind : Nat} (hm : m < 7) (hw : way < 3) (e : kind = way ∨ way = 2) {a b c : Nat} (ha : a < m) (hb : b < m) (hc : c < m) : evenAt way kind a b c m := by
  have : way = 0 ∨ way = 1 ∨ way = 2 := by omega
  rcases this with rfl | rfl | rfl
  · obtain rfl : kind = 0 := by omega
    exact even0 m hm a ha b hb c hc
  · obtain rfl : kind = 1 := by omega
    exact even1 m hm a ha b hb c hc
  · exact .inl ⟨rfl, rfl⟩
theorem goes_in {m way a b : Nat} (ha : a < m) (hb : b < m) : goesAt way a b m < m + 2 ∧ goesAt way a b m = goesAt way b a m := by
  unfold goesAt
  split
  · exact ⟨by omega, Nat.min_comm a b⟩
  · refine ⟨?_, by rw [Nat.add_comm]⟩
    have : (a + b) / m < 2 := Nat.div_lt_of_lt_mul (by omega)
    omega
  · exact ⟨by omega, rfl⟩
/-- numbers called otherwise, and back -/
structure Calls (m : Nat) (calls back : Nat → Nat) : Prop where
  cm : ∀ a, a < m → calls a < m
  bm : ∀ a, a < m → back a < m
  cb : ∀ a, a < m → calls (back a) = a
  bc : ∀ a, a < m → back (calls a) = a
def stayOf (kind m : Nat) (calls back : Nat → Nat) : Nat → Nat → Nat := fun a b => calls (word kind (back a) (back b) m)
def upOf (way m : Nat) (back goes : Nat → Nat) : Nat → Nat → Nat := fun a b => goes (goesAt way (back a) (back b) m)
theorem stay_facts {m kind : Nat} {calls back : Nat → Nat} (hm : m < 7) (hk : kind < 6) (C : Calls m calls back) {a b : Nat} (ha : a < m) (hb : b < m) :
    stayOf kind m calls back a b < m ∧ stayOf kind m calls back a b = stayOf kind m calls back b a ∧ ∀ c < m, stayOf kind m calls back (stayOf kind m calls back a b) c = stayOf kind m calls back (stayOf kind m calls back a c) b := by
  obtain ⟨h1, h2, h3⟩ := word_facts m hm kind hk _ (C.bm a ha) _ (C.bm b hb)
  refine ⟨C.cm _ h1, by unfold stayOf; rw [h2], fun c hc => ?_⟩
  have h4 := (word_facts m hm kind hk _ (C.bm a ha) _ (C.bm c hc)).1
  unfold stayOf
  rw [C.bc _ h1, C.bc _ h4, h3 _ (C.bm c hc)]
theorem up_even {m way kind : Nat} {calls back goes : Nat → Nat} (hm : m < 7) (hw : way < 3) (hk : kind < 6) (e : kind = way ∨ way = 2) (C : Calls m calls back) : Even m (stayOf kind m calls back) (upOf way m back goes) := by
  intro x y z hx hy hz
  have h1 := (word_facts m hm kind hk _ (C.bm x hx) _ (C.bm y hy)).1
  have h2 := (word_facts m hm kind hk _ (C.bm x hx) _ (C.bm z hz)).1
  have h3 := goes_facts hm hw e (C.bm x hx) (C.bm y hy) (C.bm z hz)
  unfold upOf stayOf
  rw [C.bc _ h1, C.bc _ h2]
  rcases h3 with ⟨g1, g2⟩ | ⟨g1, g2⟩
  · exact .inl ⟨by rw [g1], by rw [g2]⟩
  · exact .inr ⟨by rw [g1], by rw [g2]⟩
theorem forgets_of {m : Nat} {calls back back' goes : Nat → Nat} : Forgets m (stayOf 2 m calls back) (upOf 2 m back' goes) := fun x y z w _ _ _ _ => ⟨rfl, rfl⟩
end FmC
end FFmTri
section FFmNever
set_option Elab.async false
set_option linter.all false
namespace Fm
open PySem PySem.Spec PyProof.Rows L2
/-- what is never come to -/
theorem ps_never {X : Cx} {st : Stmt} : PS X st (fun _ _ _ => False) := ⟨fun pins s σ H D I h => h.elim⟩
theorem pss_never {X : Cx} {sts : List Stmt} : PSs X sts (fun _ _ _ => False) := ⟨fun pins s σ H D I h => h.elim⟩
end Fm
end FFmNever
section FFA
set_option Elab.async false
set_option linter.all false
set_option maxRecDepth 100000
set_option maxHeartbeats 4000000
local macro_rules | `(tactic| walk_at "ne") => `(tactic| first | assumption | (apply Ne.symm; assumption) | exact L2.ne_of_none (by assumption) (by assumption) | exact Ne.symm (L2.ne_of_none (by assumption) (by assumption)))
local macro_rules | `(tactic| walk_at "hl") => `(tactic| first | assumption | exact L2.upd_same | (refine Eq.trans (L2.upd_ne (by walk_at "ne")) ?_; walk_at "hl"))
local macro_rules | `(tactic| walk_at "sd") => `(tactic| first | (with_reducible show (_ : Int) < _; omega) | (with_reducible show (_ : Int) ≤ _; omega) | assumption | decide | exact ⟨by assumption, by assumption⟩ | exact ⟨by decide, by decide⟩ | exact Or.inr ⟨by decide, by decide⟩ | exact Or.inl ⟨by omega, by omega⟩ | rfl)
local macro_rules | `(tactic| walk_at "st1") => `(tactic| first
  | refine ⟨_, rfl, ?_⟩
  | refine ⟨_, _, rfl, rfl, ?_⟩
  | refine ⟨_, _, rfl, ?_⟩
  | (refine ⟨_, _, _, _, rfl, rfl, L2.SqL.of (by walk_at "hl"), rfl, ?_⟩)
  | (refine ⟨_, _, _, _, rfl, rfl, L2.SqT.of (by walk_at "hl"), rfl, ?_⟩)
  | (refine ⟨_, _, _, _, rfl, rfl, (by walk_at "hl"), rfl, ?_⟩)
  | (refine And.intro (by walk_at "sd") ?_)
  )
local macro_rules | `(tactic| walk_at "st") => `(tactic| repeat walk_at "st1")
local macro_rules | `(tactic| walk_at "op") => `(tactic| try dsimp only [L2.tSeq, L2.tAsg, L2.tOp, L2.tVar, L2.tC, L2.gSub, L2.rI, L2.rI0, L2.rIxL, L2.rIxT, L2.rSetL, L2.tIfS, L2.tTest, L2.tRet, L2.gName, L2.tNext, L2.tAnd, L2.tOr, L2.tNot, L2.tAndV, L2.tOrV, L2.tNotV, L2.tB, L2.tCB, L2.tCons, L2.tNil, L2.tCall, L2.tTup, L2.tLst, L2.tChain, L2.tUn, L2.tPar, L2.tDrop, L2.tIf, L2.tBM, L2.tBM0, L2.rAppend, L2.rCat, L2.rIsi, L2.rIsiT, L2.gTup, L2.gCons, L2.gNil, Fm.tFor_eq, Fm.tLc_eq, Fm.tLc2_eq, L2.iTup, L2.iList, L2.iRng1, L2.iRng2, L2.tSl, L2.tPart, L2.tNoPart, L2.rSlL, L2.rEq, L2.rNe, L2.rU, L2.rEqD, L2.rNeD, Fm.tRevT, Fm.rLenS, Fm.rTupOf, Fm.rLstOf, L2.tDNewK, L2.tCallS, L2.WE, Fm.wKeep, Fm.rIsK, Fm.rIsKT, List.cons_append, List.nil_append, L2.tYes])
namespace Fm
open PySem PySem.Spec PyProof.Rows L2
section
variable {P : Program} {w : World} {K : PySem.W.Frag} {mg : Str → Option Value} {base : Heap}
/-! ### the look at threes -/
/-- a floor's two tables at af -/
structure FloorAt (H : Hp) (af : Addr) (m : Nat) (S U : Nat → Nat → Nat) (t0 t1 : Addr) : Prop where
  at_ : H af = some (.tup [.ref t0, .ref t1])
  s : ∀ a b, a < m → b < m → ∃ (ss : List V) (ra : Addr) (ya : List V), H t0 = some (.tup ss) ∧ ss[a]? = some (V.ref ra) ∧ H ra = some (.tup ya) ∧ ya[b]? = some (V.int (S a b : Nat)) ∧ S a b < m
  u : ∀ a b, a < m → b < m → ∃ (ss : List V) (ra : Addr) (ya : List V), H t1 = some (.tup ss) ∧ ss[a]? = some (V.ref ra) ∧ H ra = some (.tup ya) ∧ ya[b]? = some (V.int (U a b : Nat)) ∧ U a b < m
theorem FloorAt.same {H H' : Hp} {af t0 t1 : Addr} {m : Nat} {S U : Nat → Nat → Nat} (h : FloorAt H af m S U t0 t1) (e : Same H H') : FloorAt H' af m S U t0 t1 := by
  refine ⟨e _ _ h.at_, fun a b ha hb => ?_, fun a b ha hb => ?_⟩
  · obtain ⟨ss, ra, ya, h1, h2, h3, h4, h5⟩ := h.s a b ha hb
    exact ⟨ss, ra, ya, e _ _ h1, h2, e _ _ h3, h4, h5⟩
  · obtain ⟨ss, ra, ya, h1, h2, h3, h4, h5⟩ := h.u a b ha hb
    exact ⟨ss, ra, ya, e _ _ h1, h2, e _ _ h3, h4, h5⟩
theorem floor_at {H : Hp} {ph : Addr} {hv : V} {fs : List PyData} {m n f : Nat} (hD : Dat H ph hv (.tuple fs)) (hN : HouseN m n (.tuple fs)) (hf : f < n) :
    ∃ (ah af : Addr) (hs : List V) (t0 t1 : Addr), hv = .ref ah ∧ H ah = some (.tup hs) ∧ hs.length = n ∧ hs[f]? = some (V.ref af) ∧ FloorAt H af m (goN fs 0 f) (goN fs 1 f) t0 t1 := by
  obtain ⟨ah, af, hs, tb, rfl, h1, h2, h3, h4, h5⟩ := house_goes hD hN hf
  exact ⟨ah, af, hs, tb 0, tb 1, rfl, h1, h2, h3, h4, h5 0 (by decide), h5 1 (by decide)⟩
def spLeftT : Sp := fun vs H Q _ => ∃ (af t0 t1 : Addr) (ov : V) (p : Addr) (m : Nat) (S U : Nat → Nat → Nat) (x : Nat × Nat × Nat), vs = [.ref af, ov] ∧ FloorAt H af m S U t0 t1 ∧ Dat H p ov (triD x) ∧ x.1 < m ∧ x.2.1 < m ∧ x.2.2 < m ∧
  ∀ q H', H q = none → H' q = some (.tup [.int (S (S x.1 x.2.1) x.2.2 : Nat), .int (U x.1 x.2.1 : Nat), .int (U (S x.1 x.2.1) x.2.2 : Nat)]) → Same H H' → Q (.ref q) H'
def endL (n : Nat) (S U : Nat → Nat → Nat → Nat) (f : Nat) (x : Nat × Nat × Nat) : List Int :=
  let r : Int := (S f (S f x.1 x.2.1) x.2.2 : Nat)
  let one := U f x.1 x.2.1
  let other := U f (S f x.1 x.2.1) x.2.2
  if f + 1 = n then [r] else if f + 2 = n then [r, (S (f + 1) one other : Nat)] else [r, (S (f + 1) one other : Nat), (U (f + 1) one other : Nat)]
def spEnd3 : Sp := fun vs H Q _ => ∃ (hv ov : V) (p ph : Addr) (u : HO) (fs : List PyData) (m n f : Nat) (x : Nat × Nat × Nat), vs = [hv, .int (f : Nat), ov] ∧ H p = some u ∧ Dat H ph hv (.tuple fs) ∧ HouseN m n (.tuple fs) ∧ f < n ∧ Dat H p ov (triD x) ∧ x.1 < m ∧ x.2.1 < m ∧ x.2.2 < m ∧
  ∀ v H', Dat H' p v (rowD (endL n (goN fs 0) (goN fs 1) f x)) → Same H H' → Q v H'
theorem lay_ints : ∀ ns : List Int, PyData.canLayAll0 (ns.map PyData.int) = true ∧ PyData.depthAll (ns.map PyData.int) = 0
  | [] => by simp [PyData.canLayAll0, PyData.depthAll]
  | n :: r => by
    obtain ⟨h1, h2⟩ := lay_ints r
    simp [PyData.canLayAll0, PyData.canLay0, PyData.depthAll, PyData.depth, h1, h2]

theorem eqv_ints : ∀ l : List Int, PyData.eqvAll (l.map PyData.int) (l.map PyData.int) = true
  | [] => by simp [PyData.eqvAll]
  | x :: r => by simp [PyData.eqvAll, PyData.eqv, eqv_ints r]
theorem rowD_shaped (l : List Int) : SeqAt.shaped (rowD l) = true ∧ (rowD l).hasDict = false ∧ PyData.eqv (rowD l) (rowD l) = true := by
  obtain ⟨h1, h2⟩ := lay_ints l
  refine ⟨?_, ?_, ?_⟩
  · unfold SeqAt.shaped rowD
    simp only [PyData.canLay0, PyData.depth, h1, h2, Bool.true_and]
    decide
  · unfold rowD
    simp only [PyData.hasDict]
    refine hasDict_all fun d hd => ?_
    obtain ⟨c, _, rfl⟩ := List.mem_map.mp hd
    simp only [PyData.hasDict]
  · unfold rowD
    rw [PyData.eqv]
    exact eqv_ints l
/-- in all three orders one end -/
theorem endL_tri {fs : List PyData} {m n f : Nat} {x : Nat × Nat × Nat} (hN : HouseN m n (.tuple fs)) (hf : f < n) (hT : FmC.Tri n m (goN fs 0) (goN fs 1)) (hx : x.1 < m) (hy : x.2.1 < m) (hz : x.2.2 < m)
    (hm : ∀ k, k < 2 → ∀ g, g < n → ∀ a b, a < m → b < m → goN fs k g a b < m) : ∀ y ∈ ords x, endL n (goN fs 0) (goN fs 1) f y = endL n (goN fs 0) (goN fs 1) f x := by
  obtain ⟨a, b, c⟩ := x
  dsimp only at hx hy hz
  have key : ∀ p q r, p < m → q < m → r < m → endL n (goN fs 0) (goN fs 1) f (p, q, r) = endL n (goN fs 0) (goN fs 1) f (p, r, q) := fun p q r hp hq hr => by
    obtain ⟨t1, t2, t3⟩ := hT f p q r hf hp hq hr
    unfold endL
    dsimp only
    by_cases h1 : f + 1 = n
    · rw [if_pos h1, if_pos h1, t1]
    · rw [if_neg h1, if_neg h1]
      have h1' : f + 1 < n := by omega
      by_cases h2 : f + 2 = n
      · rw [if_pos h2, if_pos h2, t1, t2 h1']
      · rw [if_neg h2, if_neg h2, t1, t2 h1', t3 (by omega)]
  have comm : ∀ p q r, p < m → q < m → endL n (goN fs 0) (goN fs 1) f (p, q, r) = endL n (goN fs 0) (goN fs 1) f (q, p, r) := fun p q r hp hq => by
    unfold endL
    dsimp only
    rw [goN_comm hN hf (k := 0) (by decide) hp hq, goN_comm hN hf (k := 1) (by decide) hp hq]
  intro y hy'
  unfold ords at hy'
  simp only [List.mem_cons, List.not_mem_nil, or_false] at hy'
  rcases hy' with rfl | rfl | rfl
  · rfl
  · exact (key a b c hx hy hz).symm
  · rw [key b c a hy hz hx, comm b a c hy hx]
def goLt (fs : List PyData) (m n : Nat) : Prop := ∀ k, k < 2 → ∀ g, g < n → ∀ a b, a < m → b < m → goN fs k g a b < m
theorem goLt_of {H : Hp} {ph : Addr} {hv : V} {fs : List PyData} {m n : Nat} (hD : Dat H ph hv (.tuple fs)) (hN : HouseN m n (.tuple fs)) : goLt fs m n := fun k hk g hg a b ha hb => by
  obtain ⟨_, _, _, _, _, _, _, _, _, hF⟩ := floor_at hD hN hg
  match k, hk with
  | 0, _ => obtain ⟨_, _, _, _, _, _, _, z⟩ := hF.s a b ha hb; exact z
  | 1, _ => obtain ⟨_, _, _, _, _, _, _, z⟩ := hF.u a b ha hb; exact z
theorem eqv_row : ∀ a b : List Int, PyData.eqvAll (a.map PyData.int) (b.map PyData.int) = decide (a = b)
  | [], [] => by simp [PyData.eqvAll]
  | [], y :: r => by simp [PyData.eqvAll]
  | x :: r, [] => by simp [PyData.eqvAll]
  | x :: r, y :: t => by
    have ih := eqv_row r t
    simp only [List.map_cons, PyData.eqvAll, PyData.eqv, ih]
    by_cases h : x = y
    · subst h; by_cases k : r = t <;> simp [k]
    · simp [h]
theorem eqv_rowD (a b : List Int) : PyData.eqv (rowD a) (rowD b) = decide (a = b) := by
  unfold rowD
  rw [PyData.eqv]
  exact eqv_row a b
/-- three in all orders: one end -/
def E3 (n : Nat) (S U : Nat → Nat → Nat → Nat) (f : Nat) (x : Nat × Nat × Nat) : Prop := endL n S U f (x.1, x.2.2, x.2.1) = endL n S U f x ∧ endL n S U f (x.2.1, x.2.2, x.1) = endL n S U f x
instance (n : Nat) (S U : Nat → Nat → Nat → Nat) (f : Nat) (x : Nat × Nat × Nat) : Decidable (E3 n S U f x) := by unfold E3; infer_instance
def spParted : Sp := fun vs H Q _ => ∃ (hv tv : V) (p ph : Addr) (u : HO) (fs : List PyData) (m n f : Nat) (x : Nat × Nat × Nat), vs = [hv, .int (f : Nat), tv] ∧ H p = some u ∧ Dat H ph hv (.tuple fs) ∧ HouseN m n (.tuple fs) ∧ f < n ∧ TF H p tv x ∧ x.1 < m ∧ x.2.1 < m ∧ x.2.2 < m ∧
  ∀ H', Same H H' → Q (.bl (!decide (E3 n (goN fs 0) (goN fs 1) f x))) H'
/-- the house is fair -/
def FairH (fs : List PyData) (m n : Nat) : Prop := FmC.Tri n m (goN fs 0) (goN fs 1)
theorem thr_has {m a b c : Nat} (h1 : a ≤ b) (h2 : b ≤ c) (h3 : c < m) : (a, b, c) ∈ thr m := by
  unfold thr thrN
  refine List.mem_flatMap.mpr ⟨a, List.mem_range.mpr (by omega), ?_⟩
  unfold rowB
  refine List.mem_flatMap.mpr ⟨b - a, List.mem_range.mpr (by omega), ?_⟩
  unfold rowC
  refine List.mem_map.mpr ⟨c - b, List.mem_range.mpr (by omega), ?_⟩
  have e1 : a + (b - a) = b := by omega
  have e2 : b + (c - b) = c := by omega
  rw [e1, e2]
theorem E3_of {fs : List PyData} {m n f : Nat} {x : Nat × Nat × Nat} (hN : HouseN m n (.tuple fs)) (hf : f < n) (hT : FairH fs m n) (hx : x.1 < m) (hy : x.2.1 < m) (hz : x.2.2 < m)
    (hm : goLt fs m n) : E3 n (goN fs 0) (goN fs 1) f x := by
  have := endL_tri hN hf hT hx hy hz hm
  exact ⟨this _ (by unfold ords; simp), this _ (by unfold ords; simp)⟩
theorem fair_of {fs : List PyData} {m n : Nat} (hN : HouseN m n (.tuple fs)) (hm : goLt fs m n) (h : ∀ f, f < n → ∀ x ∈ thr m, E3 n (goN fs 0) (goN fs 1) f x) : FairH fs m n := by
  have comm : ∀ f p q r, f < n → p < m → q < m → endL n (goN fs 0) (goN fs 1) f (p, q, r) = endL n (goN fs 0) (goN fs 1) f (q, p, r) := fun f p q r hf hp hq => by
    unfold endL
    dsimp only
    rw [goN_comm hN hf (k := 0) (by decide) hp hq, goN_comm hN hf (k := 1) (by decide) hp hq]
  have key : ∀ f a b c, f < n → a < m → b < m → c < m → endL n (goN fs 0) (goN fs 1) f (a, b, c) = endL n (goN fs 0) (goN fs 1) f (a, c, b) := fun f a b c hf ha hb hc => by
    have sw := fun p q r => comm f p q r hf
    have E := fun p q r (h1 : p ≤ q) (h2 : q ≤ r) (h3 : r < m) => h f hf (p, q, r) (thr_has h1 h2 h3)
    rcases Nat.le_total a b with ab | ab <;> rcases Nat.le_total b c with bc | bc <;> rcases Nat.le_total a c with ac | ac
    · exact (E a b c ab bc hc).1.symm
    · exact (E a b c ab bc hc).1.symm
    · exact (E a c b ac bc hb).1
    · -- c ≤ a ≤ b
      obtain ⟨e1, e2⟩ := E c a b ac ab hb
      dsimp only at e1 e2
      rw [e2, sw a c b ha hc]
    · -- b ≤ a ≤ c
      obtain ⟨e1, e2⟩ := E b a c ab ac hc
      dsimp only at e1 e2
      rw [e2, sw a b c ha hb]
    · -- b ≤ c ≤ a
      obtain ⟨e1, e2⟩ := E b c a bc ac ha
      dsimp only at e1 e2
      exact (sw a b c ha hb).trans (e1.trans (e2.symm.trans (sw c a b hc ha)))
    · -- c ≤ b ≤ a, a ≤ c
      have e1 : a = c := by omega
      have e2 : a = b := by omega
      subst e1 e2
      rfl
    · -- c ≤ b ≤ a
      obtain ⟨e1, e2⟩ := E c b a bc ab ha
      dsimp only at e1 e2
      rw [sw a b c ha hb, sw a c b ha hc, e2, e1]
  intro f x y z hf hx hy hz
  have e := key f x y z hf hx hy hz
  unfold endL at e
  dsimp only at e
  by_cases h1 : f + 1 = n
  · rw [if_pos h1, if_pos h1] at e
    injection e with e _
    exact ⟨by omega, fun z => by omega, fun z => by omega⟩
  · rw [if_neg h1, if_neg h1] at e
    by_cases h2 : f + 2 = n
    · rw [if_pos h2, if_pos h2] at e
      injection e with e q
      injection q with q _
      exact ⟨by omega, fun _ => by omega, fun z => by omega⟩
    · rw [if_neg h2, if_neg h2] at e
      injection e with e q
      injection q with q r
      injection r with r _
      exact ⟨by omega, fun _ => by omega, fun _ => by omega⟩
/-- none just of fair houses -/
def spLeastP : Sp := fun vs H Q _ => ∃ (hv : V) (p ph : Addr) (u : HO) (fs : List PyData) (m n : Nat), vs = [hv] ∧ H p = some u ∧ Dat H ph hv (.tuple fs) ∧ HouseN m n (.tuple fs) ∧ ∀ v H', (v = .non ∧ FairH fs m n ∨ ∃ (fl : Nat) (y : Nat × Nat × Nat) (pa : Addr) (yv : V), v = .ref pa ∧ H' pa = some (.tup [.int (fl : Nat), yv]) ∧ TF H' p yv y ∧ fl < n ∧ y ∈ thr m ∧ ¬ E3 n (goN fs 0) (goN fs 1) fl y ∧ ∀ f, f < fl → ∀ x ∈ thr m, E3 n (goN fs 0) (goN fs 1) f x) → Same H H' → Q v H'
def spLeast : Sp := fun vs H Q _ => ∃ (hv : V) (p ph : Addr) (u : HO) (fs : List PyData) (m n : Nat), vs = [hv] ∧ H p = some u ∧ Dat H ph hv (.tuple fs) ∧ HouseN m n (.tuple fs) ∧ FairH fs m n ∧ ∀ H', Same H H' → Q .non H'
theorem unfair_of {fs : List PyData} {m n fl : Nat} {y : Nat × Nat × Nat} (hN : HouseN m n (.tuple fs)) (hgo : goLt fs m n) (hf : fl < n) (hy : y ∈ thr m) (h : ¬ E3 n (goN fs 0) (goN fs 1) fl y) : ¬ FairH fs m n := fun hT => by
  obtain ⟨y1, y2, y3⟩ := thr_mem hy
  exact h (E3_of hN hf hT y1 y2 y3 hgo)
def spIsFair : Sp := fun vs H Q _ => ∃ (hv : V) (p ph : Addr) (u : HO) (fs : List PyData) (m n : Nat), vs = [hv] ∧ H p = some u ∧ Dat H ph hv (.tuple fs) ∧ HouseN m n (.tuple fs) ∧ ∀ b H', (b = true ↔ FairH fs m n) → Same H H' → Q (.bl b) H'
end
end Fm
end FFA
section FFmBatch
/-! Many meetings of like people at once; rows of counts. Pure arithmetic, nothing of the model. -/
set_option linter.all false
namespace FmC
def addI (c : List Int) (i : Nat) (z : Int) : List Int := c.set i (c.getD i 0 + z)
def cnt (c : List Int) (a : Nat) : Nat := (c.getD a 0).toNat
def NN (c : List Int) : Prop := ∀ x ∈ c, 0 ≤ x
def rowSt (f : Nat) (c : List Int) : St := fun g a => if g = f then cnt c a else 0
def upsSt (n f : Nat) (r : List Int) : St := fun g a => if g = f + 1 then (if f + 1 < n then cnt r a else if a = 0 then r.sum.toNat else 0) else 0
def many (t : Nat) (s : St) : St := fun g a => t * s g a
theorem addI_len (c : List Int) (i : Nat) (z : Int) : (addI c i z).length = c.length := by unfold addI; rw [List.length_set]
theorem getD_addI {c : List Int} {i : Nat} (hi : i < c.length) (z : Int) (a : Nat) : (addI c i z).getD a 0 = if a = i then c.getD i 0 + z else c.getD a 0 := by
  unfold addI
  rw [List.getD_eq_getElem?_getD, List.getElem?_set]
  by_cases h : i = a
  · subst h
    rw [if_pos rfl, if_pos hi, if_pos rfl]
    rfl
  · rw [if_neg h, if_neg (Ne.symm h), List.getD_eq_getElem?_getD]
theorem NN.get {c : List Int} (h : NN c) (a : Nat) : 0 ≤ c.getD a 0 := by
  rw [List.getD_eq_getElem?_getD]
  cases e : c[a]? with
  | none => exact Int.le_refl _
  | some x => exact h x (List.mem_of_getElem? e)
theorem NN.cnt {c : List Int} (h : NN c) (a : Nat) : ((cnt c a : Nat) : Int) = c.getD a 0 := by
  have := h.get a
  show (((c.getD a 0).toNat : Nat) : Int) = _
  omega
theorem NN.add {c : List Int} (h : NN c) {i : Nat} {z : Int} (hz : 0 ≤ c.getD i 0 + z) : NN (addI c i z) := fun x hx => by
  rcases List.mem_or_eq_of_mem_set hx with q | rfl
  · exact h x q
  · exact hz
theorem sum_addI : ∀ {c : List Int} {i : Nat}, i < c.length → ∀ z, (addI c i z).sum = c.sum + z
  | x :: c, 0, _, z => by
    show (x + z) + c.sum = x + c.sum + z
    omega
  | x :: c, i + 1, h, z => by
    have := sum_addI (c := c) (i := i) (by simpa using h) z
    show x + (addI c i z).sum = x + c.sum + z
    omega
theorem NN.sum : ∀ {c : List Int}, NN c → 0 ≤ c.sum
  | [], _ => Int.le_refl _
  | x :: c, h => by
    have h1 := h x List.mem_cons_self
    have h2 := NN.sum (c := c) fun y hy => h y (List.mem_cons_of_mem _ hy)
    show 0 ≤ x + c.sum
    omega
section
variable {n m : Nat} {S U : Nat → Nat → Nat → Nat}
/-- t meetings of two alike -/
theorem run_many {f k : Nat} (hf : f < n) (hk : k < m) (e : St) : ∀ t, Run n m S U (e + many (2 * t) (one f k)) (e + many t (one f (S f k k)) + many t (one (f + 1) (U f k k)))
  | 0 => by
    have : e + many (2 * 0) (one f k) = e + many 0 (one f (S f k k)) + many 0 (one (f + 1) (U f k k)) := by
      funext p q; simp only [add_at, many, Nat.mul_zero, Nat.zero_mul, Nat.add_zero]
    rw [this]
    exact .nil _
  | t + 1 => by
    have ih := run_many hf hk (e + one f (S f k k) + one (f + 1) (U f k k)) t
    refine .cons ⟨e + many (2 * t) (one f k), f, k, k, hf, hk, hk, ?_, rfl⟩ ?_
    · funext p q
      simp only [add_at, many]
      rw [show 2 * (t + 1) = 2 * t + 2 from rfl, Nat.add_mul]
      omega
    · have e1 : e + many (2 * t) (one f k) + one f (S f k k) + one (f + 1) (U f k k) = e + one f (S f k k) + one (f + 1) (U f k k) + many (2 * t) (one f k) := by
        funext p q; simp only [add_at]; omega
      have e2 : e + many (t + 1) (one f (S f k k)) + many (t + 1) (one (f + 1) (U f k k)) = e + one f (S f k k) + one (f + 1) (U f k k) + many t (one f (S f k k)) + many t (one (f + 1) (U f k k)) := by
        funext p q; simp only [add_at, many, Nat.add_mul, Nat.one_mul]; omega
      rw [e1, e2]
      exact ih
theorem row_add {f i : Nat} {c : List Int} (hc : NN c) (hi : i < c.length) (t : Nat) : rowSt f (addI c i t) = rowSt f c + many t (one f i) := by
  funext g a
  simp only [add_at, rowSt, many]
  by_cases hg : g = f
  · subst hg
    rw [if_pos rfl, if_pos rfl]
    unfold cnt
    rw [getD_addI hi]
    by_cases ha : a = i
    · subst ha
      rw [if_pos rfl, one_self]
      have := hc.get a
      omega
    · rw [if_neg ha, one_ne (fun q => ha q.2)]
      omega
  · rw [if_neg hg, if_neg hg, one_ne (fun q => hg q.1)]
    omega
theorem row_take {f i : Nat} {c : List Int} (hc : NN c) (hi : i < c.length) {t : Nat} (ht : (t : Int) ≤ c.getD i 0) : rowSt f c = rowSt f (addI c i (-(t : Int))) + many t (one f i) := by
  have h1 : NN (addI c i (-(t : Int))) := hc.add (by omega)
  have h2 := row_add (f := f) h1 (by rw [addI_len]; exact hi) t (i := i)
  rw [← h2]
  congr 1
  unfold addI
  rw [List.set_set, List.getD_eq_getElem?_getD (l := c.set _ _), List.getElem?_set_self hi]
  show c = c.set i (c.getD i 0 + -↑t + ↑t)
  rw [show c.getD i 0 + -(t : Int) + t = c.getD i 0 by omega, List.getD_eq_getElem?_getD, List.getElem?_eq_getElem hi]
  exact (List.set_getElem_self hi).symm
theorem ups_add {f i : Nat} {r : List Int} (hr : NN r) (hi : i < r.length) (t : Nat) : upsSt n f (addI r i t) = upsSt n f r + many t (one (f + 1) (if f + 1 < n then i else 0)) := by
  funext g a
  simp only [add_at, upsSt, many]
  by_cases hg : g = f + 1
  · subst hg
    rw [if_pos rfl, if_pos rfl]
    by_cases hn : f + 1 < n
    · rw [if_pos hn, if_pos hn, if_pos hn]
      have := congrFun (congrFun (row_add (f := f + 1) hr hi t) (f + 1)) a
      simp only [add_at, rowSt, many, if_pos] at this
      exact this
    · rw [if_neg hn, if_neg hn, if_neg hn, sum_addI hi]
      have := hr.sum
      by_cases ha : a = 0
      · subst ha
        rw [if_pos rfl, if_pos rfl, one_self]
        omega
      · rw [if_neg ha, if_neg ha, one_ne (fun q => ha q.2)]
        omega
  · rw [if_neg hg, if_neg hg, one_ne (fun q => hg q.1)]
    omega
/-- what meet_all keeps: from c on the floor, nobody risen, to c' and r' -/
structure Met (n m : Nat) (S U : Nat → Nat → Nat → Nat) (f : Nat) (c0 c r : List Int) : Prop where
  cl : c.length = m
  rl : r.length = m
  cn : NN c
  rn : NN r
  run : Run n m S (outU n U) (rowSt f c0) (rowSt f c + upsSt n f r)
  sum : c.sum + r.sum = c0.sum
/-- t meetings of two alike, in rows -/
theorem Met.twos (B : Tabs n m S U) {f : Nat} {c0 c r : List Int} (h : Met n m S U f c0 c r) (hf : f < n) {k : Nat} (hk : k < m) (t : Nat) (ht : 2 * (t : Int) ≤ c.getD k 0) :
    Met n m S U f c0 (addI (addI c k (-(2 * (t : Int)))) (S f k k) t) (addI r (U f k k) t) := by
  have hs := B.sm f k k hf hk hk
  have hu := B.um f k k hf hk hk
  have n1 : NN (addI c k (-(2 * (t : Int)))) := h.cn.add (by omega)
  have l1 : (addI c k (-(2 * (t : Int)))).length = m := by rw [addI_len, h.cl]
  have n2 : NN (addI (addI c k (-(2 * (t : Int)))) (S f k k) t) := n1.add (by have := n1.get (S f k k); omega)
  have n3 : NN (addI r (U f k k) t) := h.rn.add (by have := h.rn.get (U f k k); omega)
  refine ⟨by rw [addI_len, l1], by rw [addI_len, h.rl], n2, n3, ?_, ?_⟩
  · refine h.run.trans ?_
    have e1 := row_take (f := f) h.cn (i := k) (by rw [h.cl]; exact hk) (t := 2 * t) (by omega)
    rw [show (-((2 * t : Nat) : Int)) = -(2 * (t : Int)) by omega] at e1
    rw [e1, row_add n1 (by rw [l1]; exact hs), ups_add h.rn (by rw [h.rl]; exact hu)]
    have := run_many (S := S) (U := outU n U) hf hk (rowSt f (addI c k (-(2 * (t : Int)))) + upsSt n f r) t
    rw [show rowSt f (addI c k (-(2 * (t : Int)))) + many (2 * t) (one f k) + upsSt n f r = rowSt f (addI c k (-(2 * (t : Int)))) + upsSt n f r + many (2 * t) (one f k) from by funext p q; simp only [add_at]; omega]
    rw [show rowSt f (addI c k (-(2 * (t : Int)))) + many t (one f (S f k k)) + (upsSt n f r + many t (one (f + 1) (if f + 1 < n then U f k k else 0))) = rowSt f (addI c k (-(2 * (t : Int)))) + upsSt n f r + many t (one f (S f k k)) + many t (one (f + 1) (outU n U f k k)) from by
      show _ = _ + many t (one (f + 1) (if f + 1 < n then U f k k else 0))
      funext p q; simp only [add_at]; omega]
    exact this
  · rw [sum_addI (by rw [l1]; exact hs), sum_addI (by rw [h.cl]; exact hk), sum_addI (by rw [h.rl]; exact hu)]
    have := h.sum
    omega
/-- one meeting of two unlike, in rows -/
theorem Met.pair (B : Tabs n m S U) {f : Nat} {c0 c r : List Int} (h : Met n m S U f c0 c r) (hf : f < n) {a b : Nat} (ha : a < m) (hb : b < m) (hab : a ≠ b) (h1 : 1 ≤ c.getD a 0) (h2 : 1 ≤ c.getD b 0) :
    Met n m S U f c0 (addI (addI (addI c a (-1)) b (-1)) (S f a b) 1) (addI r (U f a b) 1) := by
  have hs := B.sm f a b hf ha hb
  have hu := B.um f a b hf ha hb
  have n1 : NN (addI c a (-1)) := h.cn.add (by omega)
  have l1 : (addI c a (-1)).length = m := by rw [addI_len, h.cl]
  have g1 : (addI c a (-1)).getD b 0 = c.getD b 0 := by rw [getD_addI (by rw [h.cl]; exact ha), if_neg (Ne.symm hab)]
  have n2 : NN (addI (addI c a (-1)) b (-1)) := n1.add (by omega)
  have l2 : (addI (addI c a (-1)) b (-1)).length = m := by rw [addI_len, l1]
  have n3 : NN (addI (addI (addI c a (-1)) b (-1)) (S f a b) 1) := n2.add (by have := n2.get (S f a b); omega)
  have n4 : NN (addI r (U f a b) 1) := h.rn.add (by have := h.rn.get (U f a b); omega)
  refine ⟨by rw [addI_len, l2], by rw [addI_len, h.rl], n3, n4, ?_, ?_⟩
  · refine h.run.trans ?_
    have e1 := row_take (f := f) h.cn (i := a) (by rw [h.cl]; exact ha) (t := 1) (by omega)
    have e2 := row_take (f := f) n1 (i := b) (by rw [l1]; exact hb) (t := 1) (by omega)
    have e3 := row_add (f := f) n2 (i := S f a b) (by rw [l2]; exact hs) 1
    have e4 := ups_add (n := n) (f := f) h.rn (i := U f a b) (by rw [h.rl]; exact hu) 1
    rw [show (-((1 : Nat) : Int)) = -1 from rfl] at e1 e2
    rw [show ((1 : Nat) : Int) = 1 from rfl] at e3 e4
    rw [e1, e2, e3, e4]
    refine .one ⟨rowSt f (addI (addI c a (-1)) b (-1)) + upsSt n f r, f, a, b, hf, ha, hb, ?_, ?_⟩
    · funext p q; simp only [add_at, many, Nat.one_mul]; omega
    · show _ = _ + _ + one (f + 1) (if f + 1 < n then U f a b else 0)
      funext p q; simp only [add_at, many, Nat.one_mul]; omega
  · rw [sum_addI (by rw [l2]; exact hs), sum_addI (by rw [l1]; exact hb), sum_addI (by rw [h.cl]; exact ha), sum_addI (by rw [h.rl]; exact hu)]
    have := h.sum
    omega
end
/-- who is here -/
def here (c : List Int) : List Nat := (List.range c.length).filter fun k => decide (c.getD k 0 ≠ 0)
end FmC
namespace FmC
section
variable {n m : Nat} {S U : Nat → Nat → Nat → Nat}
theorem met_start {f : Nat} {c : List Int} (hl : c.length = m) (hc : NN c) : Met n m S U f c c (List.replicate m 0) := by
  have z : ∀ a, (List.replicate m (0 : Int)).getD a 0 = 0 := fun a => by
    rw [List.getD_eq_getElem?_getD, List.getElem?_replicate]
    split <;> rfl
  have s : ∀ k, (List.replicate k (0 : Int)).sum = 0 := fun k => by
    induction k with
    | zero => rfl
    | succ k ih => rw [List.replicate_succ, List.sum_cons, ih]; rfl
  have u : upsSt n f (List.replicate m 0) = fun _ _ => 0 := by
    funext g a
    unfold upsSt cnt
    rw [z, s]
    simp
  refine ⟨hl, List.length_replicate, hc, fun x hx => by rw [List.eq_of_mem_replicate hx]; exact Int.le_refl _, ?_, by rw [s]; omega⟩
  have : rowSt f c + upsSt n f (List.replicate m 0) = rowSt f c := by
    rw [u]
    funext g a
    simp only [add_at]
    omega
  rw [this]
  exact .nil _
/-- rows of none and one -/
theorem sum_here {c : List Int} (hc : NN c) (h1 : ∀ k, k < c.length → c.getD k 0 ≤ 1) : ∀ i, i ≤ c.length → (c.take i).sum = (((List.range i).filter fun k => decide (c.getD k 0 ≠ 0)).length : Nat)
  | 0, _ => rfl
  | i + 1, hi => by
    have ih := sum_here hc h1 i (by omega)
    have hg : c[i]? = some (c.getD i 0) := by rw [List.getD_eq_getElem?_getD, List.getElem?_eq_getElem (by omega)]; rfl
    rw [List.take_add_one, hg, List.sum_append, ih, List.range_succ, List.filter_append, List.length_append]
    have a := hc.get i
    have b := h1 i (by omega)
    by_cases z : c.getD i 0 = 0
    · rw [z, show ([i].filter fun k => decide (c.getD k 0 ≠ 0)) = [] from by
        rw [List.filter_cons, if_neg (by rw [decide_eq_false (fun q => q z)]; decide)]; rfl]
      rfl
    · have e : c.getD i 0 = 1 := by omega
      rw [show ([i].filter fun k => decide (c.getD k 0 ≠ 0)) = [i] from by
        rw [List.filter_cons, if_pos (decide_eq_true z)]; rfl, e]
      show _ + (1 + 0 : Int) = ((_ + 1 : Nat) : Int)
      omega
theorem here_sum {c : List Int} (hc : NN c) (h1 : ∀ k, k < c.length → c.getD k 0 ≤ 1) : c.sum = ((here c).length : Nat) := by
  have := sum_here hc h1 c.length (Nat.le_refl _)
  rw [List.take_length] at this
  exact this
theorem here_mem {c : List Int} {k : Nat} (h : k ∈ here c) : k < c.length ∧ c.getD k 0 ≠ 0 := by
  unfold here at h
  rw [List.mem_filter, List.mem_range] at h
  exact ⟨h.1, of_decide_eq_true h.2⟩
theorem here_two {c : List Int} {a b : Nat} {l : List Nat} (h : here c = a :: b :: l) : a ≠ b := by
  have nd : (here c).Nodup := (List.nodup_range).filter _
  rw [h] at nd
  intro e
  subst e
  simp at nd
end
theorem addI_zero (c : List Int) (i : Nat) : addI c i 0 = c := by
  unfold addI
  rw [show c.getD i 0 + 0 = c.getD i 0 by omega, List.getD_eq_getElem?_getD]
  cases e : c[i]? with
  | none => exact List.set_eq_of_length_le (List.getElem?_eq_none_iff.mp e)
  | some x =>
    obtain ⟨h, rfl⟩ := List.getElem?_eq_some_iff.mp e
    exact List.set_getElem_self h
theorem addI_zero2 (c : List Int) (i j : Nat) : addI (addI c i (-(2 * ((0 : Nat) : Int)))) j ((0 : Nat) : Int) = c := by
  show addI (addI c i (-(2 * 0))) j 0 = c
  rw [show (-(2 * 0) : Int) = 0 from rfl, addI_zero, addI_zero]
end FmC
end FFmBatch
section FEN
set_option Elab.async false
set_option linter.all false
set_option maxRecDepth 100000
set_option maxHeartbeats 4000000
local macro_rules | `(tactic| walk_at "ne") => `(tactic| first | assumption | (apply Ne.symm; assumption) | exact L2.ne_of_none (by assumption) (by assumption) | exact Ne.symm (L2.ne_of_none (by assumption) (by assumption)))
local macro_rules | `(tactic| walk_at "hl") => `(tactic| first | assumption | exact L2.upd_same | (refine Eq.trans (L2.upd_ne (by walk_at "ne")) ?_; walk_at "hl"))
local macro_rules | `(tactic| walk_at "sd") => `(tactic| first | (with_reducible show (_ : Int) < _; omega) | (with_reducible show (_ : Int) ≤ _; omega) | assumption | decide | exact ⟨by assumption, by assumption⟩ | exact ⟨by decide, by decide⟩ | exact Or.inr ⟨by decide, by decide⟩ | exact Or.inl ⟨by omega, by omega⟩ | rfl)
local macro_rules | `(tactic| walk_at "st1") => `(tactic| first
  | refine ⟨_, rfl, ?_⟩
  | refine ⟨_, _, rfl, rfl, ?_⟩
  | refine ⟨_, _, rfl, ?_⟩
  | (refine ⟨_, _, _, _, rfl, rfl, L2.SqL.of (by walk_at "hl"), rfl, ?_⟩)
  | (refine ⟨_, _, _, _, rfl, rfl, L2.SqT.of (by walk_at "hl"), rfl, ?_⟩)
  | (refine ⟨_, _, _, _, rfl, rfl, (by walk_at "hl"), rfl, ?_⟩)
  | (refine And.intro (by walk_at "sd") ?_)
  )
local macro_rules | `(tactic| walk_at "st") => `(tactic| repeat walk_at "st1")
local macro_rules | `(tactic| walk_at "op") => `(tactic| try dsimp only [L2.tSeq, L2.tAsg, L2.tOp, L2.tVar, L2.tC, L2.gSub, L2.rI, L2.rI0, L2.rIxL, L2.rIxT, L2.rSetL, L2.tIfS, L2.tTest, L2.tRet, L2.gName, L2.tNext, L2.tAnd, L2.tOr, L2.tNot, L2.tAndV, L2.tOrV, L2.tNotV, L2.tB, L2.tCB, L2.tCons, L2.tNil, L2.tCall, L2.tTup, L2.tLst, L2.tChain, L2.tUn, L2.tPar, L2.tDrop, L2.tIf, L2.tBM, L2.tBM0, L2.rAppend, L2.rCat, L2.rIsi, L2.rIsiT, L2.gTup, L2.gCons, L2.gNil, Fm.tFor_eq, Fm.tLc_eq, Fm.tLc2_eq, L2.iTup, L2.iList, L2.iRng1, L2.iRng2, L2.tSl, L2.tPart, L2.tNoPart, L2.rSlL, L2.rEq, L2.rNe, L2.rU, L2.rEqD, L2.rNeD, Fm.tRevT, Fm.rLenS, Fm.rTupOf, Fm.rLstOf, L2.tDNewK, L2.tCallS, L2.WE, Fm.wKeep, Fm.rIsK, Fm.rIsKT, List.cons_append, List.nil_append, L2.tYes])
namespace Fm
open PySem PySem.Spec PyProof.Rows L2
section
variable {P : Program} {w : World} {K : PySem.W.Frag} {mg : Str → Option Value} {base : Heap}
/-! ### all that meet on a floor -/
theorem addI_is (c : List Int) (i : Nat) (z : Int) : FmC.addI c i z = addAt c i z := rfl
theorem aug_at {K : PySem.W.Frag} {to ti te : TE} {σ : L2.St} {G : Hp} {B : Addr} {c : List Int} {i : Nat} {op : Int → Int → Int} {Dn : Ends} {v z : Int} (ho : ∀ Q : VK, Q (.ref B) G → to σ G Q) (hi : ∀ Q : VK, Q (.int (i : Nat)) G → ti σ G Q) (he : ∀ Q : VK, Q (.int v) G → te σ G Q)
    (hB : G B = some (.lst (c.map V.int))) (h : i < c.length) (e : ∀ x, op x v = x + z) (hn : Dn.nx σ (upd G B (.lst ((FmC.addI c i z).map V.int)))) : tAugS to ti te (rGetL K) (ipI op) rSetL Dn σ G := by
  refine ho _ (hi _ ?_)
  refine ⟨B, _, i, _, rfl, rfl, SqL.of hB, getD_at h, he _ ?_⟩
  refine ⟨_, _, rfl, rfl, ?_⟩
  refine ⟨B, _, _, i, rfl, rfl, hB, ixN_of (by rw [List.length_map]; exact h), ?_⟩
  rw [e, ← map_addAt]
  exact hn
theorem FloorAt.ext {H H' : Hp} {af t0 t1 L : Addr} {m : Nat} {S U : Nat → Nat → Nat} {xs : List V} (h : FloorAt H af m S U t0 t1) (hL : H L = some (.lst xs)) (e : Ext L H H') : FloorAt H' af m S U t0 t1 := by
  have ne : ∀ {b : Addr} {ys : List V}, H b = some (.tup ys) → b ≠ L := fun {b ys} hb z => by
    rw [z, hL] at hb
    cases hb
  refine ⟨e _ _ h.at_ (ne h.at_), fun a b ha hb => ?_, fun a b ha hb => ?_⟩
  · obtain ⟨ss, ra, ya, h1, h2, h3, h4, h5⟩ := h.s a b ha hb
    exact ⟨ss, ra, ya, e _ _ h1 (ne h1), h2, e _ _ h3 (ne h3), h4, h5⟩
  · obtain ⟨ss, ra, ya, h1, h2, h3, h4, h5⟩ := h.u a b ha hb
    exact ⟨ss, ra, ya, e _ _ h1 (ne h1), h2, e _ _ h3 (ne h3), h4, h5⟩
theorem rep_zero (m : Nat) : (List.replicate (m : Int).toNat [V.int 0]).flatten = (List.replicate m (0 : Int)).map V.int := by
  rw [Int.toNat_natCast, List.map_replicate]
  induction m with
  | zero => rfl
  | succ n ih => rw [List.replicate_succ, List.flatten_cons, ih, List.replicate_succ]; rfl
def hereTo (c : List Int) (i : Nat) : List Nat := (List.range i).filter fun k => decide (c.getD k 0 ≠ 0)
theorem hereTo_succ (c : List Int) (i : Nat) : hereTo c (i + 1) = hereTo c i ++ if c.getD i 0 = 0 then [] else [i] := by
  unfold hereTo
  rw [List.range_succ, List.filter_append]
  congr 1
  by_cases z : c.getD i 0 = 0
  · rw [if_pos z, List.filter_cons, if_neg (by rw [decide_eq_false (fun q => q z)]; decide)]
    rfl
  · rw [if_neg z, List.filter_cons, if_pos (decide_eq_true z)]
    rfl
theorem hereTo_len (c : List Int) (i : Nat) : (hereTo c i).length ≤ i := by
  unfold hereTo
  refine Nat.le_trans (List.length_filter_le _ _) ?_
  rw [List.length_range]
  exact Nat.le_refl _
def spMeetAll : Sp := fun vs H Q _ => ∃ (af t0 t1 L : Addr) (ss : List V) (n m f : Nat) (S U : Nat → Nat → Nat → Nat) (c : List Int), vs = [.ref af, .ref L] ∧ FloorAt H af m (S f) (U f) t0 t1 ∧ H t0 = some (.tup ss) ∧ ss.length = m ∧ f < n ∧ FmC.Tabs n m S U ∧ m ≤ 6 ∧
  H L = some (.lst (c.map V.int)) ∧ c.length = m ∧ FmC.NN c ∧ c.sum < 10 ^ 40 ∧
  ∀ R c' r H', FmC.Met n m S U f c c' r → c'.sum ≤ 1 → H R = none → H' L = some (.lst (c'.map V.int)) → H' R = some (.lst (r.map V.int)) → Ext L H H' → Q (.ref R) H'
end
end Fm
end FEN
section FFmEnds
/-! Floor by floor to the end. Pure arithmetic, nothing of the model. -/
set_option linter.all false
namespace FmC
def stSt (n : Nat) (rows : List (List Int)) (out : Int) : St := fun g a => if g < n then cnt (rows.getD g []) a else if g = n ∧ a = 0 then out.toNat else 0
/-- the floors below i are told, r come to floor i -/
def curSt (n : Nat) (rows : List (List Int)) (out : Int) (i : Nat) (told : List (List Int)) (r : List Int) : St := fun g a =>
  (if g < i then cnt (told.getD g []) a else if g < n then cnt (rows.getD g []) a else if g = n ∧ a = 0 then out.toNat else 0) + (if g = i then (if i < n then cnt r a else if a = 0 then r.sum.toNat else 0) else 0)
def addR (c r : List Int) : List Int := List.zipWith (· + ·) c r
theorem addR_len {c r : List Int} {m : Nat} (h1 : c.length = m) (h2 : r.length = m) : (addR c r).length = m := by unfold addR; rw [List.length_zipWith]; omega
theorem addR_get {c r : List Int} (h : c.length = r.length) (a : Nat) : (addR c r).getD a 0 = c.getD a 0 + r.getD a 0 := by
  unfold addR
  rw [List.getD_eq_getElem?_getD, List.getD_eq_getElem?_getD, List.getD_eq_getElem?_getD, List.getElem?_zipWith]
  by_cases ha : a < c.length
  · rw [List.getElem?_eq_getElem ha, List.getElem?_eq_getElem (by omega)]
    rfl
  · rw [List.getElem?_eq_none (by omega), List.getElem?_eq_none (by omega)]
    rfl
theorem addR_nn {c r : List Int} (hc : NN c) (hr : NN r) : NN (addR c r) := fun x hx => by
  unfold addR at hx
  obtain ⟨i, hi⟩ := List.mem_iff_getElem?.mp hx
  rw [List.getElem?_zipWith] at hi
  cases e1 : c[i]? with
  | none => rw [e1] at hi; cases hi
  | some p =>
    cases e2 : r[i]? with
    | none => rw [e1, e2] at hi; cases hi
    | some q =>
      rw [e1, e2] at hi
      cases hi
      have h1 := hc p (List.mem_of_getElem? e1)
      have h2 := hr q (List.mem_of_getElem? e2)
      show 0 ≤ p + q
      omega
theorem addR_sum : ∀ {c r : List Int}, c.length = r.length → (addR c r).sum = c.sum + r.sum
  | [], [], _ => rfl
  | x :: c, y :: r, h => by
    have := addR_sum (c := c) (r := r) (by simpa using h)
    show (x + y) + (addR c r).sum = (x + c.sum) + (y + r.sum)
    omega
section
variable {n m : Nat} {S U : Nat → Nat → Nat → Nat}
theorem cur_start (rows : List (List Int)) (out : Int) (hn : 1 ≤ n) : curSt n rows out 0 [] (List.replicate m 0) = stSt n rows out := by
  funext g a
  unfold curSt stSt
  rw [if_neg (Nat.not_lt_zero g)]
  by_cases h : g = 0
  · subst h
    have hn0 : 0 < n := by omega
    simp only [if_pos hn0, if_true]
    have : cnt (List.replicate m (0 : Int)) a = 0 := by
      unfold cnt
      rw [List.getD_eq_getElem?_getD, List.getElem?_replicate]
      split <;> rfl
    rw [this]
    omega
  · rw [if_neg h]
    omega
theorem cur_step {rows : List (List Int)} {out : Int} {i : Nat} {told : List (List Int)} {c r c' r' : List Int} (hi : i < n) (hc : rows[i]? = some c) (hcl : c.length = m) (hrl : r.length = m) (hcn : NN c) (hrn : NN r) (ht : told.length = i) (M : Met n m S U i (addR c r) c' r') :
    Run n m S (outU n U) (curSt n rows out i told r) (curSt n rows out (i + 1) (told ++ [c']) r') := by
  have hgd : rows.getD i [] = c := by rw [List.getD_eq_getElem?_getD, hc]; rfl
  have e1 : curSt n rows out i told r = (fun g a => if g < i then cnt (told.getD g []) a else if g = i then 0 else if g < n then cnt (rows.getD g []) a else if g = n ∧ a = 0 then out.toNat else 0) + rowSt i (addR c r) := by
    funext g a
    simp only [add_at]
    unfold curSt rowSt
    by_cases h : g = i
    · subst h
      rw [if_neg (Nat.lt_irrefl _), if_pos hi, if_pos rfl, if_pos hi, if_neg (Nat.lt_irrefl _), if_pos rfl, if_pos rfl, hgd]
      unfold cnt
      rw [addR_get (by omega)]
      have := hcn.get a
      have := hrn.get a
      omega
    · rw [if_neg h, if_neg h, if_neg h]
  have e2 : curSt n rows out (i + 1) (told ++ [c']) r' = (fun g a => if g < i then cnt (told.getD g []) a else if g = i then 0 else if g < n then cnt (rows.getD g []) a else if g = n ∧ a = 0 then out.toNat else 0) + (rowSt i c' + upsSt n i r') := by
    funext g a
    simp only [add_at]
    unfold curSt rowSt upsSt
    by_cases h : g = i
    · subst h
      rw [if_pos (Nat.lt_succ_self _), if_neg (by omega : ¬ g = g + 1), if_neg (Nat.lt_irrefl _), if_pos rfl, if_pos rfl]
      have : (told ++ [c']).getD g [] = c' := by
        rw [List.getD_eq_getElem?_getD, List.getElem?_append_right (by omega), ht, Nat.sub_self]
        rfl
      rw [this]
      omega
    · rw [if_neg h, if_neg h]
      by_cases h2 : g < i
      · rw [if_pos (by omega : g < i + 1), if_pos h2, if_neg (by omega : ¬ g = i + 1)]
        have : (told ++ [c']).getD g [] = told.getD g [] := by
          rw [List.getD_eq_getElem?_getD, List.getElem?_append_left (by omega), List.getD_eq_getElem?_getD]
        rw [this]
      · rw [if_neg (by omega : ¬ g < i + 1), if_neg h2]
        omega
  rw [e1, e2]
  exact M.run.beside _
theorem cur_end {rows told : List (List Int)} {out : Int} {r : List Int} (hr : NN r) (ho : 0 ≤ out) : curSt n rows out n told r = stSt n told (out + r.sum) := by
  funext g a
  unfold curSt stSt
  by_cases h : g < n
  · rw [if_pos h, if_pos h, if_neg (by omega : ¬ g = n)]
    omega
  · rw [if_neg h, if_neg h, if_neg h]
    by_cases e : g = n
    · subst e
      rw [if_pos rfl, if_neg (Nat.lt_irrefl _)]
      have := hr.sum
      by_cases z : a = 0
      · rw [if_pos ⟨rfl, z⟩, if_pos z, if_pos ⟨rfl, z⟩]
        omega
      · rw [if_neg (fun q => z q.2), if_neg z, if_neg (fun q => z q.2)]
    · rw [if_neg e, if_neg (fun q => e q.1), if_neg (fun q => e q.1)]
end
end FmC
end FFmEnds
section FFmZipTM
set_option Elab.async false
set_option linter.all false
set_option maxRecDepth 100000
set_option maxHeartbeats 4000000
namespace Fm
open PySem PySem.Spec PyProof.Rows L2
/-! ### zip(a list, a tuple) -/
def ItzTM (K : PySem.W.Frag) (a b : Addr) : It :=
  ⟨fun i H => ∃ (xs ys : List V) (x y : V), SqT K H a xs ∧ SqL K H b ys ∧ xs[i]? = some x ∧ ys[i]? = some y,
    fun i H v H' => ∃ (T : Addr) (x y : V), v = .ref T ∧ H T = none ∧ H' = upd H T (.tup [x, y]) ∧ (∀ xs, SqT K H a xs → xs[i]? = some x) ∧ ∀ ys, SqL K H b ys → ys[i]? = some y,
    fun i H => ∃ xs ys : List V, SqT K H a xs ∧ SqL K H b ys ∧ i ≤ xs.length ∧ i ≤ ys.length ∧ (i = xs.length ∨ i = ys.length)⟩
abbrev h1TM (h : Heap) (a : Addr) : Heap := h.push { cls := .type "tuple_iterator", data := .fields #[.ref a, .int 0 0] }
abbrev h2TM (h : Heap) (a b : Addr) : Heap := (h1TM h a).push { cls := .type "list_iterator", data := .fields #[.ref b, .int 0 0] }
abbrev h3TM (h : Heap) (a b : Addr) : Heap := (h2TM h a b).push { cls := .type "tuple", data := .seq #[.ref h.objs.size, .ref (h1TM h a).objs.size] }
abbrev h4TM (h : Heap) (a b : Addr) : Heap := (h3TM h a b).push { cls := .type "tuple", data := .seq #[.none, .none] }
abbrev h5TM (h : Heap) (a b : Addr) : Heap := (h4TM h a b).push { cls := .type "zip", data := .fields #[.none, .bool false, .bool false, .ref (h2TM h a b).objs.size, .ref (h3TM h a b).objs.size] }
theorem meetsTM (a b : Addr) (xs ys : Array Value) : Meets (Builtin.«zip.__new__» ⟨[.type "zip", .ref a, .ref b], []⟩) (fun _ R s => s.heap.IsTuple a xs ∧ s.heap.IsList b ys ∧ R (.ok (.ret (.ref (h4TM s.heap a b).objs.size))) { s with heap := h5TM s.heap a b }) :=
  .of_wp fun prog w A R s h => by
    obtain ⟨hp, g, d, tk, os⟩ := s
    obtain ⟨ha, hb, h⟩ := h
    have sz := sub_zip
    have hA : Heap.IsTuple (Shared.heap ⟨hp, g, d, tk, os⟩) a xs := ha
    have hB : Heap.IsList (Shared.heap ⟨hp.push { cls := .type "tuple_iterator", data := .fields #[.ref a, .int 0 0] }, g, d, tk, os⟩) b ys := Heap.IsList.push hb _
    wp_walk using wpAny_pyIter_tuple hA, wpAny_pyIter_list hB
    exact ⟨_, rfl, h⟩
theorem callTM {prog : Program} {w : World} {A : Around} {E : Value → Shared → Prop} {s : Shared} {a b : Addr} {xs ys : Array Value} {Q : Value → Shared → Prop} (ha : s.heap.IsTuple a xs) (hb : s.heap.IsList b ys)
    (h : ∀ h', IsZip h' (s.heap.objs.size + 4) (s.heap.objs.size + 2) (s.heap.objs.size + 3) .none → IsPair h' (s.heap.objs.size + 2) (.ref s.heap.objs.size) (.ref (s.heap.objs.size + 1)) → IsPair h' (s.heap.objs.size + 3) .none .none →
      h'.IsTupleIter s.heap.objs.size a 0 → h'.IsListIter (s.heap.objs.size + 1) b 0 → (∀ c o, s.heap.get? c = some o → h'.get? c = some o) → Q (.ref (s.heap.objs.size + 4)) { s with heap := h' }) : wpAny (model prog w) A (call (.type "zip") [.ref a, .ref b]) Q E s := by
  refine callType_new F.called_zip (by decide) (F.typeCall_zip_2 _ _) (F.newCall_zip_2 _ _) (fun obj => F.args_object_init_3 obj _ _) F.entry_zip_new (meetsTM a b xs ys) ⟨ha, hb, ?_⟩
  have e1 : (h1TM s.heap a).objs.size = s.heap.objs.size + 1 := Heap.size_push ..
  have e2 : (h2TM s.heap a b).objs.size = s.heap.objs.size + 2 := by rw [Heap.size_push, e1]
  have e3 : (h3TM s.heap a b).objs.size = s.heap.objs.size + 3 := by rw [Heap.size_push, e2]
  have e4 : (h4TM s.heap a b).objs.size = s.heap.objs.size + 4 := by rw [Heap.size_push, e3]
  have f5 : (h5TM s.heap a b).get? (h4TM s.heap a b).objs.size = some _ := Heap.get?_push_size _ rfl
  have f4 : (h5TM s.heap a b).get? (h3TM s.heap a b).objs.size = some _ := Heap.get?_push_of_some _ (Heap.get?_push_size _ rfl)
  have f3 : (h5TM s.heap a b).get? (h2TM s.heap a b).objs.size = some _ := Heap.get?_push_of_some _ (Heap.get?_push_of_some _ (Heap.get?_push_size _ rfl))
  have f2 : (h5TM s.heap a b).get? (h1TM s.heap a).objs.size = some _ := Heap.get?_push_of_some _ (Heap.get?_push_of_some _ (Heap.get?_push_of_some _ (Heap.get?_push_size _ rfl)))
  have f1 : (h5TM s.heap a b).get? s.heap.objs.size = some _ := Heap.get?_push_of_some _ (Heap.get?_push_of_some _ (Heap.get?_push_of_some _ (Heap.get?_push_of_some _ (Heap.get?_push_size _ rfl))))
  rw [e2, e3, e4] at f5
  rw [e3] at f4
  rw [e1, e2] at f3
  rw [e1] at f2
  show _ ∧ _
  rw [e4]
  exact ⟨⟨_, f5, rfl⟩, h _ f5 f3 f4 ⟨_, f1, rfl, rfl⟩ ⟨_, f2, rfl, rfl⟩ fun c o x => Heap.get?_push_of_some _ (Heap.get?_push_of_some _ (Heap.get?_push_of_some _ (Heap.get?_push_of_some _ (Heap.get?_push_of_some _ x))))⟩
theorem turn_zipTM {P : Program} {w : World} {K : PySem.W.Frag} {elts : List Expr} {kk : Nat} {tpos : Pos} {a b z TI TO i1 i2 : Addr} (D : ZipApart z TI TO i1 i2 a b) :
    Turn P w K (.Tuple elts kk tpos) (ItzTM K a b) [z, TI, TO, i1, i2] z (fun i h => IsZip h z TI TO .none ∧ IsPair h TI (.ref i1) (.ref i2) ∧ (∃ x y, IsPair h TO x y) ∧ h.IsTupleIter i1 a i ∧ h.IsListIter i2 b i) := by
  have Sp : ZipSep2 z TI TO i1 i2 [i1, a] [i2, b] := ⟨D.TIz, D.TOz, D.TITO, D.TIi1, by simp, by simp [D.i1z.symm, D.l1z.symm], by simp [D.TOi1, D.l1TO.symm], D.TIi2, by simp, by simp [D.i2z.symm, D.l2z.symm], by simp [D.TOi2, D.l2TO.symm], by simp [D.i12, D.l2i1.symm], by simp [D.i12.symm, D.l1i2.symm]⟩
  exact {
    mem := by simp
    obj := fun i h st c hc => by
      obtain ⟨hz, hTI, ⟨x, y, hTO⟩, ⟨o1, e1, _, d1⟩, ⟨o2, e2, _, d2⟩⟩ := st
      simp only [List.mem_cons, List.not_mem_nil, or_false] at hc
      rcases hc with rfl | rfl | rfl | rfl | rfl
      · exact ⟨_, hz, fun v q => nomatch q⟩
      · exact ⟨_, hTI, fun v q => nomatch q⟩
      · exact ⟨_, hTO, fun v q => nomatch q⟩
      · exact ⟨o1, e1, fun v q => by rw [d1] at q; cases q⟩
      · exact ⟨o2, e2, fun v q => by rw [d2] at q; cases q⟩
    keep := fun i h h' st k => by
      obtain ⟨hz, hTI, ⟨x, y, hTO⟩, h1, h2⟩ := st
      exact ⟨k z (by simp) _ hz, k TI (by simp) _ hTI, ⟨x, y, k TO (by simp) _ hTO⟩, h1.at fun o q => k i1 (by simp) o q, h2.at fun o q => k i2 (by simp) o q⟩
    item := by
      intro X hP hw hK hc i pins s σ H E I hf st hg
      subst hP hw hK
      obtain ⟨hz, hTI, ⟨x0, y0, hTO⟩, h1, h2⟩ := st
      obtain ⟨xs, ys, x, y, qx, qy, hx, hy⟩ := hg
      obtain ⟨its2, rv2, pl, _⟩ := I.list qy
      obtain ⟨its, rv, ⟨o2, ho2, hc2, n2, hd2⟩, _⟩ := I.tuple qx
      have ht : s.heap.IsTuple a its.toArray := ⟨o2, ho2, hc2, n2, hd2⟩
      obtain ⟨u, hu, ru⟩ := rv.get hx
      obtain ⟨u2, hu2, ru2⟩ := rv2.get hy
      have lt1 : i < its.toArray.size := by
        rw [List.size_toArray, ← rv.length]
        exact (List.getElem?_eq_some_iff.mp hx).1
      have lt2 : i < its2.toArray.size := by
        rw [List.size_toArray, ← rv2.length]
        exact (List.getElem?_eq_some_iff.mp hy).1
      have hzl : z < s.heap.objs.size := Heap.lt_size hz
      refine wpAny_pyNext_zipD2_item Sp (Draws.tuple (prog := X.prog) (w := X.w) (A := X.A.in1) (show X.A.in1.handled = none from I.ok.hd hc) i1 a D.l1i1 its.toArray) (Draws.list (prog := X.prog) (w := X.w) (A := X.A.in1) (show X.A.in1.handled = none from I.ok.hd hc) i2 b D.l2i2 its2.toArray)
        hz hTI hTO ⟨h1, ht⟩ ⟨h2, pl.isList⟩ lt1 lt2 fun v1 v2 h' tk e1 e2 hz' hTO' st1 st2 hnew hsz hk => ?_
      have ev1 : v1 = u := by
        have q : its.toArray[i]? = some u := by simpa using hu
        exact (Option.some.inj (q.symm.trans e1)).symm
      have ev2 : v2 = u2 := by
        have q : its2.toArray[i]? = some u2 := by simpa using hu2
        exact (Option.some.inj (q.symm.trans e2)).symm
      subst ev1 ev2
      refine ⟨_, rfl, wpAny_letOwnedTupleGo_zip (s := { s with heap := h', toks := tk }) hz' fun h3 hz3 sb => ?_⟩
      have hT3 : h3.get? s.heap.objs.size = some { cls := .type "tuple", data := .seq #[v1, v2] } := (sb.2 _ (Nat.ne_of_gt hzl)).trans hnew
      have new : ObjOk X.prog X.w (upd H s.heap.objs.size (.tup [x, y])) h3 s.heap.objs.size (.tup [x, y]) := ⟨show 2 ≤ sizeLine by decide, [v1, v2], .cons ru (.cons ru2 .nil), _, hT3, rfl, _, rfl⟩
      have old : ∀ c ob, c ∉ [z, TI, TO, i1, i2] → s.heap.get? c = some ob → h3.get? c = some ob := fun c ob hb q => by
        simp only [List.mem_cons, List.not_mem_nil, or_false, not_or] at hb
        exact (sb.2 c hb.1).trans (hk c ob hb.1 hb.2.2.1 hb.2.2.2.1 hb.2.2.2.2 q)
      have I1 := I.turnedNew (t' := tk) (ch := [z, TI, TO, i1, i2]) old hf (Nat.le_refl _) new
      refine ⟨.ref s.heap.objs.size, _, I1, rfl, ⟨_, x, y, rfl, I.hok.fresh (Nat.le_refl _), rfl, fun l hl => by rw [I.tuple_inj hl qx]; exact hx, fun l hl => by rw [I.list_inj hl qy]; exact hy⟩, ⟨hz3, ?_, ⟨_, _, (sb.2 _ D.TOz).trans hTO'⟩, st1.1.at fun ob q => (sb.2 i1 D.i1z).trans q, st2.1.at fun ob q => (sb.2 i2 D.i2z).trans q⟩, fun c hcm => ?_⟩
      · exact (sb.2 _ D.TIz).trans (hk _ _ D.TIz D.TITO D.TIi1 D.TIi2 hTI)
      · have lt : c < s.heap.objs.size := by
          have q := hcm
          simp only [List.mem_cons, List.not_mem_nil, or_false] at q
          rcases q with rfl | rfl | rfl | rfl | rfl
          · exact hzl
          · exact Heap.lt_size hTI
          · exact Heap.lt_size hTO
          · obtain ⟨_, q, _⟩ := h1; exact Heap.lt_size q
          · obtain ⟨_, q, _⟩ := h2; exact Heap.lt_size q
        rw [upd_ne (Nat.ne_of_lt lt)]
        exact (hf c hcm).1
    done := by
      intro X hP hw hK hc i pins s σ H E I hf st hg
      subst hP hw hK
      obtain ⟨hz, hTI, ⟨x0, y0, hTO⟩, h1, h2⟩ := st
      obtain ⟨xs, ys, qx, qy, l1, l2, hend⟩ := hg
      obtain ⟨its2, rv2, pl, _⟩ := I.list qy
      obtain ⟨its, rv, ⟨o2, ho2, hc2, n2, hd2⟩, _⟩ := I.tuple qx
      have ht : s.heap.IsTuple a its.toArray := ⟨o2, ho2, hc2, n2, hd2⟩
      have z1 : its.toArray.size = xs.length := by rw [List.size_toArray, rv.length]
      have z2 : its2.toArray.size = ys.length := by rw [List.size_toArray, rv2.length]
      refine wpAny_pyNext_zipD2_end Sp (Draws.tuple (prog := X.prog) (w := X.w) (A := X.A.in1) (show X.A.in1.handled = none from I.ok.hd hc) i1 a D.l1i1 its.toArray) (Draws.list (prog := X.prog) (w := X.w) (A := X.A.in1) (show X.A.in1.handled = none from I.ok.hd hc) i2 b D.l2i2 its2.toArray)
        hz hTI hTO ⟨h1, ht⟩ ⟨h2, pl.isList⟩ (by omega) (by omega) (by omega) fun h' tk hk => ⟨rfl, I.turnedL (t' := tk) (ch := [z, TI, TO, i1, i2]) (fun c o hb q => ?_) hf⟩
      simp only [List.mem_cons, List.not_mem_nil, or_false, not_or] at hb
      exact hk c o hb.1 hb.2.2.1 hb.2.2.2.1 hb.2.2.2.2 q
    self := fun A i s Q E st h => wpAny_pyIter_zip st.1 h }
def iZipTM (K : PySem.W.Frag) (ta : TA) : TI := fun σ H R => ta σ H fun vs H1 => ∃ (a b : Addr) (xs ys : List V), vs = [.ref a, .ref b] ∧ SqT K H1 a xs ∧ SqL K H1 b ys ∧ R (ItzTM K a b) H1
theorem pi_zipTM {X : Cx} {e e2 : Expr} {ta : TA} {p pos tpos : Pos} {elts : List Expr} {kk : Nat} (hg : Gl X "zip") (hm : X.mg "zip" = none) (ha : PA X [e, e2] ta)
    (hs : starEach [e, e2] X.env = (false, eval e X.env) :: starEach [e2] X.env := by rfl) (hpl : (backTo pos (starEach [e2] X.env)).any (·.1) = false := by rfl) : PI X (.Tuple elts kk tpos) (.Call (.Name "zip" p) [e, e2] [] pos) (iZipTM X.K ta) := by
  refine ⟨fun pins s σ H R I h => Call_ (ld_blt I hg hm PyProof.Rows.boot_zip (PyProof.Rows.callWith_type1 (thn (ha.run pos pins s σ H _ I h) fun us s1 ⟨vs, H1, I1, r1, a, b, xs, ys, ex, qx, qy, q⟩ => ?_) hs hpl))⟩
  subst ex
  obtain ⟨w1, w2, rfl, ra, rb⟩ := vals2 r1
  cases ra
  cases rb
  obtain ⟨its2, rv2, pl, _⟩ := I1.list qy
  obtain ⟨its, rv, ⟨o2, ho2, hc2, n2, hd2⟩, _⟩ := I1.tuple qx
  have ht : s1.heap.IsTuple a its.toArray := ⟨o2, ho2, hc2, n2, hd2⟩
  refine callTM ht pl.isList fun h' hz hTI hTO h1 h2 hk => wpAny_pyIter_zip hz ?_
  have I2 : Inv X pins σ H1 { s1 with heap := h' } := I1.kept (t' := s1.toks) hk
  refine ⟨s1.heap.objs.size + 4, [s1.heap.objs.size + 4, s1.heap.objs.size + 2, s1.heap.objs.size + 3, s1.heap.objs.size, s1.heap.objs.size + 1], _, _, H1, rfl, I2, turn_zipTM (PySem.W.ktu_apart s1.heap.objs.size a b (Heap.lt_size ho2) pl.lt), ⟨hz, hTI, ⟨_, _, hTO⟩, h1, h2⟩, fun c hc => ?_, q⟩
  have le : s1.heap.objs.size ≤ c := by
    simp only [List.mem_cons, List.not_mem_nil, or_false] at hc
    rcases hc with rfl | rfl | rfl | rfl | rfl
    · exact Nat.le_add_right _ _
    · exact Nat.le_add_right _ _
    · exact Nat.le_add_right _ _
    · exact Nat.le_refl _
    · exact Nat.le_add_right _ _
  exact I1.fpOk le (I1.hok.fresh le)
theorem walk_zipTM {K : PySem.W.Frag} {a b : Addr} {xs ys : List V} (hl : xs.length = ys.length) : Walk (ItzTM K a b) xs.length (fun H => SqT K H a xs ∧ SqL K H b ys) (YPair (fun i => xs[i]?) (fun i => ys[i]?)) := by
  refine ⟨fun i H hi q => ⟨xs, ys, xs[i], ys[i]'(by omega), q.1, q.2, List.getElem?_eq_getElem hi, List.getElem?_eq_getElem _⟩, fun H q => ⟨xs, ys, q.1, q.2, Nat.le_refl _, by omega, .inl rfl⟩, fun i H v H' hi q y => ?_⟩
  obtain ⟨T, x, y, h1, h2, h3, h4, h5⟩ := y
  exact ⟨T, x, y, h1, h2, h3, h4 xs q.1, h5 ys q.2⟩
end Fm
end FFmZipTM
section FEO
set_option Elab.async false
set_option linter.all false
set_option maxRecDepth 100000
set_option maxHeartbeats 4000000
local macro_rules | `(tactic| walk_at "ne") => `(tactic| first | assumption | (apply Ne.symm; assumption) | exact L2.ne_of_none (by assumption) (by assumption) | exact Ne.symm (L2.ne_of_none (by assumption) (by assumption)))
local macro_rules | `(tactic| walk_at "hl") => `(tactic| first | assumption | exact L2.upd_same | (refine Eq.trans (L2.upd_ne (by walk_at "ne")) ?_; walk_at "hl"))
local macro_rules | `(tactic| walk_at "sd") => `(tactic| first | (with_reducible show (_ : Int) < _; omega) | (with_reducible show (_ : Int) ≤ _; omega) | assumption | decide | exact ⟨by assumption, by assumption⟩ | exact ⟨by decide, by decide⟩ | exact Or.inr ⟨by decide, by decide⟩ | exact Or.inl ⟨by omega, by omega⟩ | rfl)
local macro_rules | `(tactic| walk_at "st1") => `(tactic| first
  | refine ⟨_, rfl, ?_⟩
  | refine ⟨_, _, rfl, rfl, ?_⟩
  | refine ⟨_, _, rfl, ?_⟩
  | (refine ⟨_, _, _, _, rfl, rfl, L2.SqL.of (by walk_at "hl"), rfl, ?_⟩)
  | (refine ⟨_, _, _, _, rfl, rfl, L2.SqT.of (by walk_at "hl"), rfl, ?_⟩)
  | (refine ⟨_, _, _, _, rfl, rfl, (by walk_at "hl"), rfl, ?_⟩)
  | (refine And.intro (by walk_at "sd") ?_)
  )
local macro_rules | `(tactic| walk_at "st") => `(tactic| repeat walk_at "st1")
local macro_rules | `(tactic| walk_at "op") => `(tactic| try dsimp only [L2.tSeq, L2.tAsg, L2.tOp, L2.tVar, L2.tC, L2.gSub, L2.rI, L2.rI0, L2.rIxL, L2.rIxT, L2.rSetL, L2.tIfS, L2.tTest, L2.tRet, L2.gName, L2.tNext, L2.tAnd, L2.tOr, L2.tNot, L2.tAndV, L2.tOrV, L2.tNotV, L2.tB, L2.tCB, L2.tCons, L2.tNil, L2.tCall, L2.tTup, L2.tLst, L2.tChain, L2.tUn, L2.tPar, L2.tDrop, L2.tIf, L2.tBM, L2.tBM0, L2.rAppend, L2.rCat, L2.rIsi, L2.rIsiT, L2.gTup, L2.gCons, L2.gNil, Fm.tFor_eq, Fm.tLc_eq, Fm.tLc2_eq, L2.iTup, L2.iList, L2.iRng1, L2.iRng2, L2.tSl, L2.tPart, L2.tNoPart, L2.rSlL, L2.rEq, L2.rNe, L2.rU, L2.rEqD, L2.rNeD, Fm.tRevT, Fm.rLenS, Fm.rTupOf, Fm.rLstOf, L2.tDNewK, L2.tCallS, L2.WE, Fm.wKeep, Fm.rIsK, Fm.rIsKT, List.cons_append, List.nil_append, L2.tYes])
namespace Fm
open PySem PySem.Spec PyProof.Rows L2
section
variable {P : Program} {w : World} {K : PySem.W.Frag} {mg : Str → Option Value} {base : Heap}
/-! ### the end -/
theorem tk_snoc {α : Type} {l : List α} {i : Nat} {x : α} (h : l[i]? = some x) : l.take (i + 1) = l.take i ++ [x] := by rw [List.take_add_one, h]; rfl
theorem e36 : (10 : Int) ^ 36 = 1000000000000000000000000000000000000 := by decide
theorem e40 : (10 : Int) ^ 40 = 10000000000000000000000000000000000000000 := by decide
theorem noList_ints' (r : List Int) : noList (rowD r) = true := noList_of fun e he => by
  obtain ⟨n, _, rfl⟩ := List.mem_map.mp he
  unfold noList
  rfl
theorem tabs_of {fs : List PyData} {m n : Nat} (hN : HouseN m n (.tuple fs)) (hgo : goLt fs m n) : FmC.Tabs n m (goN fs 0) (goN fs 1) := by
  obtain ⟨_, _, _, _, _, h1, _⟩ := id hN
  exact ⟨h1, fun f a b hf ha hb => goN_comm hN hf (by decide) ha hb, fun f a b hf ha hb => goN_comm hN hf (by decide) ha hb, fun f a b hf ha hb => hgo 0 (by decide) f hf a b ha hb, fun f a b hf ha hb => hgo 1 (by decide) f hf a b ha hb⟩
theorem stay_len {H : Hp} {ph : Addr} {fs : List PyData} {m n f : Nat} {ah af t0 t1 : Addr} {hs : List V} {S U : Nat → Nat → Nat} (hD : Dat H ph (.ref ah) (.tuple fs)) (hN : HouseN m n (.tuple fs)) (hf : f < n) (g1 : H ah = some (.tup hs)) (g3 : hs[f]? = some (V.ref af)) (hF : FloorAt H af m S U t0 t1) :
    ∃ ss : List V, H t0 = some (.tup ss) ∧ ss.length = m := by
  obtain ⟨fs', e, hl, _, _, _, _, hFl⟩ := id hN
  cases e
  have hfl : f < fs.length := by omega
  obtain ⟨sd, ud, e1, ⟨rs, e2, l2, _⟩, _⟩ := hFl fs[f] (List.getElem_mem hfl)
  subst e2
  obtain ⟨ah', hs', e', hah', _, hh⟩ := hD.isTup
  cases e'
  rw [g1] at hah'
  cases hah'
  obtain ⟨x, hx, hdx⟩ := hh.back (i := f) (d := fs[f]) (List.getElem?_eq_getElem _)
  rw [g3] at hx
  cases hx
  rw [e1] at hdx
  obtain ⟨af', ys, e3, haf, _, hy⟩ := hdx.isTup
  cases e3
  rw [hF.at_] at haf
  cases haf
  obtain ⟨s0, ss, e4, hs0, _, hss⟩ := (hy.2 0 _ _ rfl rfl).isTup
  cases e4
  exact ⟨ss, hs0, by rw [hss.1, l2]⟩
/-- what end_of tells: rows at rest to which a run leads -/
structure EndOf (fs : List PyData) (m n : Nat) (rows : List (List Int)) (out : Int) (rows' : List (List Int)) (out' : Int) : Prop where
  len : rows'.length = n
  row : ∀ r ∈ rows', r.length = m ∧ FmC.NN r ∧ r.sum ≤ 1
  pos : 0 ≤ out'
  run : FmC.Run n m (goN fs 0) (FmC.outU n (goN fs 1)) (FmC.stSt n rows out) (FmC.stSt n rows' out')
def spEndOf : Sp := fun vs H Q _ => ∃ (hv sv : V) (p ph : Addr) (u : HO) (fs : List PyData) (m n : Nat) (rows : List (List Int)) (out : Int), vs = [hv, sv] ∧ H p = some u ∧ Dat H ph hv (.tuple fs) ∧ HouseN m n (.tuple fs) ∧ FairH fs m n ∧ Dat H p sv (stD rows out) ∧ rows.length = n ∧ StOk m rows out ∧ (∀ r ∈ rows, r.sum < 10 ^ 36) ∧
  ∀ v H' rows' out', EndOf fs m n rows out rows' out' → Dat H' p v (stD rows' out') → Same H H' → Q v H'
end
end Fm
end FEO
section FFmSuper
set_option Elab.async false
set_option linter.all false
set_option maxRecDepth 100000
set_option maxHeartbeats 2000000
namespace Fm
open PySem PySem.Spec PyProof.Rows L2
/-- what the written part says of an error class at C whose own __init__, at fI, calls super().__init__ -/
structure SupC (P : Program) (K : PySem.W.Frag) (mg : Str → Option Value) (C fI cc cda : Addr) (fd : FuncData) : Prop where
  cls : OexC K C
  fn : ∃ oc od osl, K.lookup fI = some ⟨oc, od, .func fd, osl⟩
  cd : PySem.W.codeIn K (.ref cda) fd.qualname = true
  file : ∃ oc od osl vs nm tk, K.lookup cda = some ⟨oc, od, .fields vs, osl⟩ ∧ vs[2]? = some (.str nm tk) ∧ ((P.main.file : Str) == nm) = true
  cell : ∃ oc od osl, K.lookup cc = some ⟨oc, od, .cell (some (.ref C)), osl⟩
  sup : PySem.W.ks_superIn K C C "__init__" = some (some (.builtin "ValueError.__init__"))
  sv : PySem.W.subIn K (.ref C) (.type "ValueError") = some true
  sc : PySem.W.mroIn K C (.ref C) = some true
  nsup : mg "super" = none
  third : PySem.W.nsIn K cStatics "thirdparty.any" = some none
  top : (P.main.scope.names.lookup ("super" : Str)).isSome = false
/-- what its __init__ promises -/
def spInit (C : Addr) (n : Str) : Sp := fun vs H Q _ => ∃ (a : Addr) (v : V), vs = [.ref a, v] ∧ H a = some (exo a C none) ∧ ∀ dx, H dx = none → dx ≠ a → Q .non (upd (upd H dx (exd dx [(n, v)])) a (exo a C (some dx)))
section
variable {prog : Program} {w : World} {A : Around} {E : Value → Shared → Prop}
/-- the wrapper is called: the error's texts are laid, nothing else -/
theorem mw_called {X : Cx} {pins : List (Addr × Obj)} {σ : L2.St} {H : Hp} {s : Shared} {q a C : Addr} {us : List Value} {Q : Value → Shared → Prop} (T : OexC X.K C) (I : Inv X pins σ H s) (e : H a = some (exo a C none)) (hq : s.heap.get? q = some (PySem.W.kxs_mw "ValueError.__init__" a))
    (hl : us.length ≤ sizeLine) (h : ∀ s', Inv X pins σ H s' → Q .none s') : wpAny (model X.prog X.w) X.A (call (.ref q) us) Q E s := by
  obtain ⟨nm, qn, N, bs, bm, sn, sub, ab, col, dd, k0, k1, k2, k3, k5, hC, hbm⟩ := T.cls
  obtain ⟨t1, ho⟩ := exo_at I.hok e
  have hCh := I.kIn _ _ hC
  have fin : ∀ h' t2, (∀ b o, b ≠ a → s.heap.get? b = some o → h'.get? b = some o) → h'.get? a = some (PySem.HandSPX.excO C t2) → Q .none { s with heap := h' } := fun h' t2 k hx => by
    have J := I.write (t' := s.toks) (x := a) (e := a) (o := exo a C none) (by rw [e]; exact True.intro) (.inl rfl) k ⟨_, hx⟩ (exo_ok hx)
    rw [show upd H a (exo a C none) = H from funext fun b => if hb : b = a then by rw [hb, upd_same, e] else upd_ne hb] at J
    exact h _ J
  obtain ⟨hp, g, d, t, os⟩ := s
  refine wpAny_call (codeAny_of_tree ?_)
  show wpAny _ X.A.in1 (callAny (.ref q) ⟨us, []⟩) _ _ _
  simp only [callAny]
  refine wpAny_bind (wpAny_load hq ?_)
  simp only [PySem.W.kxs_mw, show (Value.type "method-wrapper" == Value.type "method" || Value.type "method-wrapper" == Value.type "builtin_function_or_method" || Value.type "method-wrapper" == Value.type "method-wrapper") = true from by decide, if_true]
  refine PySem.W.KFB.if_so (by decide) (wpAny_bind (PySem.W.check_bound_init F.excBase_ValueError.toExcCallFacts hCh ho rfl (wpAny_bind (wpAny_pure (wpAny_pure ⟨plainId_quiet F.excBase_ValueError.init.plain _, codeAny_builtin F.excBase_ValueError.initEntry ?_⟩)))))
  exact PySem.W.exc_init_tree (cls := .ref C) (t0 := t1) (dv := none) (c2 := .none) (c3 := .none) (b4 := .bool false) ho hl fun h' k e' _ => fin h' _ k e'
end
/-- an own __init__ that calls super().__init__(text) and stores what it was given -/
theorem fnok_init {P : Program} {w : World} {K : PySem.W.Frag} {mg : Str → Option Value} {base : Heap} {CX : CXT} {C fI cc cda : Addr} {qual n msg : Str} {params : Arguments} {body : List Stmt} {scope : Scope} {dV kV doc pm ct : Value} {an : Option Addr} {ar : Arg} {p0 p1 p2 p3 p4 p5 p6 p7 p8 p9 : Pos} {j : Nat}
    (S : SupC P K mg C fI cc cda (PySem.W.fnX "__init__" qual params body scope [("__class__", cc)] dV kV doc pm an (.ref cda) ct))
    (hb : body = [.Expr (.Call (.Attribute (.Call (.Name "super" p0) [] [] p1) "__init__" p2) [.Constant (.str msg) j p3] [] p4) p5, .Assign [.Attribute (.Name "self" p6) n p7] (.Name n p8) p9])
    (NS : NdefX.NScope ["self", n, "__class__"] ["self", n] ["__class__"] scope) (hsup : scope.names.lookup ("super" : Str) = some .globalImplicit) (hpar : (params.posonlyargs ++ params.args).head? = some ar) (har : ar.arg = "self")
    (hev : ∀ env : Env, ∃ pl : Sem Bool, eval (.Call (.Attribute (.Call (.Name "super" p0) [] [] p1) "__init__" p2) [.Constant (.str msg) j p3] [] p4) env = (do
      let ov ← attributeBase (.Call (.Name "super" p0) [] [] p1) "__init__" env (eval (.Call (.Name "super" p0) [] [] p1) env)
      standAt p2.atName
      let (f, first) ← holding [ov] (getMethod ov "__init__" pl)
      callWith p4 f first (backTo p4 (starEach [.Constant (.str msg) j p3] env)) []))
    (hno : PySem.W.findIn K (.ref C) n = some none) (hnn : (n == ("__debug__" : Str)) = false) (hnc : (n == ("__classdict__" : Str)) = false) : FnOk P w K mg base CX 1 fI (PySem.W.fnX "__init__" qual params body scope [("__class__", cc)] dV kV doc pm an (.ref cda) ct) ["self", n] (spInit C n) := by
  refine ⟨fun vs H Q E h => by obtain ⟨a, v, rfl, _⟩ := h; rfl, fun A outer s H args us vs Q E hr e0 hbind r hsp => ?_⟩
  obtain ⟨a, v, rfl, ea, kq⟩ := hsp
  have Xs : K.In s.heap := e0.mod.kin.keeps fun b o e => (e0.bs b o e).1
  obtain ⟨oc, od, osl, hfn⟩ := S.fn
  obtain ⟨c1, c2, c3, hcell⟩ := S.cell
  obtain ⟨q1, q2, q3, vs', nmF, tkF, hfile, hvs, hfeq⟩ := S.file
  have lim : s.heap.NoLimit := e0.mod.nolimit.keeps fun b o e => (e0.bs b o e).1
  have hccH : H cc = none := (e0.bs cc _ (e0.mod.kin _ _ hcell)).2
  have Cs : NdefX.CellsAt [("__class__", cc)] ["__class__"] [none] s.heap H := by
    have one : ∀ (y : Str) (c : Addr), ([("__class__", cc)] : List (Str × Addr)).lookup y = some c → y = "__class__" ∧ c = cc := fun y c e => by
      by_cases hy : y = "__class__"
      · subst hy
        exact ⟨rfl, (Option.some.inj e).symm⟩
      · simp [List.lookup, hy] at e
        split at e
        · rename_i z
          exact absurd (eq_of_beq z) hy
        · cases e
    refine ⟨rfl, fun y c e => ?_, fun x y c e1 e2 => (one x c e1).1.trans (one y c e2).1.symm, fun i y e => ?_⟩
    · obtain ⟨_, rfl⟩ := one y c e
      exact ⟨hccH, _, _, Xs _ _ hcell, rfl⟩
    · cases i with
      | zero =>
        cases e
        exact ⟨cc, rfl, fun v e => by cases e⟩
      | succ i => cases e
  have usl : us.length = 2 := r.length.symm
  refine ks_codeAny_call_defAt (fd := PySem.W.fnX "__init__" qual params body scope [("__class__", cc)] dV kV doc pm an (.ref cda) ct) (body := body) (binds := (["self", n] : List Str).zip us) hr.depth (Xs _ _ hfn) rfl lim (PySem.W.codeRec_of Xs S.cd) rfl hbind (fun x hx => NS.nocell x hx) (fun x hx => NS.par x.1 (List.of_mem_zip hx).1) (fun h₁ hns kp => ?_) NS.co NS.gen NS.kind
  have I := NdefX.inv_startN (CX := CX) (P := P) (w := w) (K := K) (mg := mg) (base := base) (N := ["self", n, "__class__"]) (ps := ["self", n]) (fr := ["__class__"]) (F := ⟨"__init__", qual, params, body, scope, [("__class__", cc)], cda⟩) (f := fI) (A := A) (outer := outer) (s := s) (H := H) (E := E) (us := us) (vs := [.ref a, v]) (ws := [none]) (tk := s.toks + ((["self", n] : List Str).zip us).length) NS hr.hd e0 rfl r Cs hns kp
  rw [hb]
  obtain ⟨pl, hev⟩ := hev (NdefX.envF ⟨"__init__", qual, params, body, scope, [("__class__", cc)], cda⟩ fI s.heap.objs.size)
  have hint : interactive (NdefX.envF ⟨"__init__", qual, params, body, scope, [("__class__", cc)], cda⟩ fI s.heap.objs.size) = false := by
    unfold interactive
    show (scope.kind == .module && _) = false
    rw [NS.kind]
    rfl
  refine ks_wpAt_execs_cons (ks_wpAt_Expr_any (ks_wpAt_MethodCall ?_ hev) hint rfl)
  have kS : scope.names.lookup ("self" : Str) = some .local := NS.par "self" (List.mem_cons_self ..)
  have kC : scope.names.lookup ("__class__" : Str) = some .free := NS.frk "__class__" (List.mem_cons_self ..)
  have hcd : ∃ cd, PySem.W.clsIn K C = some cd := by
    have z := S.sup
    unfold PySem.W.ks_superIn at z
    cases hc : PySem.W.clsIn K C with
    | none => rw [hc] at z; cases z
    | some cd => exact ⟨cd, rfl⟩
  obtain ⟨cd, hcd⟩ := hcd
  have hal := S.sup
  unfold PySem.W.ks_superIn at hal
  rw [hcd] at hal
  obtain ⟨oD, hD, hDd⟩ : ∃ oD, K.lookup C = some oD ∧ oD.data = .cls cd := by
    have z := hcd
    unfold PySem.W.clsIn at z
    split at z
    · rename_i ho
      cases z
      exact ⟨_, ho, rfl⟩
    · cases z
  obtain ⟨mb, hmb, hmb2⟩ := I.mod.blt
  have hfb : bootBuiltins "super" = some (.type "super") := by first | rfl | boot_by_name | kernel_rfl
  refine ks_wpAt_super_base (f := fI) (cc := cda) hsup kC (by decide) rfl (I.kIn _ _ hfn) rfl hpar rfl (I.kIn _ _ hfile) rfl hvs hfeq S.top ?_
  refine PySem.W.ks_loadName_global NS.kind hsup (Calls.loadGlobal_builtin (I.mod.glob.keeps I.bk) S.nsup (hmb.keeps I.bk) ((hmb2 _ (by decide)).trans hfb) ⟨rfl, ?_⟩)
  refine wpAny_loadName_free NS.kind kC rfl ⟨_, I.kIn _ _ hcell, rfl⟩ ?_
  rw [har]
  obtain ⟨m, hm, hml⟩ := I.loc
  obtain ⟨uS, rS, lS⟩ := hml 0 "self" (.ref a) rfl rfl (.inl kS)
  obtain rfl : uS = Value.ref a := rS
  have mS : m "self" = some (.ref a) := by
    rcases lS with ⟨_, z⟩ | ⟨z, _⟩
    · exact z
    · have z : scope.names.lookup ("self" : Str) = some .cell ∨ scope.names.lookup ("self" : Str) = some .free := z
      rw [kS] at z
      rcases z with z | z <;> cases z
  refine wpAny_loadName_local NS.kind kS hm mS ?_
  obtain ⟨t1, hax⟩ := exo_at I.hok ea
  refine ks_wpAny_isType_cls (I.kIn _ _ hD) hDd ⟨rfl, ?_⟩
  refine ks_wpAny_call_super (I.kIn _ _ hD) hDd hax rfl (fun c z => by cases z) (PySem.W.looks_mroIn I.kIn S.sc) (fun h2 e2 k2 => ?_)
  have I2 := I.kept (t' := s.toks + ((["self", n] : List Str).zip us).length) (h' := h2) k2
  have hax2 := k2 _ _ hax
  have J2 : PySem.W.InstAt h2 a _ C none := ⟨hax2, rfl, rfl, trivial⟩
  have neC : a ≠ C := fun z => by
    have y := I2.kIn _ _ hD
    rw [← z, show h2.get? a = _ from hax2] at y
    cases y
    cases hDd
  refine PySem.W.kxs_getMethod PySem.W.kxs_ValueError e2 (PySem.W.looks_opaque I2.kIn S.third) (l₀ := cd.mro) (fun A Q E s k q => wpAny_bind ((PySem.W.looks_clsIn I2.kIn hcd) A _ E s k (wpAny_pure q))) rfl I2.kIn hal (J2.type.andThen (PySem.W.looks_subIn I2.kIn S.sv)) neC (by decide) ?_
  have I3 := I2.kept (t' := s.toks + ((["self", n] : List Str).zip us).length + 1) (h' := h2.push (PySem.W.kxs_mw "ValueError.__init__" a)) (fun b o e => Heap.get?_push_of_some _ e)
  have hq3 : (h2.push (PySem.W.kxs_mw "ValueError.__init__" a)).get? h2.objs.size = some (PySem.W.kxs_mw "ValueError.__init__" a) := Heap.get?_push_size _ rfl
  generalize h2.push (PySem.W.kxs_mw "ValueError.__init__" a) = h3 at *
  generalize h2.objs.size = q at *
  show wpAny _ _ (callWith p4 (.ref q) [] (backTo p4 (starEach [.Constant (.str msg) j p3] (NdefX.envF ⟨"__init__", qual, params, body, scope, [("__class__", cc)], cda⟩ fI s.heap.objs.size))) []) _ _ _
  refine PySem.W.kxs_callWith (i := "ValueError.__init__") (x := a) rfl (Calls.evalArgs_plain (Calls.spliced_cons (Calls.Constant_str (k := j) (pos := p3) (Calls.spliced_nil ⟨hq3, ?_⟩))))
  refine mw_called S.cls (I3.tok _) ea hq3 (show 1 ≤ sizeLine by rw [sizeLine_eq]; decide) fun s4 I4 => ?_
  refine ks_wpAt_execs_cons (wpAt_of_wpAny ?_)
  have pss := ps_ost (X := NdefX.ncx CX P w K mg base ["self", n, "__class__"] ⟨"__init__", qual, params, body, scope, [("__class__", cc)], cda⟩ fI A outer s H E) (f := n) (p' := p7) (pos := p9) (pe_var (pos := p6) (i := 0) (x := "self") rfl (.inl kS)) (pe_var (pos := p8) (i := 1) (x := n) rfl (.inl (NS.par n (.tail _ (.head _)))) hnn hnc) rfl
  refine wpAny_mono (pss.run [] s4 _ H { nx := fun _ H' => Q .non H', rt := Q } I4 ?_) (fun fl s' hs => ?_) fun e s' hs => hs
  · exact ⟨v, rfl, .ref a, rfl, a, C, rfl, S.cls, hno, .inl ⟨ea, fun dx z ne => kq dx z ne⟩⟩
  · have fin : ∀ {σ' : L2.St} {H' : Hp} {x : V} {u : Value}, Inv (NdefX.ncx CX P w K mg base ["self", n, "__class__"] ⟨"__init__", qual, params, body, scope, [("__class__", cc)], cda⟩ fI A outer s H E) [] σ' H' s' → L2.RelV x u → Q x H' → CE outer P w H s Q u s' :=
      fun {σ' H' x u} J rv q => ⟨x, H', J.os, J.bare, J.base, J.hok, rv, q⟩
    cases fl with
    | next =>
      obtain ⟨σ', H', J, q⟩ := hs
      exact wpAt_of_wpAny (wpAny_pure (fin (x := V.non) (u := Value.none) J rfl q))
    | ret u =>
      obtain ⟨x, σ', H', J, rv, q⟩ := hs
      exact fin J rv q
    | brk => obtain ⟨_, _, _, q⟩ := hs; exact q.elim
    | cont => obtain ⟨_, _, _, q⟩ := hs; exact q.elim
end Fm
end FFmSuper
section FGN
set_option Elab.async false
set_option linter.all false
set_option maxRecDepth 100000
set_option maxHeartbeats 4000000
local macro_rules | `(tactic| walk_at "ne") => `(tactic| first | assumption | (apply Ne.symm; assumption) | exact L2.ne_of_none (by assumption) (by assumption) | exact Ne.symm (L2.ne_of_none (by assumption) (by assumption)))
local macro_rules | `(tactic| walk_at "hl") => `(tactic| first | assumption | exact L2.upd_same | (refine Eq.trans (L2.upd_ne (by walk_at "ne")) ?_; walk_at "hl"))
local macro_rules | `(tactic| walk_at "sd") => `(tactic| first | (with_reducible show (_ : Int) < _; omega) | (with_reducible show (_ : Int) ≤ _; omega) | assumption | decide | exact ⟨by assumption, by assumption⟩ | exact ⟨by decide, by decide⟩ | exact Or.inr ⟨by decide, by decide⟩ | exact Or.inl ⟨by omega, by omega⟩ | rfl)
local macro_rules | `(tactic| walk_at "st1") => `(tactic| first
  | refine ⟨_, rfl, ?_⟩
  | refine ⟨_, _, rfl, rfl, ?_⟩
  | refine ⟨_, _, rfl, ?_⟩
  | (refine ⟨_, _, _, _, rfl, rfl, L2.SqL.of (by walk_at "hl"), rfl, ?_⟩)
  | (refine ⟨_, _, _, _, rfl, rfl, L2.SqT.of (by walk_at "hl"), rfl, ?_⟩)
  | (refine ⟨_, _, _, _, rfl, rfl, (by walk_at "hl"), rfl, ?_⟩)
  | (refine And.intro (by walk_at "sd") ?_)
  )
local macro_rules | `(tactic| walk_at "st") => `(tactic| repeat walk_at "st1")
local macro_rules | `(tactic| walk_at "op") => `(tactic| try dsimp only [L2.tSeq, L2.tAsg, L2.tOp, L2.tVar, L2.tC, L2.gSub, L2.rI, L2.rI0, L2.rIxL, L2.rIxT, L2.rSetL, L2.tIfS, L2.tTest, L2.tRet, L2.gName, L2.tNext, L2.tAnd, L2.tOr, L2.tNot, L2.tAndV, L2.tOrV, L2.tNotV, L2.tB, L2.tCB, L2.tCons, L2.tNil, L2.tCall, L2.tTup, L2.tLst, L2.tChain, L2.tUn, L2.tPar, L2.tDrop, L2.tIf, L2.tBM, L2.tBM0, L2.rAppend, L2.rCat, L2.rIsi, L2.rIsiT, L2.gTup, L2.gCons, L2.gNil, Fm.tFor_eq, Fm.tLc_eq, Fm.tLc2_eq, L2.iTup, L2.iList, L2.iRng1, L2.iRng2, L2.tSl, L2.tPart, L2.tNoPart, L2.rSlL, L2.rEq, L2.rNe, L2.rU, L2.rEqD, L2.rNeD, Fm.tRevT, Fm.rLenS, Fm.rTupOf, Fm.rLstOf, L2.tDNewK, L2.tCallS, L2.WE, Fm.wKeep, Fm.rIsK, Fm.rIsKT, List.cons_append, List.nil_append, L2.tYes])
namespace Fm
open PySem PySem.Spec PyProof.Rows L2
section
variable {P : Program} {w : World} {K : PySem.W.Frag} {mg : Str → Option Value} {base : Heap}
/-! ### errors with a number of their own are made -/
def MakesI (P : Program) (w : World) (K : PySem.W.Frag) (mg : Str → Option Value) (base : Heap) (C : Addr) (cn at_ : Str) : Prop := ∀ (X : Cx) {p p2 p3 : Pos} {y : Str} {i : Nat}, X.prog = P → X.w = w → X.K = K → X.mg = mg → X.base = base → X.calm = true → Gl X cn → Room 2 X.A → PE X (.Name y p2) (tVar i) →
  PMk X (.Call (.Name cn p) [.Name y p2] [] p3) (fun σ H Q => ∃ k : Int, σ[i]? = some (some (.int k)) ∧ ∀ d, H d = none → Q (.ref C) (some d) (upd H d (.xd [(at_, .int k)])))
theorem makes_int {C fI cc cda : Addr} {fd : FuncData} {cn at_ : Str} (hdb : (cn == ("__debug__" : Str)) = false) (S : SupC P K mg C fI cc cda fd) (iC : PySem.W.findIn K (.ref C) "__init__" = some (some (.ref fI))) (tI : PySem.W.typeIn K (.ref fI) = some (.type "function"))
    (F1 : FnOk P w K mg base CX0 1 fI fd ["self", at_] (spInit C at_)) (hbd : ∀ us : List Value, us.length = 2 → bindArgs fd ⟨us, []⟩ = pure ((["self", at_] : List Str).zip us)) (gm : mg cn = some (.ref C)) : MakesI P w K mg base C cn at_ := by
  intro X p p2 p3 y i e1 e2 e3 e4 e5 cal hg hr hv
  obtain ⟨prog, w', K', mg', base', A, N, s0, H0, env, outer, stack, ex, fn, calm, pn, xe⟩ := X
  cases e1; cases e2; cases e3; cases e4; cases e5
  have key := pmk_oex (X := ⟨prog, w', K', mg', base', A, N, s0, H0, env, outer, stack, ex, fn, calm, pn, xe⟩) (e := .Name y p2) (es := []) (p := p) (pos := p3) (dvs := []) (ds := []) S.cls iC tI F1 hr (Binds.all hbd) .nil (fun _ _ _ _ _ _ _ z => z.elim) hg gm (pa_cons hv pa_nil) hdb
  intro pins s σ H Q I h
  obtain ⟨k, hk, h⟩ := h
  refine key pins s σ H Q I ⟨.int k, hk, by show 1 ≤ 1000; decide, fun a ha => ⟨a, .int k, rfl, upd_same, fun dx hdx ne => ⟨rfl, dx, [(at_, .int k)], upd_same, (upd_ne ne).trans upd_same, (upd_ne ne).symm.trans hdx, ?_⟩⟩⟩
  have hd : H dx = none := (upd_ne ne).symm.trans hdx
  have e : upd (del (upd (upd (upd H a (exo a C none)) dx (exd dx [(at_, V.int k)])) a (exo a C (some dx))) a) dx (.xd [(at_, .int k)]) = upd H dx (.xd [(at_, .int k)]) := by
    funext b
    by_cases hb : b = dx
    · rw [hb, upd_same, upd_same]
    · rw [upd_ne hb, upd_ne hb]
      by_cases h2 : b = a
      · rw [h2, del_same, ha]
      · rw [del_ne h2, upd_ne h2, upd_ne hb, upd_ne h2]
  rw [e]
  exact h dx hd

end
end Fm
end FGN
section FPI
set_option Elab.async false
set_option linter.all false
set_option maxRecDepth 100000
set_option maxHeartbeats 4000000
local macro_rules | `(tactic| walk_at "ne") => `(tactic| first | assumption | (apply Ne.symm; assumption) | exact L2.ne_of_none (by assumption) (by assumption) | exact Ne.symm (L2.ne_of_none (by assumption) (by assumption)))
local macro_rules | `(tactic| walk_at "hl") => `(tactic| first | assumption | exact L2.upd_same | (refine Eq.trans (L2.upd_ne (by walk_at "ne")) ?_; walk_at "hl"))
local macro_rules | `(tactic| walk_at "sd") => `(tactic| first | (with_reducible show (_ : Int) < _; omega) | (with_reducible show (_ : Int) ≤ _; omega) | assumption | decide | exact ⟨by assumption, by assumption⟩ | exact ⟨by decide, by decide⟩ | exact Or.inr ⟨by decide, by decide⟩ | exact Or.inl ⟨by omega, by omega⟩ | rfl)
local macro_rules | `(tactic| walk_at "st1") => `(tactic| first
  | refine ⟨_, rfl, ?_⟩
  | refine ⟨_, _, rfl, rfl, ?_⟩
  | refine ⟨_, _, rfl, ?_⟩
  | (refine ⟨_, _, _, _, rfl, rfl, L2.SqL.of (by walk_at "hl"), rfl, ?_⟩)
  | (refine ⟨_, _, _, _, rfl, rfl, L2.SqT.of (by walk_at "hl"), rfl, ?_⟩)
  | (refine ⟨_, _, _, _, rfl, rfl, (by walk_at "hl"), rfl, ?_⟩)
  | (refine And.intro (by walk_at "sd") ?_)
  )
local macro_rules | `(tactic| walk_at "st") => `(tactic| repeat walk_at "st1")
local macro_rules | `(tactic| walk_at "op") => `(tactic| try dsimp only [L2.tSeq, L2.tAsg, L2.tOp, L2.tVar, L2.tC, L2.gSub, L2.rI, L2.rI0, L2.rIxL, L2.rIxT, L2.rSetL, L2.tIfS, L2.tTest, L2.tRet, L2.gName, L2.tNext, L2.tAnd, L2.tOr, L2.tNot, L2.tAndV, L2.tOrV, L2.tNotV, L2.tB, L2.tCB, L2.tCons, L2.tNil, L2.tCall, L2.tTup, L2.tLst, L2.tChain, L2.tUn, L2.tPar, L2.tDrop, L2.tIf, L2.tBM, L2.tBM0, L2.rAppend, L2.rCat, L2.rIsi, L2.rIsiT, L2.gTup, L2.gCons, L2.gNil, Fm.tFor_eq, Fm.tLc_eq, Fm.tLc2_eq, L2.iTup, L2.iList, L2.iRng1, L2.iRng2, L2.tSl, L2.tPart, L2.tNoPart, L2.rSlL, L2.rEq, L2.rNe, L2.rU, L2.rEqD, L2.rNeD, Fm.tRevT, Fm.rLenS, Fm.rTupOf, Fm.rLstOf, L2.tDNewK, L2.tCallS, L2.WE, Fm.wKeep, Fm.rIsK, Fm.rIsKT, List.cons_append, List.nil_append, L2.tYes])
namespace Fm
open PySem PySem.Spec PyProof.Rows L2
abbrev s_people_in : Stmt := top 32
abbrev N_people_in : List Str := ["standing", "counts"]
theorem sc_people_in : FnScope N_people_in ["standing"] (defScope s_people_in) := ⟨rfl, rfl, rfl, by decide +kernel, rfl, by decide +kernel, by decide +kernel⟩
abbrev s_check_few : Stmt := top 31
abbrev N_check_few : List Str := ["house", "standing", "most", "many"]
theorem sc_check_few : FnScope N_check_few ["house", "standing", "most"] (defScope s_check_few) := ⟨rfl, rfl, rfl, by decide +kernel, rfl, by decide +kernel, by decide +kernel⟩
section
variable {P : Program} {w : World} {K : PySem.W.Frag} {mg : Str → Option Value} {base : Heap}
/-! ### how many people, few enough; the first meeting -/
def spPeopleIn : Sp := fun vs H Q _ => ∃ (v : V) (p : Addr) (rows : List (List Int)) (out : Int), vs = [v] ∧ Dat H p v (stD rows out) ∧ rows.length ≤ 4 ∧ ∀ H', Same H H' → Q (.int (rows.map List.sum).sum) H'
theorem ok_people_in (D : Df K mg "people_in" s_people_in ["standing"]) (T : Nms mg) : CallOk P w K mg base CX0 1 "people_in" ["standing"] spPeopleIn := by
  refine df_ok D sc_people_in (fun vs H Q E h => ?_) (fun f cdv A outer s H vs Q E hr h => ?_)
  · obtain ⟨v, p, rows, out, rfl, _⟩ := h
    rfl
  · obtain ⟨v, p, rows, out, rfl, hD, h4, k⟩ := h
    have nd := sc_people_in.nd
    obtain ⟨a, xs, rfl, ha, _, hx⟩ := st_parts hD
    have hxl : xs.length = rows.length := by rw [hx.1, List.length_map]
    refine ⟨_, (pss_one (ps_ret (pe_callB (r := rSumI K) (cr_sumI rfl) (by rfl) T.n_sum (by decide +kernel) (pa_cons (pe_lc (own := [("counts", 1)]) (g := (gName 1)) (tt := tYes) (by rfl) nd (pi_tup (pe_slice (r := rSlA K) sl_tupA (pv 0) po_none (po_some (pe_un un_neg pe_int)))) (blkOk_by (own := [("counts", 1)]) (N := N_people_in) (sc := defScope s_people_in) (by decide +kernel)) (fun _ _ _ _ _ => (pg_name (i := 1) nd rfl (Or.inl rfl))) (fun _ _ _ _ _ => pts_nil) (fun _ _ _ _ _ => (pe_callB (r := rSumI K) (cr_sumI rfl) (by rfl) T.n_sum (by decide +kernel) (pa_cons (pv 1) pa_nil)))) pa_nil)))), ?_⟩
    walk_at "op"
    refine ⟨_, rfl, _, rfl, _, rfl, sl_init (SqT.of ha) fun S0 hS0 => ?_⟩
    have sS := same_new (o := .tup xs) hS0
    have hS1 : upd H S0 (.tup xs) S0 = some (.tup xs) := upd_same
    generalize upd H S0 (.tup xs) = G0 at *
    refine ⟨S0, rfl, ⟨_, SqT.of hS1⟩, fun R hR => ?_⟩
    refine lI walk_tup (fun i G => Same G0 G ∧ G R = some (.lst (((rows.take i).map List.sum).map V.int))) ⟨same_new hR, upd_same⟩ (fun _ _ _ ⟨e, _⟩ => SqT.of (e _ _ hS1)) ?_ ?_
    · rintro i x _ G hi ⟨sG, hRG⟩ ⟨rfl, hxi⟩
      have hil : i < rows.length := by omega
      have hgi : rows[i]? = some rows[i] := List.getElem?_eq_getElem hil
      obtain ⟨b, rfl, hb, _⟩ := row_parts (hx.2 i x (rowD rows[i]) hxi (by rw [List.getElem?_map, hgi]; rfl))
      have htk : rows.take (i + 1) = rows.take i ++ [rows[i]] := by rw [List.take_add_one, hgi]; rfl
      generalize rows[i] = r at *
      walk_at "op"
      refine ⟨rfl, ?_⟩
      refine iteT ?_
      refine ⟨_, rfl, .inr ⟨b, r, rfl, SqT.of (sG _ _ (sS _ _ hb)), ?_⟩⟩
      refine ⟨_, hRG, ?_, sameOff sG hR, ?_⟩
      · rw [List.length_map, List.length_map, List.length_take]
        exact Nat.lt_of_le_of_lt (show _ ≤ 4 by omega) (by rw [sizeLine_eq]; omega)
      · rw [upd_same, htk, List.map_append, List.map_append]
        rfl
    · rintro G ⟨sG, hRG⟩
      rw [hxl, List.take_length] at hRG
      refine .inl ⟨R, _, rfl, SqL.of hRG, ?_⟩
      exact k _ (sS.trans sG)
/-- no more than so many, or TooMany(many) -/
def spFew (C : Addr) : Sp := fun vs H Q E => ∃ (hv sv : V) (p p' : Addr) (hd : PyData) (m n : Nat) (rows : List (List Int)) (out most : Int), vs = [hv, sv, .int most] ∧ Dat H p hv hd ∧ HouseN m n hd ∧ Dat H p' sv (stD rows out) ∧ rows.length = n ∧ StOk m rows out ∧
  ((rows.map List.sum).sum ≤ most → ∀ H', Same H H' → Q .non H') ∧
  (most < (rows.map List.sum).sum → ∀ H1 dx, Same H H1 → H1 dx = none → E (.ref C) (some dx) (upd H1 dx (.xd [("many", .int (rows.map List.sum).sum)])))
theorem ok_check_few (D : Df K mg "check_few" s_check_few ["house", "standing", "most"]) (T : Nms mg) {C : Addr} (MK : MakesI P w K mg base C "TooMany" "many") (c_check_standing : CallOk P w K mg base (L2.CX P w) 7 "check_standing" ["house", "standing"] spCheck)
    (c_people_in : CallOk P w K mg base CX0 1 "people_in" ["standing"] spPeopleIn) : CallOk P w K mg base (L2.CX P w) 8 "check_few" ["house", "standing", "most"] (spFew C) := by
  refine df_okX D sc_check_few (fun vs H Q E h => ?_) (fun f cdv A outer s H vs Q E hr h => ?_)
  · obtain ⟨hv, sv, p, p', hd, m, n, rows, out, most, rfl, _⟩ := h
    rfl
  · obtain ⟨hv, sv, p, p', hd, m, n, rows, out, most, rfl, hD, hN, sD, hl, ok, k1, k2⟩ := h
    have nd := sc_check_few.nd
    refine ⟨_, (pss_cons (ps_expr (pe_cx c_check_standing (hr.mono (by omega)) (pa_cons (pv 0) (pa_cons (pv 1) pa_nil))))
      (pss_cons (ps_set (i := 3) nd rfl (Or.inl rfl) (pe_cc c_people_in (hr.mono (by omega)) (pa_cons (pv 1) pa_nil)))
      (pss_one (ps_if (pt_cmpR op_gt (pv 3) (pv 2) (nomark _)) (pss_one (ps_raise rfl (takes_of rfl rfl rfl rfl) (MK _ rfl rfl rfl rfl rfl rfl rfl (hr.mono (by omega)) (pv 3)))) pss_nil)))), ?_⟩
    walk_at "op"
    have hn4 : n ≤ 4 := by
      obtain ⟨_, _, _, _, z, _⟩ := hN
      exact z
    refine ⟨_, rfl, _, rfl, hv, sv, p, p', hd, m, n, rows, out, rfl, hD, hN, sD, hl, ok, fun G1 s1 => ?_⟩
    refine ⟨_, rfl, sv, p', rows, out, rfl, sD.same s1, by omega, fun G2 s2 => ?_⟩
    refine ⟨_, rfl, _, rfl, _, _, rfl, rfl, _, rfl, ?_⟩
    by_cases hm : (rows.map List.sum).sum ≤ most
    · rw [if_neg (fun z => by have := of_decide_eq_true z; omega)]
      exact k1 hm _ (s1.trans s2)
    · rw [if_pos (decide_eq_true (by omega))]
      exact ⟨_, rfl, fun dx hdx => k2 (by omega) G2 dx (s1.trans s2) hdx⟩

end
end Fm
end FPI
section FMM
set_option Elab.async false
set_option linter.all false
set_option maxRecDepth 100000
set_option maxHeartbeats 4000000
local macro_rules | `(tactic| walk_at "ne") => `(tactic| first | assumption | (apply Ne.symm; assumption) | exact L2.ne_of_none (by assumption) (by assumption) | exact Ne.symm (L2.ne_of_none (by assumption) (by assumption)))
local macro_rules | `(tactic| walk_at "hl") => `(tactic| first | assumption | exact L2.upd_same | (refine Eq.trans (L2.upd_ne (by walk_at "ne")) ?_; walk_at "hl"))
local macro_rules | `(tactic| walk_at "sd") => `(tactic| first | (with_reducible show (_ : Int) < _; omega) | (with_reducible show (_ : Int) ≤ _; omega) | assumption | decide | exact ⟨by assumption, by assumption⟩ | exact ⟨by decide, by decide⟩ | exact Or.inr ⟨by decide, by decide⟩ | exact Or.inl ⟨by omega, by omega⟩ | rfl)
local macro_rules | `(tactic| walk_at "st1") => `(tactic| first
  | refine ⟨_, rfl, ?_⟩
  | refine ⟨_, _, rfl, rfl, ?_⟩
  | refine ⟨_, _, rfl, ?_⟩
  | (refine ⟨_, _, _, _, rfl, rfl, L2.SqL.of (by walk_at "hl"), rfl, ?_⟩)
  | (refine ⟨_, _, _, _, rfl, rfl, L2.SqT.of (by walk_at "hl"), rfl, ?_⟩)
  | (refine ⟨_, _, _, _, rfl, rfl, (by walk_at "hl"), rfl, ?_⟩)
  | (refine And.intro (by walk_at "sd") ?_)
  )
local macro_rules | `(tactic| walk_at "st") => `(tactic| repeat walk_at "st1")
local macro_rules | `(tactic| walk_at "op") => `(tactic| try dsimp only [L2.tSeq, L2.tAsg, L2.tOp, L2.tVar, L2.tC, L2.gSub, L2.rI, L2.rI0, L2.rIxL, L2.rIxT, L2.rSetL, L2.tIfS, L2.tTest, L2.tRet, L2.gName, L2.tNext, L2.tAnd, L2.tOr, L2.tNot, L2.tAndV, L2.tOrV, L2.tNotV, L2.tB, L2.tCB, L2.tCons, L2.tNil, L2.tCall, L2.tTup, L2.tLst, L2.tChain, L2.tUn, L2.tPar, L2.tDrop, L2.tIf, L2.tBM, L2.tBM0, L2.rAppend, L2.rCat, L2.rIsi, L2.rIsiT, L2.gTup, L2.gCons, L2.gNil, Fm.tFor_eq, Fm.tLc_eq, Fm.tLc2_eq, L2.iTup, L2.iList, L2.iRng1, L2.iRng2, L2.tSl, L2.tPart, L2.tNoPart, L2.rSlL, L2.rEq, L2.rNe, L2.rU, L2.rEqD, L2.rNeD, Fm.tRevT, Fm.rLenS, Fm.rTupOf, Fm.rLstOf, L2.tDNewK, L2.tCallS, L2.WE, Fm.wKeep, Fm.rIsK, Fm.rIsKT, List.cons_append, List.nil_append, L2.tYes])
namespace Fm
open PySem PySem.Spec PyProof.Rows L2
section
variable {P : Program} {w : World} {K : PySem.W.Frag} {mg : Str → Option Value} {base : Heap}
theorem hereN_iff {c : List Int} {n k : Nat} : k ∈ hereN c n ↔ k < n ∧ c.getD k 0 ≠ 0 := by
  unfold hereN
  rw [List.mem_filter, List.mem_range]
  constructor
  · rintro ⟨h1, h2⟩
    exact ⟨h1, by simpa using h2⟩
  · rintro ⟨h1, h2⟩
    exact ⟨h1, by simpa using h2⟩
theorem prs_iff {c : List Int} {a b : Nat} : (a, b) ∈ prs c ↔ (a < c.length ∧ c.getD a 0 ≠ 0) ∧ (b < c.length ∧ c.getD b 0 ≠ 0) ∧ okP c a b = true := by
  unfold prs allOfP rowOfP
  constructor
  · intro h
    obtain ⟨x, hx, h⟩ := List.mem_flatMap.mp h
    obtain ⟨y, hy, e⟩ := List.mem_map.mp h
    injection e with e1 e2
    subst e1 e2
    obtain ⟨h1, h2⟩ := List.mem_filter.mp hy
    exact ⟨hereN_iff.mp hx, hereN_iff.mp h1, h2⟩
  · rintro ⟨h1, h2, h3⟩
    exact List.mem_flatMap.mpr ⟨a, hereN_iff.mpr h1, List.mem_map.mpr ⟨b, List.mem_filter.mpr ⟨hereN_iff.mpr h2, h3⟩, rfl⟩⟩
theorem mts_iff {m : Nat} {rows : List (List Int)} {out : Int} (ok : StOk m rows out) {f a b : Nat} : (f, a, b) ∈ mts rows rows.length ↔ Meets3 m rows f a b := by
  have hlen : ∀ f, f < rows.length → (rows.getD f []).length = m := fun f hf => by
    rw [List.getD_eq_getElem?_getD, List.getElem?_eq_getElem hf]
    exact ok.len _ (List.getElem_mem hf)
  have hpos : ∀ f k, 0 ≤ cellN rows f k := fun f k => by
    unfold cellN
    rw [List.getD_eq_getElem?_getD (l := rows)]
    cases e : rows[f]? with
    | none => exact Int.le_refl 0
    | some c =>
      show 0 ≤ c.getD k 0
      rw [List.getD_eq_getElem?_getD]
      cases e2 : c[k]? with
      | none => exact Int.le_refl 0
      | some x => exact ok.pos c (List.mem_of_getElem? e) x (List.mem_of_getElem? e2)
  have pa := hpos f a
  have pb := hpos f b
  have mem : (f, a, b) ∈ mts rows rows.length ↔ f < rows.length ∧ (a, b) ∈ prs (rows.getD f []) := by
    unfold mts onF
    constructor
    · intro h
      obtain ⟨g, hg, h⟩ := List.mem_flatMap.mp h
      obtain ⟨y, hy, e⟩ := List.mem_map.mp h
      injection e with e1 e2
      subst e1 e2
      exact ⟨List.mem_range.mp hg, hy⟩
    · rintro ⟨h1, h2⟩
      exact List.mem_flatMap.mpr ⟨f, List.mem_range.mpr h1, List.mem_map.mpr ⟨(a, b), h2, rfl⟩⟩
  rw [mem, prs_iff]
  unfold Meets3 okP
  by_cases hf : f < rows.length
  · rw [hlen f hf]
    show _ ∧ (a < m ∧ cellN rows f a ≠ 0) ∧ (b < m ∧ cellN rows f b ≠ 0) ∧ (decide (a < b) || (decide (a = b) && decide (cellN rows f a > 1))) = true ↔ _
    by_cases hab : a = b
    · rw [if_pos hab]
      subst hab
      generalize cellN rows f a = x at *
      simp
      omega
    · rw [if_neg hab]
      generalize cellN rows f a = x at *
      generalize cellN rows f b = y at *
      simp [hab]
      omega
  · constructor
    · exact fun h => (hf h.1).elim
    · exact fun h => (hf h.1).elim

end
end Fm
end FMM
section FFmHeaps
/-! Heaps of people, told one by one, as counts. Pure, nothing of the model. -/
set_option linter.all false
namespace FmC
/-- n floors of people told one by one, behind them those who went out -/
def hsSt (n : Nat) (hs : List (List Nat)) (out : Nat) : St := fun g a => if g < n then (hs.getD g []).count a else if g = n ∧ a = 0 then out + (hs.getD n []).length else 0
theorem one_at (f a g b : Nat) : one f a g b = if g = f then (if b = a then 1 else 0) else 0 := by
  unfold one
  by_cases h : g = f
  · by_cases k : b = a
    · rw [if_pos ⟨h, k⟩, if_pos h, if_pos k]
    · rw [if_neg (fun q => k q.2), if_pos h, if_neg k]
  · rw [if_neg (fun q => h q.1), if_neg h]
theorem count_one (l : List Nat) (a x : Nat) : (a :: l).count x = l.count x + if x = a then 1 else 0 := by
  rw [List.count_cons]
  by_cases h : x = a
  · subst h
    rw [if_pos (beq_self_eq_true x), if_pos rfl]
  · rw [if_neg (by simpa using Ne.symm h), if_neg h]
theorem count_snoc (l : List Nat) (a x : Nat) : (l ++ [a]).count x = l.count x + if x = a then 1 else 0 := by
  rw [List.count_append, count_one]
  simp
theorem getD_set_same {α : Type} (l : List α) (i : Nat) (x d : α) (h : i < l.length) : (l.set i x).getD i d = x := by
  rw [List.getD_eq_getElem?_getD, List.getElem?_set_self h]
  rfl
theorem getD_set_ne {α : Type} (l : List α) (i j : Nat) (x d : α) (h : i ≠ j) : (l.set i x).getD j d = l.getD j d := by
  rw [List.getD_eq_getElem?_getD, List.getElem?_set_ne h, List.getD_eq_getElem?_getD]
theorem hs_step {n m : Nat} {S U : Nat → Nat → Nat → Nat} {hs : List (List Nat)} {out f a b : Nat} {h u rest : List Nat} (hf : f < n) (hl : hs.length = n + 1) (hh : hs[f]? = some h) (hu : hs[f + 1]? = some u) (hp : h.Perm (a :: b :: rest)) (ha : a < m) (hb : b < m) :
    Step n m S (outU n U) (hsSt n hs out) (hsSt n ((hs.set f (rest ++ [S f a b])).set (f + 1) (u ++ [U f a b])) out) := by
  have eh : hs.getD f [] = h := by rw [List.getD_eq_getElem?_getD, hh]; rfl
  have eu : hs.getD (f + 1) [] = u := by rw [List.getD_eq_getElem?_getD, hu]; rfl
  refine ⟨fun g x => if g = f then rest.count x else hsSt n hs out g x, f, a, b, hf, ha, hb, ?_, ?_⟩
  · funext g x
    simp only [add_at, one_at]
    by_cases hg : g = f
    · subst hg
      rw [if_pos rfl, if_pos rfl, if_pos rfl]
      unfold hsSt
      rw [if_pos hf, eh, hp.count_eq, count_one, count_one]
      omega
    · rw [if_neg hg, if_neg hg, if_neg hg]
      omega
  · funext g x
    simp only [add_at, one_at]
    by_cases hg : g = f
    · subst hg
      rw [if_pos rfl, if_pos rfl, if_neg (by omega : ¬ g = g + 1)]
      unfold hsSt
      rw [if_pos hf, getD_set_ne _ _ _ _ _ (by omega), getD_set_same _ _ _ _ (by omega), count_snoc]
      omega
    · rw [if_neg hg, if_neg hg]
      by_cases h1 : g = f + 1
      · subst h1
        rw [if_pos rfl]
        unfold hsSt outU
        by_cases hn : f + 1 < n
        · rw [if_pos hn, if_pos hn, if_pos hn, getD_set_same _ _ _ _ (by rw [List.length_set]; omega), eu, count_snoc]
          omega
        · have en : f + 1 = n := by omega
          rw [if_neg hn, if_neg hn, if_neg hn, ← en, getD_set_same _ _ _ _ (by rw [List.length_set]; omega), eu, List.length_append]
          by_cases z : x = 0
          · rw [if_pos ⟨rfl, z⟩, if_pos ⟨rfl, z⟩, if_pos z]
            show out + (u.length + 1) = _
            omega
          · rw [if_neg (fun q => z q.2), if_neg (fun q => z q.2), if_neg z]
      · rw [if_neg h1]
        unfold hsSt
        by_cases hn : g < n
        · rw [if_pos hn, if_pos hn, getD_set_ne _ _ _ _ _ (Ne.symm h1), getD_set_ne _ _ _ _ _ (Ne.symm hg)]
          omega
        · rw [if_neg hn, if_neg hn]
          by_cases e : g = n
          · subst e
            rw [getD_set_ne _ _ _ _ _ (Ne.symm h1), getD_set_ne _ _ _ _ _ (Ne.symm hg)]
            omega
          · rw [if_neg (fun q => e q.1), if_neg (fun q => e q.1)]
end FmC
end FFmHeaps
section FFmStill
/-! Heaps and rows at rest; how many meetings heaps can have. Pure, nothing of the model. -/
set_option linter.all false
namespace FmC
theorem sum_count (m : Nat) (l : List Nat) : sumTo m (fun x => l.count x) ≤ l.length := by
  induction l with
  | nil =>
    have : (fun x => ([] : List Nat).count x) = fun _ => 0 := by funext x; rfl
    rw [this, sumTo_zero]
    exact Nat.le_refl _
  | cons a l ih =>
    have : (fun x => (a :: l).count x) = fun x => l.count x + if x = a then 1 else 0 := by funext x; exact count_one l a x
    rw [this, sumTo_add, List.length_cons]
    by_cases h : a < m
    · rw [sumTo_at h]
      omega
    · rw [sumTo_out (by omega)]
      omega
theorem sumTo_le {k : Nat} {g h : Nat → Nat} (e : ∀ i, i < k → g i ≤ h i) : sumTo k g ≤ sumTo k h := by
  induction k with
  | zero => exact Nat.le_refl _
  | succ k ih =>
    have := ih fun i hi => e i (by omega)
    have := e k (by omega)
    simp only [sumTo]
    omega
theorem getD_len {hs : List (List Nat)} {k : Nat} (h : ∀ x ∈ hs, x.length ≤ k) (f : Nat) : (hs.getD f []).length ≤ k := by
  rw [List.getD_eq_getElem?_getD]
  cases e : hs[f]? with
  | none => exact Nat.zero_le _
  | some x => exact h x (List.mem_of_getElem? e)
theorem tall_heaps {n m : Nat} {hs : List (List Nat)} {out : Nat} (hn : n ≤ 4) (h : ∀ x ∈ hs, x.length ≤ 60) : tall n m (hsSt n hs out) ≤ 600 := by
  have h1 : tall n m (hsSt n hs out) ≤ sumTo n fun f => (n - f) * 60 := by
    refine sumTo_le fun f hf => Nat.mul_le_mul_left _ ?_
    have : hsSt n hs out f = fun x => (hs.getD f []).count x := by
      funext x
      unfold hsSt
      rw [if_pos hf]
    rw [this]
    exact Nat.le_trans (sum_count _ _) (getD_len h f)
  have h2 : sumTo n (fun f => (n - f) * 60) ≤ 600 := by
    have : n = 0 ∨ n = 1 ∨ n = 2 ∨ n = 3 ∨ n = 4 := by omega
    rcases this with rfl | rfl | rfl | rfl | rfl <;> decide
  omega
theorem sum_one {m f a : Nat} (h : a < m) : sumTo m (one f a f) = 1 := by
  rw [show one f a f = fun b => if b = a then 1 else 0 from by funext b; simp [one]]
  exact sumTo_at h 1
/-- where there is at most one on a floor, nobody can meet -/
theorem still_of {n m : Nat} {S U : Nat → Nat → Nat → Nat} {c : St} (h : ∀ f, f < n → sumTo m (c f) ≤ 1) : Still n m S U c := by
  rintro d ⟨e, f, a, b, hf, ha, hb, rfl, _⟩
  have h1 := h f hf
  have : (e + one f a + one f b) f = fun x => e f x + one f a f x + one f b f x := rfl
  rw [this, sumTo_add, sumTo_add] at h1
  have h2 := sum_one (f := f) ha
  have h3 := sum_one (f := f) hb
  have h4 : sumTo m (fun x => one f a f x) = 1 := h2
  have h5 : sumTo m (fun x => one f b f x) = 1 := h3
  omega
theorem hs_still {n m : Nat} {S U : Nat → Nat → Nat → Nat} {hs : List (List Nat)} {out : Nat} (h : ∀ f, f < n → (hs.getD f []).length ≤ 1) : Still n m S U (hsSt n hs out) := still_of fun f hf => by
  have : hsSt n hs out f = fun x => (hs.getD f []).count x := by
    funext x
    unfold hsSt
    rw [if_pos hf]
  rw [this]
  exact Nat.le_trans (sum_count _ _) (h f hf)
theorem sum_cnt : ∀ {m : Nat} {c : List Int}, NN c → ((sumTo m (cnt c) : Nat) : Int) ≤ c.sum
  | m, [], _ => by
    have : cnt [] = fun _ => 0 := by
      funext a
      unfold cnt
      rw [List.getD_eq_getElem?_getD]
      rfl
    rw [this, sumTo_zero]
    exact Int.le_refl _
  | 0, c, h => h.sum
  | m + 1, x :: c, h => by
    have ih := sum_cnt (m := m) (c := c) fun y hy => h y (List.mem_cons_of_mem _ hy)
    have hx := h x List.mem_cons_self
    have e : ∀ k, sumTo (k + 1) (cnt (x :: c)) = x.toNat + sumTo k (cnt c) := fun k => by
      induction k with
      | zero => simp only [sumTo]; show 0 + cnt (x :: c) 0 = x.toNat + 0; unfold cnt; rw [List.getD_cons_zero]; omega
      | succ k ih =>
        rw [sumTo, ih, sumTo]
        have : cnt (x :: c) (k + 1) = cnt c k := by unfold cnt; rw [List.getD_cons_succ]
        omega
    rw [e m, List.sum_cons]
    omega
theorem st_still {n m : Nat} {S U : Nat → Nat → Nat → Nat} {rows : List (List Int)} {out : Int} (h : ∀ r ∈ rows, NN r ∧ r.sum ≤ 1) : Still n m S U (stSt n rows out) := still_of fun f hf => by
  have : stSt n rows out f = cnt (rows.getD f []) := by
    funext x
    unfold stSt
    rw [if_pos hf]
  rw [this]
  have h1 : NN (rows.getD f []) ∧ (rows.getD f []).sum ≤ 1 := by
    rw [List.getD_eq_getElem?_getD]
    cases e : rows[f]? with
    | none => exact ⟨(fun x hx => by cases hx), (by decide)⟩
    | some x => exact h x (List.mem_of_getElem? e)
  have h2 := sum_cnt (m := m) h1.1
  omega
/-- counts of a heap as a row -/
theorem hs_rows {n m : Nat} {hs : List (List Nat)} {out : Nat} {rows : List (List Int)} (hl : hs.length = n) (hr : rows.length = n) (hm : ∀ h ∈ hs, ∀ x ∈ h, x < m)
    (e : ∀ (f : Nat) (h : List Nat) (r : List Int), hs[f]? = some h → rows[f]? = some r → r.length = m ∧ ∀ a, a < m → r[a]? = some ((h.count a : Nat) : Int)) : hsSt n (hs ++ [[]]) out = stSt n rows (out : Int) := by
  funext g a
  unfold hsSt stSt
  by_cases hg : g < n
  · rw [if_pos hg, if_pos hg]
    have h1 : (hs ++ [[]])[g]? = some (hs[g]'(by omega)) := by rw [List.getElem?_append_left (by omega), List.getElem?_eq_getElem]
    have h2 : rows[g]? = some (rows[g]'(by omega)) := List.getElem?_eq_getElem _
    obtain ⟨e1, e2⟩ := e g _ _ (List.getElem?_eq_getElem (by omega)) h2
    rw [List.getD_eq_getElem?_getD, List.getD_eq_getElem?_getD, h1, h2]
    show List.count a (hs[g]'(by omega)) = cnt (rows[g]'(by omega)) a
    unfold cnt
    by_cases ha : a < m
    · rw [List.getD_eq_getElem?_getD, e2 a ha]
      rfl
    · rw [List.getD_eq_getElem?_getD, List.getElem?_eq_none (by omega)]
      exact List.count_eq_zero.mpr fun q => ha (hm _ (List.getElem_mem _) a q)
  · rw [if_neg hg, if_neg hg]
    by_cases z : g = n ∧ a = 0
    · rw [if_pos z, if_pos z]
      have : ((hs ++ [[]]).getD n []).length = 0 := by
        rw [List.getD_eq_getElem?_getD, List.getElem?_append_right (by omega), hl, Nat.sub_self]
        rfl
      omega
    · rw [if_neg z, if_neg z]
/-- heaps at rest that are as rows at rest -/
theorem rest_rows {n m : Nat} {hs : List (List Nat)} {out : Nat} {rows : List (List Int)} {out' : Int} (hl : hs.length = n + 1) (h1 : ∀ f, f < n → (hs.getD f []).length ≤ 1) (hr : rows.length = n) (ho : 0 ≤ out') (rr : ∀ r ∈ rows, r.length = m ∧ NN r)
    (e : hsSt n hs out = stSt n rows out') : out' = ((out + (hs.getD n []).length : Nat) : Int) ∧ ∀ (f : Nat) (r : List Int), rows[f]? = some r → r = (List.range m).map fun k : Nat => if (hs.getD f []).head? = some k then (1 : Int) else 0 := by
  constructor
  · have := congrFun (congrFun e n) 0
    unfold hsSt stSt at this
    rw [if_neg (Nat.lt_irrefl n), if_neg (Nat.lt_irrefl n), if_pos ⟨rfl, rfl⟩, if_pos ⟨rfl, rfl⟩] at this
    omega
  · intro f r hfr
    have hf : f < n := by
      have := (List.getElem?_eq_some_iff.mp hfr).1
      omega
    obtain ⟨rl, rn⟩ := rr r (List.mem_of_getElem? hfr)
    have hh := h1 f hf
    refine List.ext_getElem (by rw [rl, List.length_map, List.length_range]) fun a p1 p2 => ?_
    rw [List.getElem_map, List.getElem_range]
    have := congrFun (congrFun e f) a
    unfold hsSt stSt at this
    rw [if_pos hf, if_pos hf] at this
    have e3 : rows.getD f [] = r := by rw [List.getD_eq_getElem?_getD, hfr]; rfl
    have e4 := rn.cnt a
    rw [e3] at this
    have e5 : r.getD a 0 = r[a] := by rw [List.getD_eq_getElem?_getD, List.getElem?_eq_getElem p1]; rfl
    rw [e5, ← this] at e4
    rw [← e4]
    generalize hs.getD f [] = h at *
    match h, hh with
    | [], _ => rfl
    | [x], _ =>
      rw [count_one]
      show (((0 + if a = x then 1 else 0 : Nat) : Nat) : Int) = if some x = some a then 1 else 0
      by_cases z : a = x
      · rw [if_pos z, if_pos (by rw [z])]
        rfl
      · rw [if_neg z, if_neg (fun q => z (by cases q; rfl))]
        rfl
def endRow (m : Nat) (o : Option Nat) : List Int := (List.range m).map fun k : Nat => if o = some k then 1 else 0
theorem endRow_len (m : Nat) (o : Option Nat) : (endRow m o).length = m := by unfold endRow; rw [List.length_map, List.length_range]
theorem endRow_nn (m : Nat) (o : Option Nat) : NN (endRow m o) := fun x hx => by
  obtain ⟨k, _, rfl⟩ := List.mem_map.mp hx
  split <;> decide
theorem endRow_cnt (m : Nat) (o : Option Nat) (a : Nat) : cnt (endRow m o) a = if a < m ∧ o = some a then 1 else 0 := by
  unfold cnt endRow
  rw [List.getD_eq_getElem?_getD, List.getElem?_map]
  by_cases ha : a < m
  · rw [List.getElem?_range ha]
    show Int.toNat (if o = some a then 1 else 0) = _
    by_cases h : o = some a
    · rw [if_pos h, if_pos ⟨ha, h⟩]
      rfl
    · rw [if_neg h, if_neg (fun q => h q.2)]
      rfl
  · rw [List.getElem?_eq_none (by rw [List.length_range]; omega), if_neg (fun q => ha q.1)]
    rfl
theorem sum_map_one (o : Option Nat) : ∀ m : Nat, ((List.range m).map fun k : Nat => if o = some k then (1 : Int) else 0).sum = if ∃ k, k < m ∧ o = some k then 1 else 0
  | 0 => by
    rw [if_neg (by rintro ⟨k, h, _⟩; omega)]
    rfl
  | m + 1 => by
    rw [List.range_succ, List.map_append, List.sum_append, sum_map_one o m]
    show _ + ((if o = some m then (1 : Int) else 0) + 0) = _
    by_cases h : o = some m
    · have e1 : ¬ ∃ k, k < m ∧ o = some k := by
        rintro ⟨k, hk, e⟩
        rw [h] at e
        cases e
        omega
      rw [if_pos h, if_neg e1, if_pos (⟨m, Nat.lt_succ_self m, h⟩ : ∃ k, k < m + 1 ∧ o = some k)]
      rfl
    · rw [if_neg h]
      by_cases q : ∃ k, k < m ∧ o = some k
      · rw [if_pos q, if_pos (by obtain ⟨k, hk, e⟩ := q; exact ⟨k, by omega, e⟩)]
        rfl
      · rw [if_neg q, if_neg (by
          rintro ⟨k, hk, e⟩
          by_cases z : k = m
          · exact h (by rw [e, z])
          · exact q ⟨k, by omega, e⟩)]
        rfl
theorem endRow_sum (m : Nat) (o : Option Nat) : (endRow m o).sum ≤ 1 := by
  unfold endRow
  rw [sum_map_one]
  split <;> decide
/-- heaps at rest as rows -/
theorem hs_end {n m : Nat} {hs : List (List Nat)} {out : Nat} (hl : hs.length = n + 1) (hm : ∀ h ∈ hs, ∀ x ∈ h, x < m) (h1 : ∀ f, f < n → (hs.getD f []).length ≤ 1) :
    hsSt n hs out = stSt n (((hs.take n).map List.head?).map (endRow m)) ((out + (hs.getD n []).length : Nat) : Int) := by
  funext g a
  unfold hsSt stSt
  by_cases hg : g < n
  · rw [if_pos hg, if_pos hg]
    have e : (((hs.take n).map List.head?).map (endRow m)).getD g [] = endRow m (hs.getD g []).head? := by
      rw [List.getD_eq_getElem?_getD, List.getElem?_map, List.getElem?_map, List.getElem?_take_of_lt hg, List.getElem?_eq_getElem (show g < hs.length by omega), List.getD_eq_getElem?_getD, List.getElem?_eq_getElem (show g < hs.length by omega)]
      rfl
    rw [e, endRow_cnt]
    have hh := h1 g hg
    have hm' : ∀ x ∈ hs.getD g [], x < m := fun x hx => by
      rw [List.getD_eq_getElem?_getD, List.getElem?_eq_getElem (show g < hs.length by omega)] at hx
      exact hm _ (List.getElem_mem _) x hx
    generalize hs.getD g [] = h at *
    match h, hh with
    | [], _ => rw [if_neg (fun q => by cases q.2)]; rfl
    | [x], _ =>
      rw [count_one]
      show 0 + (if a = x then 1 else 0) = if a < m ∧ some x = some a then 1 else 0
      have hx := hm' x List.mem_cons_self
      by_cases z : a = x
      · rw [if_pos z, if_pos ⟨by omega, by rw [z]⟩]
      · rw [if_neg z, if_neg (fun q => z (by cases q.2; rfl))]
  · rw [if_neg hg, if_neg hg]
    by_cases z : g = n ∧ a = 0
    · rw [if_pos z, if_pos z]
      rfl
    · rw [if_neg z, if_neg z]
/-- rows are told by their counts -/
theorem st_inj {n m : Nat} {r1 r2 : List (List Int)} {o1 o2 : Int} (l1 : r1.length = n) (l2 : r2.length = n) (k1 : ∀ r ∈ r1, r.length = m ∧ NN r) (k2 : ∀ r ∈ r2, r.length = m ∧ NN r) (p1 : 0 ≤ o1) (p2 : 0 ≤ o2) (e : stSt n r1 o1 = stSt n r2 o2) : r1 = r2 ∧ o1 = o2 := by
  constructor
  · refine List.ext_getElem (by omega) fun f h1 h2 => ?_
    obtain ⟨a1, a2⟩ := k1 _ (List.getElem_mem h1)
    obtain ⟨b1, b2⟩ := k2 _ (List.getElem_mem h2)
    refine List.ext_getElem (by omega) fun a q1 q2 => ?_
    have := congrFun (congrFun e f) a
    unfold stSt at this
    rw [if_pos (by omega), if_pos (by omega)] at this
    have e1 : r1.getD f [] = r1[f] := by rw [List.getD_eq_getElem?_getD, List.getElem?_eq_getElem h1]; rfl
    have e2 : r2.getD f [] = r2[f] := by rw [List.getD_eq_getElem?_getD, List.getElem?_eq_getElem h2]; rfl
    rw [e1, e2] at this
    have c1 := a2.cnt a
    have c2 := b2.cnt a
    have d1 : (r1[f]).getD a 0 = (r1[f])[a] := by rw [List.getD_eq_getElem?_getD, List.getElem?_eq_getElem q1]; rfl
    have d2 : (r2[f]).getD a 0 = (r2[f])[a] := by rw [List.getD_eq_getElem?_getD, List.getElem?_eq_getElem q2]; rfl
    omega
  · have := congrFun (congrFun e n) 0
    unfold stSt at this
    rw [if_neg (Nat.lt_irrefl n), if_neg (Nat.lt_irrefl n), if_pos ⟨rfl, rfl⟩, if_pos ⟨rfl, rfl⟩] at this
    omega
end FmC
end FFmStill
section FRN
set_option Elab.async false
set_option linter.all false
set_option maxRecDepth 100000
set_option maxHeartbeats 4000000
local macro_rules | `(tactic| walk_at "ne") => `(tactic| first | assumption | (apply Ne.symm; assumption) | exact L2.ne_of_none (by assumption) (by assumption) | exact Ne.symm (L2.ne_of_none (by assumption) (by assumption)))
local macro_rules | `(tactic| walk_at "hl") => `(tactic| first | assumption | exact L2.upd_same | (refine Eq.trans (L2.upd_ne (by walk_at "ne")) ?_; walk_at "hl"))
local macro_rules | `(tactic| walk_at "sd") => `(tactic| first | (with_reducible show (_ : Int) < _; omega) | (with_reducible show (_ : Int) ≤ _; omega) | assumption | decide | exact ⟨by assumption, by assumption⟩ | exact ⟨by decide, by decide⟩ | exact Or.inr ⟨by decide, by decide⟩ | exact Or.inl ⟨by omega, by omega⟩ | rfl)
local macro_rules | `(tactic| walk_at "st1") => `(tactic| first
  | refine ⟨_, rfl, ?_⟩
  | refine ⟨_, _, rfl, rfl, ?_⟩
  | refine ⟨_, _, rfl, ?_⟩
  | (refine ⟨_, _, _, _, rfl, rfl, L2.SqL.of (by walk_at "hl"), rfl, ?_⟩)
  | (refine ⟨_, _, _, _, rfl, rfl, L2.SqT.of (by walk_at "hl"), rfl, ?_⟩)
  | (refine ⟨_, _, _, _, rfl, rfl, (by walk_at "hl"), rfl, ?_⟩)
  | (refine And.intro (by walk_at "sd") ?_)
  )
local macro_rules | `(tactic| walk_at "st") => `(tactic| repeat walk_at "st1")
local macro_rules | `(tactic| walk_at "op") => `(tactic| try dsimp only [L2.tSeq, L2.tAsg, L2.tOp, L2.tVar, L2.tC, L2.gSub, L2.rI, L2.rI0, L2.rIxL, L2.rIxT, L2.rSetL, L2.tIfS, L2.tTest, L2.tRet, L2.gName, L2.tNext, L2.tAnd, L2.tOr, L2.tNot, L2.tAndV, L2.tOrV, L2.tNotV, L2.tB, L2.tCB, L2.tCons, L2.tNil, L2.tCall, L2.tTup, L2.tLst, L2.tChain, L2.tUn, L2.tPar, L2.tDrop, L2.tIf, L2.tBM, L2.tBM0, L2.rAppend, L2.rCat, L2.rIsi, L2.rIsiT, L2.gTup, L2.gCons, L2.gNil, Fm.tFor_eq, Fm.tLc_eq, Fm.tLc2_eq, L2.iTup, L2.iList, L2.iRng1, L2.iRng2, L2.tSl, L2.tPart, L2.tNoPart, L2.rSlL, L2.rEq, L2.rNe, L2.rU, L2.rEqD, L2.rNeD, Fm.tRevT, Fm.rLenS, Fm.rTupOf, Fm.rLstOf, L2.tDNewK, L2.tCallS, L2.WE, Fm.wKeep, Fm.rIsK, Fm.rIsKT, List.cons_append, List.nil_append, L2.tYes])
namespace Fm
open PySem PySem.Spec PyProof.Rows L2
section
variable {P : Program} {w : World} {K : PySem.W.Frag} {mg : Str → Option Value} {base : Heap}
/-! ### one meeting of a standing is a step -/
theorem getD_addAt {c : List Int} {i : Nat} {z : Int} (hi : i < c.length) (x : Nat) : (addAt c i z).getD x 0 = c.getD x 0 + if x = i then z else 0 := by
  unfold addAt
  by_cases h : x = i
  · subst h
    rw [if_pos rfl, List.getD_eq_getElem?_getD, List.getElem?_set_self hi]
    rfl
  · rw [if_neg h, List.getD_eq_getElem?_getD, List.getElem?_set_ne (fun q => h q.symm), ← List.getD_eq_getElem?_getD, Int.add_zero]
theorem rowMet_at {c : List Int} {a b s : Nat} (ha : a < c.length) (hb : b < c.length) (hs : s < c.length) (x : Nat) : (rowMet c a b s).getD x 0 = c.getD x 0 + (if x = a then -1 else 0) + (if x = b then -1 else 0) + (if x = s then 1 else 0) := by
  unfold rowMet
  rw [getD_addAt (by rw [addAt_len, addAt_len]; exact hs), getD_addAt (by rw [addAt_len]; exact hb), getD_addAt ha]
theorem getD_nn {c : List Int} (h : ∀ x ∈ c, 0 ≤ x) (x : Nat) : 0 ≤ c.getD x 0 := by
  rw [List.getD_eq_getElem?_getD]
  cases e : c[x]? with
  | none => exact Int.le_refl _
  | some y => exact h y (List.mem_of_getElem? e)
theorem nn_getD {c : List Int} (h : ∀ x, 0 ≤ c.getD x 0) : ∀ y ∈ c, 0 ≤ y := fun y hy => by
  obtain ⟨i, hi⟩ := List.getElem?_of_mem hy
  have := h i
  rw [List.getD_eq_getElem?_getD, hi] at this
  exact this
section
variable {fs : List PyData} {m n f a b : Nat} {rows : List (List Int)} {out : Int}
theorem rows_at (hf : f < rows.length) : rows[f]? = some (rows.getD f []) := by
  rw [List.getD_eq_getElem?_getD, List.getElem?_eq_getElem hf]
  rfl
/-- the rows behind a meeting, by their places -/
theorem metRows_at (hl : rows.length = n) (hf : f < n) (g : Nat) (hg : g < n) : (metRows fs rows f a b).getD g [] = if g = f then rowMet (rows.getD f []) a b (goN fs 0 f a b) else if g = f + 1 then addAt (rows.getD (f + 1) []) (goN fs 1 f a b) 1 else rows.getD g [] := by
  unfold metRows
  by_cases h1 : f + 1 < rows.length
  · rw [if_pos h1]
    by_cases z : g = f + 1
    · subst z
      rw [if_neg (by omega), if_pos rfl, List.getD_eq_getElem?_getD, List.getElem?_set_self (by rw [List.length_set]; omega)]
      rfl
    · rw [List.getD_eq_getElem?_getD, List.getElem?_set_ne (fun q => z q.symm)]
      by_cases y : g = f
      · subst y
        rw [if_pos rfl, List.getElem?_set_self (by omega)]
        rfl
      · rw [if_neg y, if_neg z, List.getElem?_set_ne (fun q => y q.symm), ← List.getD_eq_getElem?_getD]
  · rw [if_neg h1]
    by_cases y : g = f
    · subst y
      rw [if_pos rfl, List.getD_eq_getElem?_getD, List.getElem?_set_self (by omega)]
      rfl
    · rw [if_neg y, if_neg (by omega), List.getD_eq_getElem?_getD, List.getElem?_set_ne (fun q => y q.symm), ← List.getD_eq_getElem?_getD]
theorem metRows_len (hl : rows.length = n) : (metRows fs rows f a b).length = n := by
  unfold metRows
  by_cases h1 : f + 1 < rows.length
  · rw [if_pos h1, List.length_set, List.length_set, hl]
  · rw [if_neg h1, List.length_set, hl]
theorem meets_cells (ok : StOk m rows out) (hl : rows.length = n) (h : Meets3 m rows f a b) : f < n ∧ a < m ∧ b < m ∧ (rows.getD f []).length = m ∧ ∀ x, (if x = a then (1 : Int) else 0) + (if x = b then 1 else 0) ≤ (rows.getD f []).getD x 0 := by
  obtain ⟨hf, hab, hb, hc⟩ := h
  have hr := ok.pos _ (List.mem_of_getElem? (rows_at hf))
  have hlen := ok.len _ (List.mem_of_getElem? (rows_at hf))
  refine ⟨by omega, by omega, hb, hlen, fun x => ?_⟩
  have h0 := getD_nn hr x
  unfold cellN at hc
  by_cases e : a = b
  · subst e
    rw [if_pos rfl] at hc
    by_cases xa : x = a
    · subst xa
      rw [if_pos rfl]
      omega
    · rw [if_neg xa]
      omega
  · rw [if_neg e] at hc
    by_cases xa : x = a
    · subst xa
      rw [if_pos rfl, if_neg e]
      omega
    · rw [if_neg xa]
      by_cases xb : x = b
      · subst xb
        rw [if_pos rfl]
        omega
      · rw [if_neg xb]
        omega
theorem met_ok (ok : StOk m rows out) (hl : rows.length = n) (hgo : goLt fs m n) (h : Meets3 m rows f a b) : StOk m (metRows fs rows f a b) (metOut rows out f) := by
  obtain ⟨hf, ha, hb, hlen, hc⟩ := meets_cells ok hl h
  have hs := hgo 0 (by decide) f hf a b ha hb
  have hu := hgo 1 (by decide) f hf a b ha hb
  have key : ∀ r ∈ metRows fs rows f a b, r.length = m ∧ ∀ y ∈ r, 0 ≤ y := fun r hr => by
    obtain ⟨g, hg⟩ := List.getElem?_of_mem hr
    have hgn : g < n := by
      have := (List.getElem?_eq_some_iff.mp hg).1
      rwa [metRows_len hl] at this
    have e : r = (metRows fs rows f a b).getD g [] := by rw [List.getD_eq_getElem?_getD, hg]; rfl
    rw [metRows_at hl hf g hgn] at e
    by_cases y : g = f
    · rw [if_pos y] at e
      subst e
      refine ⟨by rw [rowMet_len, hlen], nn_getD fun x => ?_⟩
      rw [rowMet_at (by omega) (by omega) (by omega)]
      have := hc x
      by_cases xa : x = a <;> by_cases xb : x = b <;> by_cases xs : x = goN fs 0 f a b <;> simp only [xa, xb, xs, if_true, if_false] at this ⊢ <;> first | omega | (simp_all; omega) | simp_all
    · rw [if_neg y] at e
      have hrg := List.mem_of_getElem? (rows_at (show g < rows.length by omega))
      by_cases z : g = f + 1
      · rw [if_pos z] at e
        subst e
        subst z
        have h1 := ok.len _ hrg
        refine ⟨by rw [addAt_len, h1], nn_getD fun x => ?_⟩
        rw [getD_addAt (by omega)]
        have := getD_nn (ok.pos _ hrg) x
        by_cases xu : x = goN fs 1 f a b
        · rw [if_pos xu]; omega
        · rw [if_neg xu]; omega
      · rw [if_neg z] at e
        subst e
        exact ⟨ok.len _ hrg, ok.pos _ hrg⟩
  refine ⟨fun r hr => (key r hr).1, fun r hr => (key r hr).2, ?_⟩
  have := ok.out
  unfold metOut
  by_cases h1 : f + 1 < rows.length
  · rw [if_pos h1]; exact this
  · rw [if_neg h1]; omega
/-- a meeting is a step -/
theorem met_step (ok : StOk m rows out) (hl : rows.length = n) (hgo : goLt fs m n) (h : Meets3 m rows f a b) : FmC.Step n m (goN fs 0) (FmC.outU n (goN fs 1)) (FmC.stSt n rows out) (FmC.stSt n (metRows fs rows f a b) (metOut rows out f)) := by
  obtain ⟨hf, ha, hb, hlen, hc⟩ := meets_cells ok hl h
  have hs := hgo 0 (by decide) f hf a b ha hb
  have hu := hgo 1 (by decide) f hf a b ha hb
  have hrow : ∀ x, ((FmC.stSt n rows out f x : Nat) : Int) = (rows.getD f []).getD x 0 := fun x => by
    unfold FmC.stSt FmC.cnt
    rw [if_pos hf]
    have := getD_nn (ok.pos _ (List.mem_of_getElem? (rows_at (show f < rows.length by omega)))) x
    omega
  have one_at : ∀ (c x : Nat), ((FmC.one f c f x : Nat) : Int) = if x = c then 1 else 0 := fun c x => by
    by_cases z : x = c
    · rw [if_pos z, z, FmC.one_self]; rfl
    · rw [if_neg z, FmC.one_ne (fun q => z q.2)]; rfl
  refine ⟨fun g x => FmC.stSt n rows out g x - FmC.one f a g x - FmC.one f b g x, f, a, b, hf, ha, hb, ?_, ?_⟩
  · funext g x
    show _ = FmC.stSt n rows out g x - FmC.one f a g x - FmC.one f b g x + FmC.one f a g x + FmC.one f b g x
    by_cases y : g = f
    · subst y
      have h1 := hc x
      have h2 := hrow x
      have h3 := one_at a x
      have h4 := one_at b x
      omega
    · rw [FmC.one_ne (fun q => y q.1), FmC.one_ne (fun q => y q.1)]
      omega
  · funext g x
    show _ = FmC.stSt n rows out g x - FmC.one f a g x - FmC.one f b g x + FmC.one f (goN fs 0 f a b) g x + FmC.one (f + 1) (FmC.outU n (goN fs 1) f a b) g x
    by_cases y : g = f
    · subst y
      have h1 := hc x
      have h2 := hrow x
      have h3 := one_at a x
      have h4 := one_at b x
      have h5 := one_at (goN fs 0 g a b) x
      rw [FmC.one_ne (f := g + 1) (fun q => by omega)]
      have e : ((FmC.stSt n (metRows fs rows g a b) (metOut rows out g) g x : Nat) : Int) = (rows.getD g []).getD x 0 + (if x = a then -1 else 0) + (if x = b then -1 else 0) + (if x = goN fs 0 g a b then 1 else 0) := by
        have := rowMet_at (c := rows.getD g []) (a := a) (b := b) (s := goN fs 0 g a b) (by omega) (by omega) (by omega) x
        rw [← this]
        unfold FmC.stSt FmC.cnt
        rw [if_pos hf, metRows_at hl hf g hf, if_pos rfl]
        have nn : 0 ≤ (rowMet (rows.getD g []) a b (goN fs 0 g a b)).getD x 0 := by
          rw [this]
          by_cases xa : x = a <;> by_cases xb : x = b <;> by_cases xs : x = goN fs 0 g a b <;> simp only [xa, xb, xs, if_true, if_false] at h1 ⊢ <;> first | omega | (simp_all; omega) | simp_all
        omega
      have ea : (if x = a then (-1 : Int) else 0) = - (if x = a then 1 else 0) := by by_cases z : x = a <;> simp [z]
      have eb : (if x = b then (-1 : Int) else 0) = - (if x = b then 1 else 0) := by by_cases z : x = b <;> simp [z]
      rw [ea, eb, ← h3, ← h4, ← h5, ← h2] at e
      rw [← h3, ← h4, ← h2] at h1
      omega
    · rw [FmC.one_ne (fun q => y q.1), FmC.one_ne (fun q => y q.1), FmC.one_ne (fun q => y q.1), Nat.sub_zero, Nat.sub_zero, Nat.add_zero]
      by_cases hg : g < n
      · unfold FmC.stSt
        rw [if_pos hg, if_pos hg, metRows_at hl hf g hg, if_neg y]
        by_cases z : g = f + 1
        · subst z
          rw [if_pos rfl]
          have eo : FmC.outU n (goN fs 1) f a b = goN fs 1 f a b := if_pos hg
          rw [eo]
          have hrg := List.mem_of_getElem? (rows_at (show f + 1 < rows.length by omega))
          have h0 := getD_nn (ok.pos _ hrg) x
          unfold FmC.cnt
          rw [getD_addAt (by rw [ok.len _ hrg]; exact hu)]
          by_cases xu : x = goN fs 1 f a b
          · rw [if_pos xu, xu, FmC.one_self]
            rw [xu] at h0
            omega
          · rw [if_neg xu, FmC.one_ne (fun q => xu q.2)]
            omega
        · rw [if_neg z, FmC.one_ne (fun q => z q.1)]
          rfl
      · unfold FmC.stSt
        rw [if_neg hg, if_neg hg]
        by_cases hn : f + 1 < n
        · have eo : metOut rows out f = out := by unfold metOut; rw [if_pos (by omega)]
          rw [eo, FmC.one_ne (fun q => by omega)]
          rfl
        · have eo : metOut rows out f = out + 1 := by unfold metOut; rw [if_neg (by omega)]
          have eu : FmC.outU n (goN fs 1) f a b = 0 := if_neg hn
          have en : f + 1 = n := by omega
          have ho := ok.out
          rw [eo, eu, en]
          by_cases w : g = n ∧ x = 0
          · rw [if_pos w, if_pos w, w.1, w.2, FmC.one_self]
            omega
          · rw [if_neg w, if_neg w, FmC.one_ne w]
end

end
end Fm
end FRN
section FRG
set_option Elab.async false
set_option linter.all false
set_option maxRecDepth 100000
set_option maxHeartbeats 4000000
local macro_rules | `(tactic| walk_at "ne") => `(tactic| first | assumption | (apply Ne.symm; assumption) | exact L2.ne_of_none (by assumption) (by assumption) | exact Ne.symm (L2.ne_of_none (by assumption) (by assumption)))
local macro_rules | `(tactic| walk_at "hl") => `(tactic| first | assumption | exact L2.upd_same | (refine Eq.trans (L2.upd_ne (by walk_at "ne")) ?_; walk_at "hl"))
local macro_rules | `(tactic| walk_at "sd") => `(tactic| first | (with_reducible show (_ : Int) < _; omega) | (with_reducible show (_ : Int) ≤ _; omega) | assumption | decide | exact ⟨by assumption, by assumption⟩ | exact ⟨by decide, by decide⟩ | exact Or.inr ⟨by decide, by decide⟩ | exact Or.inl ⟨by omega, by omega⟩ | rfl)
local macro_rules | `(tactic| walk_at "st1") => `(tactic| first
  | refine ⟨_, rfl, ?_⟩
  | refine ⟨_, _, rfl, rfl, ?_⟩
  | refine ⟨_, _, rfl, ?_⟩
  | (refine ⟨_, _, _, _, rfl, rfl, L2.SqL.of (by walk_at "hl"), rfl, ?_⟩)
  | (refine ⟨_, _, _, _, rfl, rfl, L2.SqT.of (by walk_at "hl"), rfl, ?_⟩)
  | (refine ⟨_, _, _, _, rfl, rfl, (by walk_at "hl"), rfl, ?_⟩)
  | (refine And.intro (by walk_at "sd") ?_)
  )
local macro_rules | `(tactic| walk_at "st") => `(tactic| repeat walk_at "st1")
local macro_rules | `(tactic| walk_at "op") => `(tactic| try dsimp only [L2.tSeq, L2.tAsg, L2.tOp, L2.tVar, L2.tC, L2.gSub, L2.rI, L2.rI0, L2.rIxL, L2.rIxT, L2.rSetL, L2.tIfS, L2.tTest, L2.tRet, L2.gName, L2.tNext, L2.tAnd, L2.tOr, L2.tNot, L2.tAndV, L2.tOrV, L2.tNotV, L2.tB, L2.tCB, L2.tCons, L2.tNil, L2.tCall, L2.tTup, L2.tLst, L2.tChain, L2.tUn, L2.tPar, L2.tDrop, L2.tIf, L2.tBM, L2.tBM0, L2.rAppend, L2.rCat, L2.rIsi, L2.rIsiT, L2.gTup, L2.gCons, L2.gNil, Fm.tFor_eq, Fm.tLc_eq, Fm.tLc2_eq, L2.iTup, L2.iList, L2.iRng1, L2.iRng2, L2.tSl, L2.tPart, L2.tNoPart, L2.rSlL, L2.rEq, L2.rNe, L2.rU, L2.rEqD, L2.rNeD, Fm.tRevT, Fm.rLenS, Fm.rTupOf, Fm.rLstOf, L2.tDNewK, L2.tCallS, L2.WE, Fm.wKeep, Fm.rIsK, Fm.rIsKT, List.cons_append, List.nil_append, L2.tYes])
namespace Fm
open PySem PySem.Spec PyProof.Rows L2
section
variable {P : Program} {w : World} {K : PySem.W.Frag} {mg : Str → Option Value} {base : Heap}
/-! ### rows of meetings -/
inductive RunM (fs : List PyData) (m : Nat) : List (List Int) → Int → List (Nat × Nat × Nat) → List (List Int) → Int → Prop
  | nil (rows : List (List Int)) (out : Int) : RunM fs m rows out [] rows out
  | cons {rows r : List (List Int)} {out o : Int} {f a b : Nat} {l : List (Nat × Nat × Nat)} : Meets3 m rows f a b → RunM fs m (metRows fs rows f a b) (metOut rows out f) l r o → RunM fs m rows out ((f, a, b) :: l) r o
theorem RunM.state {fs : List PyData} {m n : Nat} {rows r : List (List Int)} {out o : Int} {l : List (Nat × Nat × Nat)} (h : RunM fs m rows out l r o) (hgo : goLt fs m n) : StOk m rows out → rows.length = n → StOk m r o ∧ r.length = n ∧ FmC.Run n m (goN fs 0) (FmC.outU n (goN fs 1)) (FmC.stSt n rows out) (FmC.stSt n r o) := by
  induction h with
  | nil => exact fun ok hl => ⟨ok, hl, .nil _⟩
  | cons hm _ ih =>
    intro ok hl
    obtain ⟨h1, h2, h3⟩ := ih (met_ok ok hl hgo hm) (metRows_len hl)
    exact ⟨h1, h2, .cons (met_step ok hl hgo hm) h3⟩
theorem RunM.snoc {fs : List PyData} {m : Nat} {rows r : List (List Int)} {out o : Int} {l : List (Nat × Nat × Nat)} {f a b : Nat} (h : RunM fs m rows out l r o) (hm : Meets3 m r f a b) : RunM fs m rows out (l ++ [(f, a, b)]) (metRows fs r f a b) (metOut r o f) := by
  induction h with
  | nil => exact .cons hm (.nil _ _)
  | cons h1 _ ih => exact .cons h1 (ih hm)

end
end Fm
end FRG
section FRUN
set_option Elab.async false
set_option linter.all false
set_option maxRecDepth 100000
set_option maxHeartbeats 4000000
local macro_rules | `(tactic| walk_at "ne") => `(tactic| first | assumption | (apply Ne.symm; assumption) | exact L2.ne_of_none (by assumption) (by assumption) | exact Ne.symm (L2.ne_of_none (by assumption) (by assumption)))
local macro_rules | `(tactic| walk_at "hl") => `(tactic| first | assumption | exact L2.upd_same | (refine Eq.trans (L2.upd_ne (by walk_at "ne")) ?_; walk_at "hl"))
local macro_rules | `(tactic| walk_at "sd") => `(tactic| first | (with_reducible show (_ : Int) < _; omega) | (with_reducible show (_ : Int) ≤ _; omega) | assumption | decide | exact ⟨by assumption, by assumption⟩ | exact ⟨by decide, by decide⟩ | exact Or.inr ⟨by decide, by decide⟩ | exact Or.inl ⟨by omega, by omega⟩ | rfl)
local macro_rules | `(tactic| walk_at "st1") => `(tactic| first
  | refine ⟨_, rfl, ?_⟩
  | refine ⟨_, _, rfl, rfl, ?_⟩
  | refine ⟨_, _, rfl, ?_⟩
  | (refine ⟨_, _, _, _, rfl, rfl, L2.SqL.of (by walk_at "hl"), rfl, ?_⟩)
  | (refine ⟨_, _, _, _, rfl, rfl, L2.SqT.of (by walk_at "hl"), rfl, ?_⟩)
  | (refine ⟨_, _, _, _, rfl, rfl, (by walk_at "hl"), rfl, ?_⟩)
  | (refine And.intro (by walk_at "sd") ?_)
  )
local macro_rules | `(tactic| walk_at "st") => `(tactic| repeat walk_at "st1")
local macro_rules | `(tactic| walk_at "op") => `(tactic| try dsimp only [L2.tSeq, L2.tAsg, L2.tOp, L2.tVar, L2.tC, L2.gSub, L2.rI, L2.rI0, L2.rIxL, L2.rIxT, L2.rSetL, L2.tIfS, L2.tTest, L2.tRet, L2.gName, L2.tNext, L2.tAnd, L2.tOr, L2.tNot, L2.tAndV, L2.tOrV, L2.tNotV, L2.tB, L2.tCB, L2.tCons, L2.tNil, L2.tCall, L2.tTup, L2.tLst, L2.tChain, L2.tUn, L2.tPar, L2.tDrop, L2.tIf, L2.tBM, L2.tBM0, L2.rAppend, L2.rCat, L2.rIsi, L2.rIsiT, L2.gTup, L2.gCons, L2.gNil, Fm.tFor_eq, Fm.tLc_eq, Fm.tLc2_eq, L2.iTup, L2.iList, L2.iRng1, L2.iRng2, L2.tSl, L2.tPart, L2.tNoPart, L2.rSlL, L2.rEq, L2.rNe, L2.rU, L2.rEqD, L2.rNeD, Fm.tRevT, Fm.rLenS, Fm.rTupOf, Fm.rLstOf, L2.tDNewK, L2.tCallS, L2.WE, Fm.wKeep, Fm.rIsK, Fm.rIsKT, List.cons_append, List.nil_append, L2.tYes])
namespace Fm
open PySem PySem.Spec PyProof.Rows L2
abbrev s_gone : Stmt := top 28
abbrev N_gone : List Str := ["house", "standing", "row", "here", "at", "meeting"]
theorem sc_gone : FnScope N_gone ["house", "standing", "row"] (defScope s_gone) := ⟨rfl, rfl, rfl, by decide +kernel, rfl, by decide +kernel, by decide +kernel⟩
abbrev s_run : Stmt := top 27
abbrev N_run : List Str := ["house", "standing", "row", "here", "many"]
theorem sc_run : FnScope N_run ["house", "standing", "row"] (defScope s_run) := ⟨rfl, rfl, rfl, by decide +kernel, rfl, by decide +kernel, by decide +kernel⟩
section
variable {P : Program} {w : World} {K : PySem.W.Frag} {mg : Str → Option Value} {base : Heap}
/-! ### rows of any things: gone, run -/
def IsM (m : Nat) (rows : List (List Int)) (d : PyData) : Prop := ∃ x, d = triD x ∧ Meets3 m rows x.1 x.2.1 x.2.2
/-- how far a row goes -/
structure GoneTo (fs : List PyData) (m : Nat) (ds : List PyData) (r : List (List Int)) (o : Int) (k : Nat) (r1 : List (List Int)) (o1 : Int) : Prop where
  le : k ≤ ds.length
  went : ∃ l, ds.take k = l.map triD ∧ RunM fs m r o l r1 o1
  stop : ∀ d, ds[k]? = some d → ¬ IsM m r1 d
def spGone : Sp := fun vs H Q _ => ∃ (hv sv : V) (L p ph pm : Addr) (u : HO) (fs : List PyData) (m n : Nat) (rows : List (List Int)) (out : Int) (xs : List V) (ds : List PyData), vs = [hv, sv, .ref L] ∧ H p = some u ∧ Dat H ph hv (.tuple fs) ∧ HouseN m n (.tuple fs) ∧ Dat H p sv (stD rows out) ∧ rows.length = n ∧ StOk m rows out ∧
  H L = some (.lst xs) ∧ Dats H pm xs ds ∧ ∀ t w k r o H', GoneTo fs m ds rows out k r o → H' t = some (.tup [w, .int (k : Nat)]) → Dat H' p w (stD r o) → Same H H' → Q (.ref t) H'
theorem ok_gone (D : Df K mg "gone" s_gone ["house", "standing", "row"]) (T : Nms mg) (c_can_meet : CallOk P w K mg base CX0 3 "can_meet" ["standing", "thing"] spCan) (c_met : CallOk P w K mg base CX0 1 "met" ["house", "standing", "meeting"] spMet) :
    CallOk P w K mg base CX0 4 "gone" ["house", "standing", "row"] spGone := by
  refine df_ok D sc_gone (fun vs H Q E h => ?_) (fun f cdv A outer s H vs Q E hr h => ?_)
  · obtain ⟨hv, sv, L, p, ph, pm, u, fs, m, n, rows, out, xs, ds, rfl, _⟩ := h
    rfl
  · obtain ⟨hv, sv, L, p, ph, pm, u, fs, m, n, rows, out, xs, ds, rfl, hp, hD, hN, sD, hl, ok, hL, hds, k⟩ := h
    have nd := sc_gone.nd
    have hgo := goLt_of hD hN
    have hmn : 1 ≤ n ∧ n ≤ 4 ∧ 1 ≤ m ∧ m ≤ 6 := by
      obtain ⟨_, _, _, z1, z2, z3, z4, _⟩ := hN
      exact ⟨z1, z2, z3, z4⟩
    refine ⟨_, (pss_cons (ps_set (i := 3) nd rfl (Or.inl rfl) (pv 1))
      (pss_cons (ps_for PassesOwn.never rfl (pi_enum (by rfl) T.n_enumerate (pa_cons (pv 2) pa_nil)) (pg_tup rfl (pgs_cons (pg_name (i := 4) nd rfl (Or.inl rfl)) (pgs_cons (pg_name (i := 5) nd rfl (Or.inl rfl)) pgs_nil))) (pss_cons (ps_if (pt_not (pt_val (pe_cc c_can_meet (hr.mono (by omega)) (pa_cons (pv 3) (pa_cons (pv 5) pa_nil))))) (pss_one (ps_ret (pe_tup (pa_cons (pv 3) (pa_cons (pv 4) pa_nil))))) pss_nil)
      (pss_one (ps_set (i := 3) nd rfl (Or.inl rfl) (pe_cc c_met (hr.mono (by omega)) (pa_cons (pv 0) (pa_cons (pv 3) (pa_cons (pv 5) pa_nil))))))))
      (pss_one (ps_ret (pe_tup (pa_cons (pv 3) (pa_cons (pe_callB (r := rLenS K) call_lenS (by rfl) T.n_len (by decide +kernel) (pa_cons (pv 2) pa_nil)) pa_nil))))))), ?_⟩
    walk_at "op"
    have hst : L2.start N_gone [hv, sv, .ref L] = [some hv, some sv, some (.ref L), none, none, none] := rfl
    rw [hst]
    refine ⟨_, rfl, _, rfl, L, xs, rfl, SqL.of hL, ?_⟩
    try dsimp only [List.set]
    refine fI walk_enum (fun i σ G => ∃ (u4 u5 : Option V) (v : V) (ri : List (List Int)) (oi : Int) (l : List (Nat × Nat × Nat)), σ = [some hv, some sv, some (.ref L), some v, u4, u5] ∧ Same H G ∧ Dat G p v (stD ri oi) ∧ ri.length = n ∧ StOk m ri oi ∧ RunM fs m rows out l ri oi ∧ ds.take i = l.map triD)
      ⟨_, _, sv, rows, out, [], rfl, Same.refl H, sD, hl, ok, .nil _ _, rfl⟩ (fun i σ G _ ⟨_, _, _, _, _, _, _, e, _⟩ => SqL.of (e _ _ hL)) ?_ ?_
    · rintro i v σ G _ hi ⟨u4, u5, v, ri, oi, l, rfl, sG, hv', hri, oki, hRi, hli⟩ ⟨t, x, y, rfl, ht, rfl, hxi, hyi⟩
      dsimp only at hxi hyi
      cases hxi
      obtain ⟨d, hdi, hyd⟩ := hds.at hyi
      have st := same_new (o := .tup [V.int (i : Nat), y]) ht
      have htt : upd G t (.tup [V.int (i : Nat), y]) t = some (.tup [V.int (i : Nat), y]) := upd_same
      have s1 := sG.trans st
      have hv1 := hv'.same st
      generalize upd G t (.tup [V.int (i : Nat), y]) = G1 at *
      walk_at "op"
      refine ⟨t, _, rfl, SqT.of htt, rfl, _, _, rfl, _, _, rfl, rfl, ?_⟩
      refine ⟨_, rfl, _, rfl, v, y, p, pm, m, ri, oi, _, rfl, hv1, hyd.same s1, oki, by omega, by omega, hmn.2.2.1, hmn.2.2.2, fun b0 hb0 => ?_⟩
      refine ⟨b0, rfl, ?_⟩
      cases b0 with
      | true =>
        rw [if_neg (by decide)]
        obtain ⟨⟨mf, ma, mb⟩, rfl, hm⟩ := hb0.mp rfl
        obtain ⟨hf, ham, hbm, _, _⟩ := meets_cells oki hri hm
        refine ⟨_, rfl, _, rfl, _, rfl, hv, v, y, p, ph, pm, u, fs, m, n, mf, ma, mb, ri, oi, rfl, s1 _ _ hp, hD.same s1, hN, hv1, hri, oki, hyd.same s1, hf, ham, hbm, fun v' G' hv'' s' => ?_⟩
        exact ⟨_, _, v', _, _, l ++ [(mf, ma, mb)], rfl, s1.trans s', hv'', metRows_len hri, met_ok oki hri hgo hm, hRi.snoc hm, by rw [take_snoc hdi, hli, List.map_append]; rfl⟩
      | false =>
        rw [if_pos (by decide)]
        refine ⟨_, rfl, _, rfl, by show 2 ≤ sizeLine; decide, fun T0 hT0 => ?_⟩
        have st2 := same_new (o := .tup [v, V.int (i : Nat)]) hT0
        refine k T0 v i ri oi _ ⟨Nat.le_of_lt (List.getElem?_eq_some_iff.mp hdi).1, ⟨l, hli, hRi⟩, fun d' hd' => ?_⟩ upd_same (hv1.same st2) (s1.trans st2)
        rw [hdi] at hd'
        cases hd'
        exact fun q => Bool.noConfusion (hb0.mpr q)
    · rintro σ G ⟨u4, u5, v, ri, oi, l, rfl, sG, hv', hri, oki, hRi, hli⟩
      walk_at "op"
      refine ⟨_, rfl, _, rfl, L, xs, rfl, .inl (SqL.of (sG _ _ hL)), by show 2 ≤ sizeLine; decide, fun T0 hT0 => ?_⟩
      have st := same_new (o := .tup [v, V.int (xs.length : Nat)]) hT0
      refine k T0 v xs.length ri oi _ ⟨by rw [hds.1]; exact Nat.le_refl _, ⟨l, hli, hRi⟩, fun d' hd' => ?_⟩ upd_same (hv'.same st) (sG.trans st)
      rw [List.getElem?_eq_none (by rw [hds.1]; exact Nat.le_refl _)] at hd'
      cases hd'
/-- run: the standing behind the row, or NoMeeting(at) -/
def spRun (C : Addr) : Sp := fun vs H Q E => ∃ (hv sv : V) (L p ph pm : Addr) (u : HO) (fs : List PyData) (m n : Nat) (rows : List (List Int)) (out : Int) (xs : List V) (ds : List PyData), vs = [hv, sv, .ref L] ∧ H p = some u ∧ Dat H ph hv (.tuple fs) ∧ HouseN m n (.tuple fs) ∧ Dat H p sv (stD rows out) ∧ rows.length = n ∧ StOk m rows out ∧
  H L = some (.lst xs) ∧ Dats H pm xs ds ∧ (∀ w k r o H', GoneTo fs m ds rows out k r o → k = ds.length → Dat H' p w (stD r o) → Same H H' → Q w H') ∧
  (∀ k r o H1 dx, GoneTo fs m ds rows out k r o → k < ds.length → Same H H1 → H1 dx = none → E (.ref C) (some dx) (upd H1 dx (.xd [("at", .int (k : Nat))])))
theorem ok_run (D : Df K mg "run" s_run ["house", "standing", "row"]) (T : Nms mg) {C : Addr} (MK : MakesI P w K mg base C "NoMeeting" "at") (c_check_standing : CallOk P w K mg base (L2.CX P w) 7 "check_standing" ["house", "standing"] spCheck) (c_gone : CallOk P w K mg base CX0 4 "gone" ["house", "standing", "row"] spGone) :
    CallOk P w K mg base (L2.CX P w) 8 "run" ["house", "standing", "row"] (spRun C) := by
  refine df_okX D sc_run (fun vs H Q E h => ?_) (fun f cdv A outer s H vs Q E hr h => ?_)
  · obtain ⟨hv, sv, L, p, ph, pm, u, fs, m, n, rows, out, xs, ds, rfl, _⟩ := h
    rfl
  · obtain ⟨hv, sv, L, p, ph, pm, u, fs, m, n, rows, out, xs, ds, rfl, hp, hD, hN, sD, hl, ok, hL, hds, k1, k2⟩ := h
    have nd := sc_run.nd
    refine ⟨_, (pss_cons (ps_expr (pe_cx c_check_standing (hr.mono (by omega)) (pa_cons (pv 0) (pa_cons (pv 1) pa_nil))))
      (pss_cons (ps_asg (pe_cc c_gone (hr.mono (by omega)) (pa_cons (pv 0) (pa_cons (pv 1) (pa_cons (pv 2) pa_nil)))) (pg_tup rfl (pgs_cons (pg_name (i := 3) nd rfl (Or.inl rfl)) (pgs_cons (pg_name (i := 4) nd rfl (Or.inl rfl)) pgs_nil))))
      (pss_cons (ps_if (pt_cmpR op_lt (pv 4) (pe_callB (r := rLenS K) call_lenS (by rfl) T.n_len (by decide +kernel) (pa_cons (pv 2) pa_nil)) (nomark _)) (pss_one (ps_raise rfl (takes_of rfl rfl rfl rfl) (MK _ rfl rfl rfl rfl rfl rfl rfl (hr.mono (by omega)) (pv 4)))) pss_nil)
      (pss_one (ps_ret (pv 3)))))), ?_⟩
    walk_at "op"
    refine ⟨_, rfl, _, rfl, hv, sv, ph, p, .tuple fs, m, n, rows, out, rfl, hD, hN, sD, hl, ok, fun G1 s1 => ?_⟩
    refine ⟨_, rfl, _, rfl, _, rfl, hv, sv, L, p, ph, pm, u, fs, m, n, rows, out, xs, ds, rfl, s1 _ _ hp, hD.same s1, hN, sD.same s1, hl, ok, s1 _ _ hL, hds.same s1, fun T0 v k r o G2 hG hT0 hv2 s2 => ?_⟩
    walk_at "op"
    refine ⟨T0, _, rfl, SqT.of hT0, rfl, _, _, rfl, _, _, rfl, rfl, ?_⟩
    refine ⟨_, rfl, _, rfl, L, xs, rfl, .inl (SqL.of ((s1.trans s2) _ _ hL)), _, _, rfl, rfl, ?_⟩
    have hxl := hds.1
    by_cases hk : k < ds.length
    · refine ⟨true, by rw [decide_eq_true (show ((k : Nat) : Int) < ((xs.length : Nat) : Int) by omega)], ?_⟩
      rw [if_pos rfl]
      exact ⟨_, rfl, fun dx hdx => k2 k r o G2 dx hG hk (s1.trans s2) hdx⟩
    · refine ⟨false, by rw [decide_eq_false (show ¬ ((k : Nat) : Int) < ((xs.length : Nat) : Int) by omega)], ?_⟩
      rw [if_neg (by decide)]
      exact ⟨_, rfl, k1 v k r o G2 hG (by have := hG.le; omega) hv2 (s1.trans s2)⟩

end
end Fm
end FRUN
section FFmLate
/-! Standings together, late comers, numbers called otherwise, how many people. Pure, nothing of the model. -/
set_option linter.all false
namespace FmC
section
variable {n m : Nat} {S U : Nat → Nat → Nat → Nat}
/-! ### together -/
theorem st_add {a b : List (List Int)} {o1 o2 : Int} (l1 : a.length = n) (l2 : b.length = n) (k1 : ∀ r ∈ a, r.length = m ∧ NN r) (k2 : ∀ r ∈ b, r.length = m ∧ NN r) (p1 : 0 ≤ o1) (p2 : 0 ≤ o2) : stSt n (List.zipWith addR a b) (o1 + o2) = stSt n a o1 + stSt n b o2 := by
  funext g x
  simp only [add_at]
  unfold stSt
  by_cases hg : g < n
  · rw [if_pos hg, if_pos hg, if_pos hg]
    have e : (List.zipWith addR a b).getD g [] = addR (a.getD g []) (b.getD g []) := by
      rw [List.getD_eq_getElem?_getD, List.getElem?_zipWith, List.getElem?_eq_getElem (show g < a.length by omega), List.getElem?_eq_getElem (show g < b.length by omega), List.getD_eq_getElem?_getD, List.getElem?_eq_getElem (show g < a.length by omega), List.getD_eq_getElem?_getD, List.getElem?_eq_getElem (show g < b.length by omega)]
      rfl
    have ka : a.getD g [] ∈ a := by rw [List.getD_eq_getElem?_getD, List.getElem?_eq_getElem (show g < a.length by omega)]; exact List.getElem_mem _
    have kb : b.getD g [] ∈ b := by rw [List.getD_eq_getElem?_getD, List.getElem?_eq_getElem (show g < b.length by omega)]; exact List.getElem_mem _
    obtain ⟨q1, q2⟩ := k1 _ ka
    obtain ⟨q3, q4⟩ := k2 _ kb
    rw [e]
    unfold cnt
    rw [addR_get (by omega)]
    have := q2.get x
    have := q4.get x
    omega
  · rw [if_neg hg, if_neg hg, if_neg hg]
    by_cases z : g = n ∧ x = 0
    · rw [if_pos z, if_pos z, if_pos z]
      omega
    · rw [if_neg z, if_neg z, if_neg z]
theorem Run.both {c c' d d' : St} (h : Run n m S U c c') (k : Run n m S U d d') : Run n m S U (c + d) (c' + d') := by
  have h1 := h.beside d
  have h2 := k.beside c'
  rw [add_cm d c, add_cm d c'] at h1
  exact h1.trans h2
/-! ### how many people -/
def heads (n m : Nat) (c : St) : Nat := sumTo n (fun f => sumTo m (c f)) + c n 0
theorem sumTo_congr' : ∀ {k : Nat} {g h : Nat → Nat}, (∀ i, i < k → g i = h i) → sumTo k g = sumTo k h
  | 0, _, _, _ => rfl
  | k + 1, g, h, e => by
    simp only [sumTo]
    rw [sumTo_congr' fun i hi => e i (by omega), e k (by omega)]
theorem heads_add (c d : St) : heads n m (c + d) = heads n m c + heads n m d := by
  unfold heads
  have : (fun f => sumTo m ((c + d) f)) = fun f => sumTo m (c f) + sumTo m (d f) := by
    funext f
    exact sumTo_add m (c f) (d f)
  rw [this, sumTo_add]
  show _ + (c n 0 + d n 0) = _
  omega
theorem heads_one {f a : Nat} (hf : f < n) (ha : a < m) : heads n m (one f a) = 1 := by
  unfold heads
  have : (fun g => sumTo m (one f a g)) = fun g => if g = f then 1 else 0 := by
    funext g
    by_cases h : g = f
    · subst h
      rw [if_pos rfl, sum_one ha]
    · rw [if_neg h]
      have : one f a g = fun _ => 0 := by funext b; exact one_ne fun q => h q.1
      rw [this, sumTo_zero]
  rw [this, sumTo_at hf, one_ne (by omega)]
theorem heads_out : heads n m (one n 0) = 1 := by
  unfold heads
  have : sumTo n (fun g => sumTo m (one n 0 g)) = sumTo n fun _ => 0 := sumTo_congr' fun g hg => by
    have : one n 0 g = fun _ => 0 := by funext b; exact one_ne (by omega)
    rw [this, sumTo_zero]
  rw [this, sumTo_zero, one_self]
theorem heads_up (B : Tabs n m S U) {f a b : Nat} (hf : f < n) (ha : a < m) (hb : b < m) : heads n m (one (f + 1) (outU n U f a b)) = 1 := by
  unfold outU
  by_cases h : f + 1 < n
  · rw [if_pos h]
    exact heads_one h (B.um f a b hf ha hb)
  · rw [if_neg h, show f + 1 = n by omega]
    exact heads_out
theorem heads_step (B : Tabs n m S U) {c d : St} (h : Step n m S (outU n U) c d) : heads n m c = heads n m d := by
  obtain ⟨e, f, a, b, hf, ha, hb, rfl, rfl⟩ := h
  rw [heads_add, heads_add, heads_add, heads_add, heads_one hf ha, heads_one hf hb, heads_one hf (B.sm f a b hf ha hb), heads_up B hf ha hb]
theorem heads_run (B : Tabs n m S U) {c d : St} (h : Run n m S (outU n U) c d) : heads n m c = heads n m d := by
  induction h with
  | nil => rfl
  | cons s _ ih => rw [heads_step B s, ih]
theorem sum_cnt_eq : ∀ {m : Nat} {c : List Int}, c.length = m → NN c → ((sumTo m (cnt c) : Nat) : Int) = c.sum
  | 0, [], _, _ => rfl
  | m + 1, x :: c, hl, h => by
    have ih := sum_cnt_eq (m := m) (c := c) (by simpa using hl) fun y hy => h y (List.mem_cons_of_mem _ hy)
    have hx := h x List.mem_cons_self
    have e : ∀ k, sumTo (k + 1) (cnt (x :: c)) = x.toNat + sumTo k (cnt c) := fun k => by
      induction k with
      | zero => simp only [sumTo]; show 0 + cnt (x :: c) 0 = x.toNat + 0; unfold cnt; rw [List.getD_cons_zero]; omega
      | succ k ih =>
        rw [sumTo, ih, sumTo]
        have : cnt (x :: c) (k + 1) = cnt c k := by unfold cnt; rw [List.getD_cons_succ]
        omega
    rw [e m, List.sum_cons]
    omega
theorem sumTo_shift : ∀ (k : Nat) (g : Nat → Nat), sumTo (k + 1) g = g 0 + sumTo k fun i => g (i + 1)
  | 0, g => by simp only [sumTo]; omega
  | k + 1, g => by
    rw [sumTo, sumTo_shift k g]
    simp only [sumTo]
    omega
theorem rows_sum : ∀ {k : Nat} {rows : List (List Int)}, rows.length = k → (∀ r ∈ rows, r.length = m ∧ NN r) → ((sumTo k (fun f => sumTo m (cnt (rows.getD f []))) : Nat) : Int) = (rows.map List.sum).sum
  | 0, [], _, _ => rfl
  | k + 1, r :: rows, hl, h => by
    have ih := rows_sum (k := k) (rows := rows) (by simpa using hl) fun y hy => h y (List.mem_cons_of_mem _ hy)
    obtain ⟨q1, q2⟩ := h r List.mem_cons_self
    rw [sumTo_shift, List.map_cons, List.sum_cons, ← ih, ← sum_cnt_eq q1 q2]
    show ((sumTo m (cnt r) + sumTo k (fun i => sumTo m (cnt (rows.getD i []))) : Nat) : Int) = _
    omega
theorem heads_st {rows : List (List Int)} {out : Int} (hl : rows.length = n) (h : ∀ r ∈ rows, r.length = m ∧ NN r) (ho : 0 ≤ out) : ((heads n m (stSt n rows out) : Nat) : Int) = (rows.map List.sum).sum + out := by
  unfold heads
  have e : sumTo n (fun f => sumTo m (stSt n rows out f)) = sumTo n fun f => sumTo m (cnt (rows.getD f [])) := sumTo_congr' fun f hf => by
    have : stSt n rows out f = cnt (rows.getD f []) := by
      funext x
      unfold stSt
      rw [if_pos hf]
    rw [this]
  rw [e, Int.natCast_add, rows_sum hl h]
  have : stSt n rows out n 0 = out.toNat := by
    unfold stSt
    rw [if_neg (Nat.lt_irrefl n), if_pos ⟨rfl, rfl⟩]
  rw [this]
  omega
/-! ### a late comer -/
/-- whoever comes to a floor of a standing at rest leads it on, one more out where somebody stands on each floor from there on -/
theorem late (B : Tabs n m S U) : ∀ (k : Nat) {c : St} {f a : Nat}, k + f = n → f < n → a < m → (∀ g, g < n → sumTo m (c g) ≤ 1) →
    ∃ d, Run n m S (outU n U) (c + one f a) d ∧ (∀ g, g < n → sumTo m (d g) ≤ 1) ∧ ((∀ g, f ≤ g → g < n → sumTo m (c g) = 1) → d n 0 = c n 0 + 1) ∧ (¬ (∀ g, f ≤ g → g < n → sumTo m (c g) = 1) → d n 0 = c n 0)
  | 0, c, f, a, e, hf, ha, hc => by omega
  | k + 1, c, f, a, e, hf, ha, hc => by
    have pl : ∀ (d : St) (g b : Nat), sumTo m ((d + one f b) g) = sumTo m (d g) + if g = f then sumTo m (one f b f) else 0 := fun d g b => by
      have : (d + one f b) g = fun x => d g x + one f b g x := rfl
      rw [this, sumTo_add]
      congr 1
      by_cases h : g = f
      · rw [if_pos h, h]
      · rw [if_neg h]
        have : one f b g = fun _ => 0 := by funext x; exact one_ne fun q => h q.1
        rw [this, sumTo_zero]
    by_cases h0 : sumTo m (c f) = 0
    · refine ⟨c + one f a, .nil _, fun g hg => ?_, ?_⟩
      · rw [pl]
        by_cases h : g = f
        · rw [if_pos h, sum_one ha, h, h0]
          exact Nat.le_refl _
        · rw [if_neg h]
          exact hc g hg
      · have h2 : (c + one f a) n 0 = c n 0 := by rw [add_at, one_ne (by omega), Nat.add_zero]
        exact ⟨fun q => by have := q f (Nat.le_refl _) hf; omega, fun _ => h2⟩
    · -- somebody stands there
      have h1 : sumTo m (c f) = 1 := by have := hc f hf; omega
      obtain ⟨b, hb, hb1⟩ : ∃ b, b < m ∧ 1 ≤ c f b := by
        have : ∀ j, sumTo j (c f) ≠ 0 → ∃ b, b < j ∧ 1 ≤ c f b := by
          intro j
          induction j with
          | zero => intro q; exact absurd rfl q
          | succ j ih =>
            intro q
            simp only [sumTo] at q
            by_cases z : c f j = 0
            · obtain ⟨b, q1, q2⟩ := ih (by omega)
              exact ⟨b, by omega, q2⟩
            · exact ⟨j, by omega, by omega⟩
        exact this m h0
      -- the rest without them
      let r : St := fun g x => c g x - one f b g x
      have er : c = r + one f b := by
        funext g x
        show c g x = (c g x - one f b g x) + one f b g x
        by_cases z : g = f ∧ x = b
        · obtain ⟨rfl, rfl⟩ := z
          rw [one_self]
          omega
        · rw [one_ne z]
          omega
      have hr : sumTo m (r f) = 0 := by
        have := pl r f b
        rw [← er, if_pos rfl, sum_one hb] at this
        omega
      have hrg : ∀ g, g ≠ f → sumTo m (r g) = sumTo m (c g) := fun g hg => by
        have := pl r g b
        rw [← er, if_neg hg] at this
        omega
      have st : Step n m S (outU n U) (c + one f a) (r + one f (S f b a) + one (f + 1) (outU n U f b a)) := ⟨r, f, b, a, hf, hb, ha, by rw [er], rfl⟩
      have hs := B.sm f b a hf hb ha
      have hc2 : ∀ g, g < n → sumTo m ((r + one f (S f b a)) g) = sumTo m (c g) := fun g hg => by
        rw [pl]
        by_cases h : g = f
        · rw [if_pos h, sum_one hs, h, hr, h1]
        · rw [if_neg h, hrg g h]
          omega
      have hn0 : (r + one f (S f b a)) n 0 = c n 0 := by
        show (c n 0 - one f b n 0) + one f (S f b a) n 0 = c n 0
        rw [one_ne (by omega), one_ne (by omega)]
        omega
      by_cases hn : f + 1 < n
      · have eu : outU n U f b a = U f b a := if_pos hn
        obtain ⟨d, q1, q2, q3⟩ := late B k (c := r + one f (S f b a)) (f := f + 1) (a := U f b a) (by omega) hn (B.um f b a hf hb ha) fun g hg => by rw [hc2 g hg]; exact hc g hg
        rw [← eu] at q1
        refine ⟨d, (Run.one st).trans q1, q2, ?_⟩
        rw [hn0] at q3
        refine ⟨fun z => q3.1 fun g h1' h2 => by rw [hc2 g h2]; exact z g (by omega) h2, fun z => q3.2 fun q => z fun g h1' h2 => ?_⟩
        by_cases hgf : g = f
        · rw [hgf]; exact h1
        · rw [← hc2 g h2]; exact q g (by omega) h2
      · have en : f + 1 = n := by omega
        have eu : outU n U f b a = 0 := if_neg hn
        rw [eu, en] at st
        refine ⟨_, .one st, fun g hg => ?_, ?_⟩
        · have : (r + one f (S f b a) + one n 0) g = fun x => (r + one f (S f b a)) g x + one n 0 g x := rfl
          rw [this, sumTo_add, hc2 g hg]
          have : one n 0 g = fun _ => 0 := by funext x; exact one_ne (by omega)
          rw [this, sumTo_zero]
          exact hc g hg
        · have h3 : (r + one f (S f b a) + one n 0) n 0 = c n 0 + 1 := by rw [add_at, hn0, one_self]
          exact ⟨fun _ => h3, fun z => absurd (fun g h1' h2 => by rw [show g = f by omega]; exact h1) z⟩
end
/-! ### numbers called otherwise, floor by floor -/
section
variable {n m : Nat} {S U S' U' : Nat → Nat → Nat → Nat} {cl bk : Nat → Nat → Nat}
def turnSt (n m : Nat) (bk : Nat → Nat → Nat) (c : St) : St := fun g x => if g < n then (if x < m then c g (bk g x) else 0) else c g x
theorem turn_add (c d : St) : turnSt n m bk (c + d) = turnSt n m bk c + turnSt n m bk d := by
  funext g x
  unfold turnSt
  simp only [add_at]
  by_cases h : g < n
  · rw [if_pos h, if_pos h, if_pos h]
    by_cases k : x < m
    · rw [if_pos k, if_pos k, if_pos k]
    · rw [if_neg k, if_neg k, if_neg k]
  · rw [if_neg h, if_neg h, if_neg h]
theorem turn_one (C : ∀ g, g < n → Calls m (cl g) (bk g)) {f a : Nat} (hf : f < n) (ha : a < m) : turnSt n m bk (one f a) = one f (cl f a) := by
  funext g x
  unfold turnSt
  by_cases hg : g < n
  · rw [if_pos hg]
    have K := C g hg
    by_cases hx : x < m
    · rw [if_pos hx]
      by_cases z : g = f
      · subst z
        rw [one_at, one_at, if_pos rfl, if_pos rfl]
        by_cases w : bk g x = a
        · rw [if_pos w, if_pos (by rw [← w, K.cb x hx])]
        · rw [if_neg w, if_neg (fun q => w (by rw [q, K.bc a ha]))]
      · rw [one_ne fun q => z q.1, one_ne fun q => z q.1]
    · rw [if_neg hx, one_ne]
      rintro ⟨rfl, rfl⟩
      exact hx (K.cm a ha)
  · rw [if_neg hg, one_ne (by omega), one_ne (by omega)]
theorem turn_out : turnSt n m bk (one n 0) = one n 0 := by
  funext g x
  unfold turnSt
  by_cases hg : g < n
  · rw [if_pos hg]
    by_cases hx : x < m
    · rw [if_pos hx, one_ne (by omega), one_ne (by omega)]
    · rw [if_neg hx, one_ne (by omega)]
  · rw [if_neg hg]
theorem turn_step (B : Tabs n m S U) (C : ∀ g, g < n → Calls m (cl g) (bk g)) (hS : ∀ f a b, f < n → a < m → b < m → S' f a b = cl f (S f (bk f a) (bk f b))) (hU : ∀ f a b, f + 1 < n → a < m → b < m → U' f a b = cl (f + 1) (U f (bk f a) (bk f b)))
    {c d : St} (h : Step n m S (outU n U) c d) : Step n m S' (outU n U') (turnSt n m bk c) (turnSt n m bk d) := by
  obtain ⟨e, f, a, b, hf, ha, hb, rfl, rfl⟩ := h
  have K := C f hf
  refine ⟨turnSt n m bk e, f, cl f a, cl f b, hf, K.cm a ha, K.cm b hb, ?_, ?_⟩
  · rw [turn_add, turn_add, turn_one C hf ha, turn_one C hf hb]
  · rw [turn_add, turn_add, turn_one C hf (B.sm f a b hf ha hb), hS f _ _ hf (K.cm a ha) (K.cm b hb), K.bc a ha, K.bc b hb]
    congr 1
    unfold outU
    by_cases hn : f + 1 < n
    · rw [if_pos hn, if_pos hn, turn_one C hn (B.um f a b hf ha hb), hU f _ _ hn (K.cm a ha) (K.cm b hb), K.bc a ha, K.bc b hb]
    · rw [if_neg hn, if_neg hn, show f + 1 = n by omega]
      exact turn_out
theorem turn_run (B : Tabs n m S U) (C : ∀ g, g < n → Calls m (cl g) (bk g)) (hS : ∀ f a b, f < n → a < m → b < m → S' f a b = cl f (S f (bk f a) (bk f b))) (hU : ∀ f a b, f + 1 < n → a < m → b < m → U' f a b = cl (f + 1) (U f (bk f a) (bk f b)))
    {c d : St} (h : Run n m S (outU n U) c d) : Run n m S' (outU n U') (turnSt n m bk c) (turnSt n m bk d) := by
  induction h with
  | nil => exact .nil _
  | cons s _ ih => exact .cons (turn_step B C hS hU s) ih
theorem turn_tri (B : Tabs n m S U) (T : Tri n m S U) (C : ∀ g, g < n → Calls m (cl g) (bk g)) (hS : ∀ f a b, f < n → a < m → b < m → S' f a b = cl f (S f (bk f a) (bk f b))) (hU : ∀ f a b, f + 1 < n → a < m → b < m → U' f a b = cl (f + 1) (U f (bk f a) (bk f b))) : Tri n m S' U' := by
  intro f x y z hf hx hy hz
  have K := C f hf
  have bx := K.bm x hx
  have by_ := K.bm y hy
  have bz := K.bm z hz
  obtain ⟨t1, t2, t3⟩ := T f _ _ _ hf bx by_ bz
  have sxy := B.sm f _ _ hf bx by_
  have sxz := B.sm f _ _ hf bx bz
  have e1 : S' f x y = cl f (S f (bk f x) (bk f y)) := hS f x y hf hx hy
  have e2 : S' f x z = cl f (S f (bk f x) (bk f z)) := hS f x z hf hx hz
  have b1 : bk f (S' f x y) = S f (bk f x) (bk f y) := by rw [e1, K.bc _ sxy]
  have b2 : bk f (S' f x z) = S f (bk f x) (bk f z) := by rw [e2, K.bc _ sxz]
  have m1 : S' f x y < m := by rw [e1]; exact K.cm _ sxy
  have m2 : S' f x z < m := by rw [e2]; exact K.cm _ sxz
  refine ⟨by rw [hS f _ z hf m1 hz, hS f _ y hf m2 hy, b1, b2, t1], fun h1 => ?_, fun h2 => ?_⟩
  · have K1 := C (f + 1) h1
    have u1 := B.um f _ _ hf bx by_
    have u2 := B.um f _ _ hf sxy bz
    have u3 := B.um f _ _ hf bx bz
    have u4 := B.um f _ _ hf sxz by_
    rw [hU f x y h1 hx hy, hU f _ z h1 m1 hz, hU f x z h1 hx hz, hU f _ y h1 m2 hy, b1, b2, hS (f + 1) _ _ h1 (K1.cm _ u1) (K1.cm _ u2), hS (f + 1) _ _ h1 (K1.cm _ u3) (K1.cm _ u4), K1.bc _ u1, K1.bc _ u2, K1.bc _ u3, K1.bc _ u4, t2 h1]
  · have h1 : f + 1 < n := by omega
    have K1 := C (f + 1) h1
    have u1 := B.um f _ _ hf bx by_
    have u2 := B.um f _ _ hf sxy bz
    have u3 := B.um f _ _ hf bx bz
    have u4 := B.um f _ _ hf sxz by_
    rw [hU f x y h1 hx hy, hU f _ z h1 m1 hz, hU f x z h1 hx hz, hU f _ y h1 m2 hy, b1, b2, hU (f + 1) _ _ h2 (K1.cm _ u1) (K1.cm _ u2), hU (f + 1) _ _ h2 (K1.cm _ u3) (K1.cm _ u4), K1.bc _ u1, K1.bc _ u2, K1.bc _ u3, K1.bc _ u4, t3 h2]
end
end FmC
end FFmLate
section FFmLate3
/-! Rows at rest: who rests there; a late comer among them. Pure, nothing of the model. -/
set_option linter.all false
namespace FmC
def rowW (r : List Int) : Option Nat := if (1 : Int) ∈ r then some (r.idxOf 1) else none
theorem mem_le_sum : ∀ {r : List Int} {x : Int}, NN r → x ∈ r → x ≤ r.sum
  | [], _, _, hx => by cases hx
  | c :: r, x, h, hx => by
    have hc := h c List.mem_cons_self
    have hr : NN r := fun y hy => h y (List.mem_cons_of_mem _ hy)
    have := hr.sum
    rw [List.sum_cons]
    rcases List.mem_cons.mp hx with rfl | hx
    · omega
    · have := mem_le_sum hr hx
      omega
theorem row_one : ∀ {r : List Int}, NN r → r.sum ≤ 1 → ∀ x, cnt r x = (rowW r).toList.count x
  | [], _, _, x => by
    unfold cnt rowW
    rw [if_neg (by simp)]
    rfl
  | c :: r, h, hs, x => by
    have hc := h c List.mem_cons_self
    have hr : NN r := fun y hy => h y (List.mem_cons_of_mem _ hy)
    rw [List.sum_cons] at hs
    have hr0 := hr.sum
    have ih := row_one hr (by omega)
    have hsucc : ∀ y, cnt (c :: r) (y + 1) = cnt r y := fun y => by unfold cnt; rw [List.getD_cons_succ]
    have hzero : cnt (c :: r) 0 = c.toNat := by unfold cnt; rw [List.getD_cons_zero]
    by_cases h1 : c = 1
    · subst h1
      have no : (1 : Int) ∉ r := fun z => by
        have := mem_le_sum hr z
        omega
      have e : rowW r = none := by unfold rowW; rw [if_neg no]
      have e2 : rowW (1 :: r) = some 0 := by unfold rowW; rw [if_pos List.mem_cons_self, List.idxOf_cons_self]
      rw [e2]
      cases x with
      | zero => rw [hzero]; rfl
      | succ y =>
        rw [hsucc, ih y, e]
        show 0 = List.count (y + 1) [0]
        rw [List.count_cons_of_ne (by omega)]
        rfl
    · have h0 : c = 0 := by omega
      subst h0
      by_cases hm : (1 : Int) ∈ r
      · have e : rowW r = some (r.idxOf 1) := by unfold rowW; rw [if_pos hm]
        have e2 : rowW (0 :: r) = some (r.idxOf 1 + 1) := by
          unfold rowW
          rw [if_pos (List.mem_cons_of_mem _ hm), List.idxOf_cons]
          rfl
        rw [e2]
        cases x with
        | zero =>
          rw [hzero]
          show 0 = List.count 0 [_]
          rw [List.count_cons_of_ne (by omega)]
          rfl
        | succ y =>
          rw [hsucc, ih y, e]
          show List.count y [_] = List.count (y + 1) [_]
          by_cases z : y = r.idxOf 1
          · rw [z, List.count_singleton_self, List.count_singleton_self]
          · rw [List.count_cons_of_ne (by omega), List.count_cons_of_ne (by omega)]
            rfl
      · have e : rowW r = none := by unfold rowW; rw [if_neg hm]
        have e2 : rowW (0 :: r) = none := by
          unfold rowW
          rw [if_neg (fun z => by rcases List.mem_cons.mp z with z | z; exact absurd z (by decide); exact hm z)]
        rw [e2]
        cases x with
        | zero => rw [hzero]; rfl
        | succ y => rw [hsucc, ih y, e]; rfl
theorem row_head {r : List Int} {h : List Nat} (hr : NN r) (hs : r.sum ≤ 1) (hh : h.length ≤ 1) (e : ∀ x, cnt r x = h.count x) : rowW r = h.head? := by
  have e2 := row_one hr hs
  generalize rowW r = o at *
  match o, h, hh with
  | none, [], _ => rfl
  | some i, [], _ =>
    have := (e i).symm.trans (e2 i)
    have q : List.count i [i] = 1 := List.count_singleton_self
    have q2 : (some i).toList = [i] := rfl
    rw [q2, q] at this
    cases this
  | none, [y], _ =>
    have := (e y).symm.trans (e2 y)
    rw [List.count_singleton_self] at this
    cases this
  | some i, [y], _ =>
    have := (e y).symm.trans (e2 y)
    rw [List.count_singleton_self] at this
    have q2 : (some i).toList = [i] := rfl
    rw [q2] at this
    by_cases z : i = y
    · rw [z]; rfl
    · rw [List.count_cons_of_ne z] at this
      cases this
/-- a row that one more stands on -/
def bump (m a : Nat) (r : List Int) : List Int := (List.range m).map fun k => r.getD k 0 + if k = a then 1 else 0
theorem bump_len (m a : Nat) (r : List Int) : (bump m a r).length = m := by unfold bump; rw [List.length_map, List.length_range]
theorem bump_get {m a k : Nat} {r : List Int} (hk : k < m) : (bump m a r)[k]? = some (r.getD k 0 + if k = a then 1 else 0) := by
  unfold bump
  rw [List.getElem?_map, List.getElem?_range hk]
  rfl
theorem bump_nn {m a : Nat} {r : List Int} (h : NN r) : NN (bump m a r) := fun x hx => by
  unfold bump at hx
  obtain ⟨k, _, rfl⟩ := List.mem_map.mp hx
  have : 0 ≤ r.getD k 0 := by
    rw [List.getD_eq_getElem?_getD]
    cases e : r[k]? with
    | none => exact Int.le_refl _
    | some y => exact h y (List.mem_of_getElem? e)
  by_cases z : k = a
  · rw [if_pos z]; omega
  · rw [if_neg z]; omega
theorem bump_cnt {m a : Nat} {r : List Int} (hl : r.length = m) (h : NN r) (ha : a < m) (x : Nat) : cnt (bump m a r) x = cnt r x + if x = a then 1 else 0 := by
  unfold cnt
  by_cases hx : x < m
  · rw [List.getD_eq_getElem?_getD, bump_get hx]
    have : 0 ≤ r.getD x 0 := by
      rw [List.getD_eq_getElem?_getD, List.getElem?_eq_getElem (by omega)]
      exact h _ (List.getElem_mem _)
    by_cases z : x = a
    · rw [if_pos z, if_pos z]
      show (r.getD x 0 + 1).toNat = _
      omega
    · rw [if_neg z, if_neg z]
      show (r.getD x 0 + 0).toNat = _
      omega
  · rw [List.getD_eq_getElem?_getD, List.getElem?_eq_none (by rw [bump_len]; omega), List.getD_eq_getElem?_getD, List.getElem?_eq_none (by omega), if_neg (by omega)]
    rfl
section
variable {n m f a : Nat} {rows : List (List Int)} {out : Int}
theorem st_bump (hl : rows.length = n) (hr : ∀ r ∈ rows, r.length = m ∧ NN r) (hf : f < n) (ha : a < m) : stSt n (rows.set f (bump m a (rows.getD f []))) out = stSt n rows out + one f a := by
  funext g x
  rw [add_at]
  unfold stSt
  have ef : rows.getD f [] = rows[f]'(by omega) := by rw [List.getD_eq_getElem?_getD, List.getElem?_eq_getElem (by omega)]; rfl
  have hm := hr (rows[f]'(by omega)) (List.getElem_mem _)
  by_cases hg : g < n
  · rw [if_pos hg, if_pos hg]
    by_cases hgf : g = f
    · subst hgf
      have e1 : (rows.set g (bump m a (rows.getD g []))).getD g [] = bump m a (rows.getD g []) := by
        rw [List.getD_eq_getElem?_getD, List.getElem?_set_self (by omega)]
        rfl
      rw [e1, ef, bump_cnt hm.1 hm.2 ha]
      congr 1
      by_cases z : x = a
      · rw [if_pos z, z, one_self]
      · rw [if_neg z, one_ne (fun q => z q.2)]
    · have e1 : (rows.set f (bump m a (rows.getD f []))).getD g [] = rows.getD g [] := by
        rw [List.getD_eq_getElem?_getD, List.getElem?_set_ne (fun z => hgf z.symm), ← List.getD_eq_getElem?_getD]
      rw [e1, one_ne (fun q => hgf q.1), Nat.add_zero]
  · rw [if_neg hg, if_neg hg, one_ne (by omega), Nat.add_zero]
def outs (n : Nat) (out : Int) : St := fun g x => if g = n ∧ x = 0 then out.toNat else 0
theorem st_outs : stSt n rows out = outs n out + stSt n rows 0 := by
  funext g x
  rw [add_at]
  unfold stSt outs
  by_cases hg : g < n
  · rw [if_pos hg, if_pos hg, if_neg (by omega), Nat.zero_add]
  · rw [if_neg hg, if_neg hg]
    by_cases z : g = n ∧ x = 0
    · rw [if_pos z, if_pos z]; show _ = _ + 0; rfl
    · rw [if_neg z, if_neg z]
theorem hs_outs {hs : List (List Nat)} (ho : 0 ≤ out) : hsSt n hs out.toNat = outs n out + hsSt n hs 0 := by
  funext g x
  rw [add_at]
  unfold hsSt outs
  by_cases hg : g < n
  · rw [if_pos hg, if_pos hg, if_neg (by omega), Nat.zero_add]
  · rw [if_neg hg, if_neg hg]
    by_cases z : g = n ∧ x = 0
    · rw [if_pos z, if_pos z, if_pos z]; omega
    · rw [if_neg z, if_neg z, if_neg z]
theorem join_st {hs : List (List Nat)} (hl : rows.length = n) (hr : ∀ r ∈ rows, r.length = m ∧ NN r ∧ r.sum ≤ 1) (hf : f < n)
    (h : ∀ g, g < n → hs.getD g [] = [rowW (rows.getD g []), if g = f then some a else none].filterMap id) (hn : hs.getD n [] = []) : hsSt n hs 0 = stSt n rows 0 + one f a := by
  funext g x
  rw [add_at]
  unfold hsSt stSt
  by_cases hg : g < n
  · rw [if_pos hg, if_pos hg, h g hg]
    have eg : rows.getD g [] = rows[g]'(by omega) := by rw [List.getD_eq_getElem?_getD, List.getElem?_eq_getElem (by omega)]; rfl
    have hm := hr (rows[g]'(by omega)) (List.getElem_mem _)
    rw [eg, row_one hm.2.1 hm.2.2 x]
    generalize rowW (rows[g]'(by omega)) = o
    by_cases z : g = f
    · subst z
      rw [if_pos rfl]
      have e1 : one g a g x = List.count x [a] := by
        by_cases q : x = a
        · rw [q, one_self, List.count_singleton_self]
        · rw [one_ne (fun w => q w.2), List.count_cons_of_ne (fun w => q w.symm)]; rfl
      rw [e1]
      cases o with
      | none => show List.count x [a] = 0 + _; omega
      | some i =>
        show List.count x ([i] ++ [a]) = List.count x [i] + _
        rw [List.count_append]
    · rw [if_neg z, one_ne (fun w => z w.1), Nat.add_zero]
      cases o with
      | none => rfl
      | some i => rfl
  · rw [if_neg hg, if_neg hg, one_ne (by omega), Nat.add_zero, hn]
    rfl
theorem occ {r : List Int} (hl : r.length = m) (h : NN r) (hs : r.sum ≤ 1) : (sumTo m (cnt r) = 1 ↔ rowW r ≠ none) := by
  have e := sum_cnt_eq hl h
  by_cases z : (1 : Int) ∈ r
  · have := mem_le_sum h z
    refine ⟨fun _ => ?_, fun _ => by omega⟩
    unfold rowW
    rw [if_pos z]
    intro q
    cases q
  · have e2 : rowW r = none := by unfold rowW; rw [if_neg z]
    have e3 : sumTo m (cnt r) = sumTo m fun _ => 0 := sumTo_congr' fun i _ => by rw [row_one h hs, e2]; rfl
    rw [e3, sumTo_zero, e2]
    exact ⟨fun q => (by cases q), fun q => absurd rfl q⟩
end
end FmC
end FFmLate3
section FFmEnc
/-! Heaps told as numbers, four bits a count; floors at rest below others. Pure, nothing of the model. -/
set_option linter.all false
namespace FmC
/-- counts, four bits each -/
def enc : Nat → (Nat → Nat) → Nat
  | 0, _ => 0
  | m + 1, c => enc m c + c m * 16 ^ m
theorem enc_lt : ∀ {m : Nat} {c : Nat → Nat}, (∀ a, a < m → c a < 16) → enc m c < 16 ^ m
  | 0, _, _ => by show 0 < 1; omega
  | m + 1, c, h => by
    have ih := enc_lt (m := m) (c := c) fun a ha => h a (by omega)
    have hm := h m (by omega)
    have e : 16 ^ (m + 1) = 16 ^ m * 16 := Nat.pow_succ 16 m
    have k : c m * 16 ^ m ≤ 15 * 16 ^ m := Nat.mul_le_mul_right _ (by omega)
    show enc m c + c m * 16 ^ m < 16 ^ (m + 1)
    rw [e]
    omega
theorem enc_dig : ∀ {m : Nat} {c : Nat → Nat}, (∀ a, a < m → c a < 16) → ∀ {a : Nat}, a < m → enc m c / 16 ^ a % 16 = c a
  | 0, _, _, a, ha => by omega
  | m + 1, c, h, a, ha => by
    have hl := enc_lt (m := m) (c := c) fun a ha => h a (by omega)
    show (enc m c + c m * 16 ^ m) / 16 ^ a % 16 = c a
    by_cases z : a = m
    · subst z
      rw [Nat.add_mul_div_right _ _ (Nat.pow_pos (by omega)), Nat.div_eq_of_lt hl, Nat.zero_add]
      exact Nat.mod_eq_of_lt (h a ha)
    · have ham : a < m := by omega
      have ih := enc_dig (m := m) (c := c) (fun a ha => h a (by omega)) ham
      obtain ⟨k, rfl⟩ : ∃ k, m = a + 1 + k := ⟨m - a - 1, by omega⟩
      have e : c (a + 1 + k) * 16 ^ (a + 1 + k) = (c (a + 1 + k) * 16 ^ k * 16) * 16 ^ a := by
        rw [Nat.pow_add, Nat.pow_succ]
        simp only [Nat.mul_assoc, Nat.mul_comm, Nat.mul_left_comm]
      rw [e, Nat.add_mul_div_right _ _ (Nat.pow_pos (by omega)), Nat.add_mul_mod_self_right, ih]
theorem enc_add (m : Nat) (c d : Nat → Nat) : enc m (fun a => c a + d a) = enc m c + enc m d := by
  induction m with
  | zero => rfl
  | succ m ih =>
    show enc m _ + (c m + d m) * 16 ^ m = enc m c + c m * 16 ^ m + (enc m d + d m * 16 ^ m)
    rw [ih, Nat.add_mul]
    omega
theorem enc_one : ∀ {m a : Nat}, a < m → enc m (fun x => if x = a then 1 else 0) = 16 ^ a
  | 0, _, h => by omega
  | m + 1, a, h => by
    show enc m _ + (if m = a then 1 else 0) * 16 ^ m = 16 ^ a
    by_cases z : m = a
    · subst z
      have e0 : ∀ k, k ≤ m → enc k (fun x => if x = m then 1 else 0) = 0 := fun k hk => by
        induction k with
        | zero => rfl
        | succ k ih =>
          show enc k _ + (if k = m then 1 else 0) * 16 ^ k = 0
          rw [ih (by omega), if_neg (by omega)]
          omega
      rw [e0 m (Nat.le_refl _), if_pos rfl]
      omega
    · rw [enc_one (m := m) (a := a) (by omega), if_neg z]
      omega
theorem enc_inj {m : Nat} {c d : Nat → Nat} (hc : ∀ a, a < m → c a < 16) (hd : ∀ a, a < m → d a < 16) (e : enc m c = enc m d) : ∀ a, a < m → c a = d a := fun a ha => by
  rw [← enc_dig hc ha, ← enc_dig hd ha, e]
section
variable {n m : Nat} {S U : Nat → Nat → Nat → Nat}
/-- floors at rest, and all below them, stay as they are -/
theorem low_step {f : Nat} {c d : St} (h : Step n m S U c d) (hc : ∀ g, g < f → sumTo m (c g) ≤ 1) : ∀ g, g < f → d g = c g := by
  obtain ⟨e, l, a, b, hl, ha, hb, rfl, rfl⟩ := h
  have hf : f ≤ l := by
    by_cases z : f ≤ l
    · exact z
    · have h1 := hc l (by omega)
      have e1 : (e + one l a + one l b) l = fun x => (e l x + one l a l x) + one l b l x := rfl
      rw [e1, sumTo_add, sumTo_add, sum_one ha, sum_one hb] at h1
      omega
  intro g hg
  funext x
  show e g x + one l (S l a b) g x + one (l + 1) (U l a b) g x = e g x + one l a g x + one l b g x
  rw [one_ne (by omega), one_ne (by omega), one_ne (by omega), one_ne (by omega)]
theorem low_keep {f : Nat} {c d : St} (h : Run n m S U c d) : (∀ g, g < f → sumTo m (c g) ≤ 1) → ∀ g, g < f → d g = c g := by
  induction h with
  | nil => exact fun _ _ _ => rfl
  | cons s _ ih =>
    intro hc g hg
    have k := low_step s hc
    rw [ih (fun g hg => by rw [k g hg]; exact hc g hg) g hg, k g hg]
/-- in a fair house: what rests below is what rests there at the end -/
theorem low_end (B : Tables n m S U) (T : Three n m S U) {f : Nat} {c d e : St} (h : Run n m S U c d) (k : Run n m S U c e) (s : Still n m S U e) (hd : ∀ g, g < f → sumTo m (d g) ≤ 1) : ∀ g, g < f → e g = d g :=
  low_keep (end_of_run B T h k s) hd
end
end FmC
end FFmEnc
section FFmCode
set_option linter.all false
set_option maxRecDepth 100000
/-! How many heaps there are, dicts whose entries all say the same, digits. Pure, nothing of the model. -/
namespace FmC
/-- all numbers that tell k counts of s people at most -/
def allK : Nat → Nat → List Nat
  | 0, _ => [0]
  | k + 1, s => (List.range (s + 1)).flatMap fun x => (allK k (s - x)).map fun y => y + x * 16 ^ k
theorem sumTo_mono {k : Nat} {c : Nat → Nat} {a : Nat} : a < k → c a ≤ sumTo k c := by
  induction k with
  | zero => exact fun h => absurd h (Nat.not_lt_zero _)
  | succ k ih =>
    intro h
    show c a ≤ sumTo k c + c k
    by_cases z : a = k
    · subst z; omega
    · have := ih (by omega); omega
theorem mem_allK : ∀ {k s : Nat} {c : Nat → Nat}, sumTo k c ≤ s → enc k c ∈ allK k s
  | 0, _, _, _ => List.mem_singleton.mpr rfl
  | k + 1, s, c, h => by
    have h' : sumTo k c + c k ≤ s := h
    exact List.mem_flatMap.mpr ⟨c k, List.mem_range.mpr (by omega), List.mem_map.mpr ⟨enc k c, mem_allK (by omega), rfl⟩⟩
/-- how many -/
def lenK : Nat → Nat → Nat
  | 0, _ => 1
  | k + 1, s => ((List.range (s + 1)).map fun x => lenK k (s - x)).sum
theorem len_allK : ∀ k s, (allK k s).length = lenK k s
  | 0, _ => rfl
  | k + 1, s => by
    show List.length (List.flatMap _ _) = _
    rw [List.length_flatMap]
    show ((List.range (s + 1)).map fun x => ((allK k (s - x)).map fun y => y + x * 16 ^ k).length).sum = ((List.range (s + 1)).map fun x => lenK k (s - x)).sum
    congr 1
    refine List.map_congr_left fun x _ => ?_
    rw [List.length_map, len_allK]
theorem len_step {k : Nat} {t t' : List Nat} (h : ∀ s, s < 10 → lenK k s = t.getD s 0) (e : ∀ s, s < 10 → ((List.range (s + 1)).map fun x => t.getD (s - x) 0).sum = t'.getD s 0) : ∀ s, s < 10 → lenK (k + 1) s = t'.getD s 0 := fun s hs => by
  rw [← e s hs]
  show ((List.range (s + 1)).map fun x => lenK k (s - x)).sum = _
  congr 1
  exact List.map_congr_left fun x _ => h (s - x) (by omega)
theorem few_allK : ∀ m, m ≤ 6 → (allK (m + m) 9).length ≤ 300000 := by
  have h0 : ∀ s, s < 10 → lenK 0 s = ([1, 1, 1, 1, 1, 1, 1, 1, 1, 1] : List Nat).getD s 0 := by decide
  have h1 := len_step (t' := [1, 2, 3, 4, 5, 6, 7, 8, 9, 10]) h0 (by decide)
  have h2 := len_step (t' := [1, 3, 6, 10, 15, 21, 28, 36, 45, 55]) h1 (by decide)
  have h3 := len_step (t' := [1, 4, 10, 20, 35, 56, 84, 120, 165, 220]) h2 (by decide)
  have h4 := len_step (t' := [1, 5, 15, 35, 70, 126, 210, 330, 495, 715]) h3 (by decide)
  have h5 := len_step (t' := [1, 6, 21, 56, 126, 252, 462, 792, 1287, 2002]) h4 (by decide)
  have h6 := len_step (t' := [1, 7, 28, 84, 210, 462, 924, 1716, 3003, 5005]) h5 (by decide)
  have h7 := len_step (t' := [1, 8, 36, 120, 330, 792, 1716, 3432, 6435, 11440]) h6 (by decide)
  have h8 := len_step (t' := [1, 9, 45, 165, 495, 1287, 3003, 6435, 12870, 24310]) h7 (by decide)
  have h9 := len_step (t' := [1, 10, 55, 220, 715, 2002, 5005, 11440, 24310, 48620]) h8 (by decide)
  have h10 := len_step (t' := [1, 11, 66, 286, 1001, 3003, 8008, 19448, 43758, 92378]) h9 (by decide)
  have h11 := len_step (t' := [1, 12, 78, 364, 1365, 4368, 12376, 31824, 75582, 167960]) h10 (by decide)
  have h12 := len_step (t' := [1, 13, 91, 455, 1820, 6188, 18564, 50388, 125970, 293930]) h11 (by decide)
  intro m hm
  rw [len_allK]
  match m, hm with
  | 0, _ => exact (show lenK 0 9 ≤ 300000 by rw [h0 9 (by omega)]; decide)
  | 1, _ => exact (show lenK 2 9 ≤ 300000 by rw [h2 9 (by omega)]; decide)
  | 2, _ => exact (show lenK 4 9 ≤ 300000 by rw [h4 9 (by omega)]; decide)
  | 3, _ => exact (show lenK 6 9 ≤ 300000 by rw [h6 9 (by omega)]; decide)
  | 4, _ => exact (show lenK 8 9 ≤ 300000 by rw [h8 9 (by omega)]; decide)
  | 5, _ => exact (show lenK 10 9 ≤ 300000 by rw [h10 9 (by omega)]; decide)
  | 6, _ => exact (show lenK 12 9 ≤ 300000 by rw [h12 9 (by omega)]; decide)
  | k + 7, h => exact absurd h (by omega)
theorem sumTo_split (m : Nat) (c : Nat → Nat) : ∀ j, sumTo (m + j) c = sumTo m c + sumTo j fun a => c (m + a)
  | 0 => rfl
  | j + 1 => by
    show sumTo (m + j) c + c (m + j) = sumTo m c + (sumTo j _ + c (m + j))
    rw [sumTo_split m c j]
    omega
theorem enc_split (m : Nat) (c : Nat → Nat) : ∀ j, enc (m + j) c = enc m c + 16 ^ m * enc j fun a => c (m + a)
  | 0 => rfl
  | j + 1 => by
    show enc (m + j) c + c (m + j) * 16 ^ (m + j) = enc m c + 16 ^ m * (enc j _ + c (m + j) * 16 ^ j)
    rw [enc_split m c j, Nat.pow_add, Nat.mul_add, Nat.add_assoc]
    congr 2
    simp only [Nat.mul_comm, Nat.mul_left_comm]
theorem enc_congr : ∀ {m : Nat} {c d : Nat → Nat}, (∀ a, a < m → c a = d a) → enc m c = enc m d
  | 0, _, _, _ => rfl
  | m + 1, c, d, h => by
    show enc m c + c m * 16 ^ m = enc m d + d m * 16 ^ m
    rw [enc_congr (m := m) fun a ha => h a (by omega), h m (by omega)]
/-- two heaps in one number -/
def two (m : Nat) (c u : Nat → Nat) : Nat := enc m c + 16 ^ m * enc m u
theorem two_mem {m s : Nat} {c u : Nat → Nat} (h : sumTo m c + sumTo m u ≤ s) : two m c u ∈ allK (m + m) s := by
  have e : two m c u = enc (m + m) fun a => if a < m then c a else u (a - m) := by
    rw [enc_split]
    unfold two
    congr 1
    · exact enc_congr fun a ha => by rw [if_pos ha]
    · congr 1
      exact enc_congr fun a ha => by rw [if_neg (by omega)]; congr 1; omega
  rw [e]
  refine mem_allK ?_
  rw [sumTo_split]
  have e1 : sumTo m (fun a => if a < m then c a else u (a - m)) = sumTo m c := sumTo_congr' fun i hi => if_pos hi
  have e2 : sumTo m (fun a => if m + a < m then c (m + a) else u (m + a - m)) = sumTo m u := sumTo_congr' fun i hi => by rw [if_neg (by omega)]; congr 1; omega
  omega
theorem two_low {m : Nat} {c u : Nat → Nat} (hc : ∀ a, a < m → c a < 16) : two m c u % 16 ^ m = enc m c := by
  unfold two
  rw [Nat.add_mul_mod_self_left, Nat.mod_eq_of_lt (enc_lt hc)]
theorem two_high {m : Nat} {c u : Nat → Nat} (hc : ∀ a, a < m → c a < 16) : two m c u / 16 ^ m = enc m u := by
  unfold two
  rw [Nat.add_mul_div_left _ _ (Nat.pow_pos (by omega)), Nat.div_eq_of_lt (enc_lt hc), Nat.zero_add]
theorem two_lt {m : Nat} {c u : Nat → Nat} (hm : m ≤ 6) (hc : ∀ a, a < m → c a < 16) (hu : ∀ a, a < m → u a < 16) : two m c u < 16 ^ 12 := by
  have h1 := enc_lt hc
  have h2 := enc_lt hu
  unfold two
  have h3 : 16 ^ m * enc m u ≤ 16 ^ m * (16 ^ m - 1) := Nat.mul_le_mul_left _ (by omega)
  have h4 : 16 ^ m * 16 ^ m ≤ 16 ^ 6 * 16 ^ 6 := Nat.mul_le_mul (Nat.pow_le_pow_right (by omega) hm) (Nat.pow_le_pow_right (by omega) hm)
  have h5 : 16 ^ m * (16 ^ m - 1) = 16 ^ m * 16 ^ m - 16 ^ m := by rw [Nat.mul_sub, Nat.mul_one]
  have h6 : 16 ^ m ≤ 16 ^ m * 16 ^ m := Nat.le_mul_of_pos_left _ (Nat.pow_pos (by omega))
  have h7 : (16 : Nat) ^ 6 * 16 ^ 6 = 16 ^ 12 := by decide
  omega
/-- unlike numbers out of a list: no more than the list has -/
theorem nodup_le : ∀ {l L : List Nat}, l.Nodup → (∀ x ∈ l, x ∈ L) → l.length ≤ L.length
  | [], _, _, _ => Nat.zero_le _
  | x :: l, L, h, k => by
    obtain ⟨h1, h2⟩ := List.nodup_cons.mp h
    have hx := k x List.mem_cons_self
    have ih := nodup_le (L := L.erase x) h2 fun y hy => (List.mem_erase_of_ne (fun e => h1 (by rw [← e]; exact hy))).mpr (k y (List.mem_cons_of_mem _ hy))
    have e := List.length_erase_of_mem hx
    have : 0 < L.length := List.length_pos_of_mem hx
    rw [List.length_cons]
    omega
/-- a number put in, if it isn't there -/
def ins (ks : List Nat) (k : Nat) : List Nat := if k ∈ ks then ks else ks ++ [k]
theorem ins_nodup {ks : List Nat} {k : Nat} (h : ks.Nodup) : (ins ks k).Nodup := by
  unfold ins
  by_cases e : k ∈ ks
  · rw [if_pos e]; exact h
  · rw [if_neg e]
    exact List.nodup_append.mpr ⟨h, List.nodup_cons.mpr ⟨by simp, List.nodup_nil⟩, fun a ha b hb q => by
      have := List.mem_singleton.mp hb
      subst this
      subst q
      exact e ha⟩
theorem ins_mem {ks : List Nat} {k x : Nat} : x ∈ ins ks k ↔ x ∈ ks ∨ x = k := by
  unfold ins
  by_cases e : k ∈ ks
  · rw [if_pos e]
    constructor
    · exact .inl
    · rintro (h | rfl)
      · exact h
      · exact e
  · rw [if_neg e, List.mem_append, List.mem_singleton]
theorem ins_ne {ks : List Nat} {k : Nat} : ins ks k ≠ [] := fun e => by
  have : k ∈ ins ks k := ins_mem.mpr (.inr rfl)
  rw [e] at this
  cases this
/-- numbers in another base -/
def codeB (b : Nat) : List Nat → Nat
  | [] => 0
  | x :: l => x + b * codeB b l
theorem codeB_snoc (b : Nat) : ∀ (l : List Nat) (x : Nat), codeB b (l ++ [x]) = codeB b l + b ^ l.length * x
  | [], x => by simp [codeB]
  | y :: l, x => by
    show y + b * codeB b (l ++ [x]) = y + b * codeB b l + b ^ (l.length + 1) * x
    rw [codeB_snoc b l x, Nat.mul_add, Nat.pow_succ, Nat.add_assoc]
    congr 2
    simp only [Nat.mul_comm, Nat.mul_left_comm, Nat.mul_assoc]
theorem codeB_lt {b : Nat} : ∀ {l : List Nat}, (∀ x ∈ l, x < b) → codeB b l < b ^ l.length
  | [], _ => by simp [codeB]
  | x :: l, h => by
    have ih := codeB_lt (l := l) fun y hy => h y (List.mem_cons_of_mem _ hy)
    have hx := h x List.mem_cons_self
    show x + b * codeB b l < b ^ (l.length + 1)
    have e : b * codeB b l ≤ b * (b ^ l.length - 1) := Nat.mul_le_mul_left _ (by omega)
    have e2 : b * (b ^ l.length - 1) = b * b ^ l.length - b := by rw [Nat.mul_sub, Nat.mul_one]
    have e3 : b ^ (l.length + 1) = b * b ^ l.length := by rw [Nat.pow_succ, Nat.mul_comm]
    have e4 : b ≤ b * b ^ l.length := Nat.le_mul_of_pos_right _ (Nat.pow_pos (by omega))
    omega
theorem shift_bit {l k : Nat} : (2 ^ l / 2 ^ k % 2 ≠ 0) ↔ k = l := by
  by_cases h : k ≤ l
  · have e : 2 ^ l / 2 ^ k = 2 ^ (l - k) := Nat.pow_div h (by omega)
    rw [e]
    cases q : l - k with
    | zero => constructor <;> intro _ <;> first | omega | decide
    | succ j =>
      constructor
      · intro z
        exact absurd (by rw [Nat.pow_succ, Nat.mul_mod_left]) z
      · intro z; omega
  · have e : 2 ^ l / 2 ^ k = 0 := Nat.div_eq_of_lt (Nat.pow_lt_pow_right (by omega) (by omega))
    rw [e]
    constructor
    · intro z; exact absurd rfl z
    · intro z; omega
end FmC
end FFmCode
section FFmRise
set_option linter.all false
/-! Who rises, floor by floor, and what is known of the end. Pure, nothing of the model. -/
namespace FmC
section
variable {n m : Nat} {S U : Nat → Nat → Nat → Nat}
theorem enc_zero : ∀ m, enc m (fun _ => 0) = 0
  | 0 => rfl
  | m + 1 => by
    show enc m _ + 0 * 16 ^ m = 0
    rw [enc_zero m]
    omega
/-- before a floor: who came up to it -/
structure RisW (n m : Nat) (S U : Nat → Nat → Nat → Nat) (c0 : St) (f r : Nat) (d : St) (v : Nat → Nat) : Prop where
  run : Run n m S (outU n U) c0 d
  low : ∀ g, g < f → sumTo m (d g) ≤ 1
  up : ∀ g, f < g → ∀ a, d g a = c0 g a
  here : ∀ a, d f a = c0 f a + v a
  sum : sumTo m v = r
/-- on a floor: so many have gone up -/
structure LayW (n m : Nat) (S U : Nat → Nat → Nat → Nat) (c0 : St) (f i many : Nat) (d : St) (u : Nat → Nat) : Prop where
  run : Run n m S (outU n U) c0 d
  low : ∀ g, g < f → sumTo m (d g) ≤ 1
  up : ∀ g, f + 1 < g → ∀ a, d g a = c0 g a
  next : ∀ a, d (f + 1) a = c0 (f + 1) a + u a
  sum : sumTo m (d f) + i = many
  usum : sumTo m u = i
theorem rise_start (c0 : St) : RisW n m S U c0 0 0 c0 fun _ => 0 :=
  ⟨.nil _, fun g h => absurd h (Nat.not_lt_zero g), fun _ _ _ => rfl, fun _ => rfl, sumTo_zero m⟩
theorem RisW.lay {c0 d : St} {f r : Nat} {v : Nat → Nat} (h : RisW n m S U c0 f r d v) : LayW n m S U c0 f 0 (sumTo m (c0 f) + r) d (fun _ => 0) ∧ two m (d f) (fun _ => 0) = enc m (c0 f) + enc m v := by
  have e : d f = fun a => c0 f a + v a := funext h.here
  refine ⟨⟨h.run, h.low, fun g hg a => h.up g (by omega) a, fun a => h.up (f + 1) (by omega) a, ?_, sumTo_zero m⟩, ?_⟩
  · rw [e, sumTo_add, h.sum]
    rfl
  · unfold two
    rw [enc_zero, e, enc_add]
    omega
theorem LayW.step (B : Tabs n m S U) {c0 d : St} {f i many a b : Nat} {u : Nat → Nat} (h : LayW n m S U c0 f i many d u) (hf : f < n) (ha : a < m) (hb : b < m) (hc : ∀ x, (if x = a then 1 else 0) + (if x = b then 1 else 0) ≤ d f x) :
    ∃ (d' : St) (u' : Nat → Nat), LayW n m S U c0 f (i + 1) many d' u' ∧ two m (d' f) u' + 16 ^ a + 16 ^ b = two m (d f) u + 16 ^ S f a b + 16 ^ m * 16 ^ outU n U f a b := by
  have hs := B.tables.sm f a b hf ha hb
  have hw := B.tables.um f a b hf ha hb
  have one_f : ∀ c x, one f c f x = if x = c then 1 else 0 := fun c x => by
    by_cases z : x = c
    · rw [if_pos z, z, one_self]
    · rw [if_neg z, one_ne (fun q => z q.2)]
  have one_n : ∀ c x, one (f + 1) c (f + 1) x = if x = c then 1 else 0 := fun c x => by
    by_cases z : x = c
    · rw [if_pos z, z, one_self]
    · rw [if_neg z, one_ne (fun q => z q.2)]
  have off : ∀ {g c g' : Nat} (x : Nat), g' ≠ g → one g c g' x = 0 := fun {g c g'} x q => one_ne fun z => q z.1
  let e : St := fun g x => d g x - one f a g x - one f b g x
  have hd : d = e + one f a + one f b := by
    funext g x
    show d g x = d g x - one f a g x - one f b g x + one f a g x + one f b g x
    by_cases y : g = f
    · subst y
      have h1 := hc x
      rw [one_f, one_f]
      omega
    · rw [off x y, off x y]
      omega
  have st : Step n m S (outU n U) d (e + one f (S f a b) + one (f + 1) (outU n U f a b)) := ⟨e, f, a, b, hf, ha, hb, hd, rfl⟩
  have row : ∀ x, (e + one f (S f a b) + one (f + 1) (outU n U f a b)) f x + (if x = a then 1 else 0) + (if x = b then 1 else 0) = d f x + if x = S f a b then 1 else 0 := fun x => by
    have h1 := hc x
    show d f x - one f a f x - one f b f x + one f (S f a b) f x + one (f + 1) (outU n U f a b) f x + _ + _ = _
    rw [one_f, one_f, one_f, off x (show f ≠ f + 1 by omega)]
    omega
  have erow : enc m ((e + one f (S f a b) + one (f + 1) (outU n U f a b)) f) + 16 ^ a + 16 ^ b = enc m (d f) + 16 ^ S f a b := by
    have := enc_congr (m := m) (c := fun x => (e + one f (S f a b) + one (f + 1) (outU n U f a b)) f x + (if x = a then 1 else 0) + (if x = b then 1 else 0)) (d := fun x => d f x + if x = S f a b then 1 else 0) fun x _ => row x
    rw [enc_add m (fun x => (e + one f (S f a b) + one (f + 1) (outU n U f a b)) f x + (if x = a then 1 else 0)), enc_add, enc_add, enc_one ha, enc_one hb, enc_one hs] at this
    exact this
  have srow : sumTo m ((e + one f (S f a b) + one (f + 1) (outU n U f a b)) f) + 1 + 1 = sumTo m (d f) + 1 := by
    have := sumTo_congr' (k := m) (g := fun x => (e + one f (S f a b) + one (f + 1) (outU n U f a b)) f x + (if x = a then 1 else 0) + (if x = b then 1 else 0)) (h := fun x => d f x + if x = S f a b then 1 else 0) fun x _ => row x
    rw [sumTo_add m (fun x => (e + one f (S f a b) + one (f + 1) (outU n U f a b)) f x + (if x = a then 1 else 0)), sumTo_add, sumTo_add, sumTo_at ha, sumTo_at hb, sumTo_at hs] at this
    exact this
  refine ⟨e + one f (S f a b) + one (f + 1) (outU n U f a b), fun x => u x + if x = outU n U f a b then 1 else 0, ⟨h.run.trans (.cons st (.nil _)), fun g hg => ?_, fun g hg x => ?_, fun x => ?_, ?_, ?_⟩, ?_⟩
  · have q : (e + one f (S f a b) + one (f + 1) (outU n U f a b)) g = d g := by
      funext x
      show d g x - one f a g x - one f b g x + one f (S f a b) g x + one (f + 1) (outU n U f a b) g x = d g x
      rw [off x (show g ≠ f by omega), off x (show g ≠ f by omega), off x (show g ≠ f by omega), off x (show g ≠ f + 1 by omega)]
      omega
    rw [q]
    exact h.low g hg
  · show d g x - one f a g x - one f b g x + one f (S f a b) g x + one (f + 1) (outU n U f a b) g x = _
    rw [off x (show g ≠ f by omega), off x (show g ≠ f by omega), off x (show g ≠ f by omega), off x (show g ≠ f + 1 by omega)]
    exact h.up g hg x
  · show d (f + 1) x - one f a (f + 1) x - one f b (f + 1) x + one f (S f a b) (f + 1) x + one (f + 1) (outU n U f a b) (f + 1) x = _
    rw [off x (show f + 1 ≠ f by omega), off x (show f + 1 ≠ f by omega), off x (show f + 1 ≠ f by omega), one_n, h.next x]
    omega
  · have := h.sum
    omega
  · rw [sumTo_add, sumTo_at hw, h.usum]
  · show enc m _ + 16 ^ m * enc m _ + 16 ^ a + 16 ^ b = enc m (d f) + 16 ^ m * enc m u + 16 ^ S f a b + 16 ^ m * 16 ^ outU n U f a b
    rw [enc_add, enc_one hw, Nat.mul_add]
    omega
theorem LayW.rise {c0 d : St} {f i many : Nat} {u : Nat → Nat} (h : LayW n m S U c0 f i many d u) (h1 : sumTo m (d f) ≤ 1) : RisW n m S U c0 (f + 1) i d u :=
  ⟨h.run, fun g hg => by
    by_cases z : g = f
    · rw [z]; exact h1
    · exact h.low g (by omega), h.up, h.next, h.usum⟩
/-- an end there is -/
theorem end_there (B : Tables n m S U) : ∀ (k : Nat) (c : St), tall n m c ≤ k → ∃ e, Run n m S U c e ∧ Still n m S U e
  | 0, c, h => ⟨c, .nil _, fun d s => by have := step_tall B s; omega⟩
  | k + 1, c, h => by
    by_cases s : Still n m S U c
    · exact ⟨c, .nil _, s⟩
    · have : ∃ d, Step n m S U c d := Classical.byContradiction fun q => s fun d hd => q ⟨d, hd⟩
      obtain ⟨d, hd⟩ := this
      obtain ⟨e, h1, h2⟩ := end_there B k d (by have := step_tall B hd; omega)
      exact ⟨e, .cons hd h1, h2⟩
/-- nobody of a number that isn't, nobody above the last floor but at 0 -/
theorem run_off (B : Tabs n m S U) {c d : St} (h : Run n m S (outU n U) c d) : (∀ g, g ≤ n → ∀ a, m ≤ a → d g a = c g a) ∧ (∀ a, a ≠ 0 → d n a = c n a) ∧ ∀ g, n < g → ∀ a, d g a = c g a := by
  induction h with
  | nil => exact ⟨fun _ _ _ _ => rfl, fun _ _ => rfl, fun _ _ _ => rfl⟩
  | cons s _ ih =>
    obtain ⟨e, f, a, b, hf, ha, hb, rfl, rfl⟩ := s
    have hs := B.sm f a b hf ha hb
    have hw := B.tables.um f a b hf ha hb
    obtain ⟨i1, i2, i3⟩ := ih
    refine ⟨fun g hg x hx => ?_, fun x hx => ?_, fun g hg x => ?_⟩
    · rw [i1 g hg x hx]
      show e g x + one f (S f a b) g x + one (f + 1) (outU n U f a b) g x = e g x + one f a g x + one f b g x
      rw [one_ne (fun q => by omega), one_ne (fun q => by omega), one_ne (fun q => by omega), one_ne (fun q => by omega)]
    · rw [i2 x hx]
      show e n x + one f (S f a b) n x + one (f + 1) (outU n U f a b) n x = e n x + one f a n x + one f b n x
      have : one (f + 1) (outU n U f a b) n x = 0 := one_ne fun q => by
        have e1 : ¬ f + 1 < n := by omega
        have : outU n U f a b = 0 := if_neg e1
        omega
      rw [one_ne (fun q => by omega), this, one_ne (fun q => by omega), one_ne (fun q => by omega)]
    · rw [i3 g hg x]
      show e g x + one f (S f a b) g x + one (f + 1) (outU n U f a b) g x = e g x + one f a g x + one f b g x
      rw [one_ne (fun q => by omega), one_ne (fun q => by omega), one_ne (fun q => by omega), one_ne (fun q => by omega)]
end
/-- the least number that somebody has -/
def wn (m : Nat) (c : Nat → Nat) : Nat := ((List.range m).filter fun a => c a != 0).head?.getD 0
theorem wn_lt {m : Nat} {c : Nat → Nat} (hm : 1 ≤ m) : wn m c < m := by
  unfold wn
  cases e : (List.range m).filter fun a => c a != 0 with
  | nil => exact hm
  | cons x l =>
    have : x ∈ (List.range m).filter fun a => c a != 0 := by rw [e]; exact List.mem_cons_self
    exact List.mem_range.mp (List.mem_filter.mp this).1
/-- of two people two may meet -/
theorem two_of : ∀ {m : Nat} {c : Nat → Nat}, 2 ≤ sumTo m c → ∃ a b, a ≤ b ∧ b < m ∧ if a = b then 2 ≤ c a else 1 ≤ c a ∧ 1 ≤ c b
  | 0, _, h => by
    have : (2 : Nat) ≤ 0 := h
    omega
  | m + 1, c, h => by
    have h' : 2 ≤ sumTo m c + c m := h
    by_cases z : 2 ≤ sumTo m c
    · obtain ⟨a, b, h1, h2, h3⟩ := two_of z
      exact ⟨a, b, h1, by omega, h3⟩
    · by_cases y : 2 ≤ c m
      · exact ⟨m, m, Nat.le_refl _, by omega, by rw [if_pos rfl]; exact y⟩
      · have : ∃ a, a < m ∧ 1 ≤ c a := by
          have h1 : 1 ≤ sumTo m c := by omega
          clear h h' z y
          induction m with
          | zero =>
            have : (1 : Nat) ≤ 0 := h1
            omega
          | succ m ih =>
            have : 1 ≤ sumTo m c + c m := h1
            by_cases q : 1 ≤ c m
            · exact ⟨m, by omega, q⟩
            · obtain ⟨a, q1, q2⟩ := ih (by omega)
              exact ⟨a, by omega, q2⟩
        obtain ⟨a, q1, q2⟩ := this
        exact ⟨a, m, by omega, by omega, by rw [if_neg (by omega)]; exact ⟨q2, by omega⟩⟩
/-- of one person at most: who it is -/
theorem wn_one : ∀ {m : Nat} {c : Nat → Nat}, sumTo m c ≤ 1 → ∀ a, a < m → c a = if sumTo m c = 1 ∧ a = wn m c then 1 else 0 := by
  intro m c h a ha
  have key : ∀ {k : Nat}, k ≤ m → sumTo k c ≤ 1 ∧ (sumTo k c = 0 → ∀ b, b < k → c b = 0) ∧ (sumTo k c = 1 → ∃ b, b < k ∧ c b = 1 ∧ ∀ x, x < k → x ≠ b → c x = 0) := by
    intro k
    induction k with
    | zero => exact fun _ => ⟨Nat.zero_le _, fun _ b hb => absurd hb (Nat.not_lt_zero b), fun z => by have : (0 : Nat) = 1 := z; omega⟩
    | succ k ih =>
      intro hk
      obtain ⟨i1, i2, i3⟩ := ih (by omega)
      have hs : sumTo (k + 1) c = sumTo k c + c k := rfl
      have hle : sumTo (k + 1) c ≤ sumTo m c := by
        have mono : ∀ j, k + 1 + j ≤ m → sumTo (k + 1) c ≤ sumTo (k + 1 + j) c := fun j => by
          induction j with
          | zero => exact fun _ => Nat.le_refl _
          | succ j ihj =>
            intro q
            exact Nat.le_trans (ihj (by omega)) (Nat.le_add_right _ _)
        have := mono (m - (k + 1)) (by omega)
        rwa [show k + 1 + (m - (k + 1)) = m by omega] at this
      refine ⟨by omega, fun z b hb => ?_, fun z => ?_⟩
      · by_cases y : b = k
        · rw [y]; omega
        · exact i2 (by omega) b (by omega)
      · by_cases y : c k = 1
        · exact ⟨k, by omega, y, fun x hx nx => i2 (by omega) x (by omega)⟩
        · obtain ⟨b, b1, b2, b3⟩ := i3 (by omega)
          exact ⟨b, by omega, b2, fun x hx nx => by
            by_cases w : x = k
            · rw [w]; omega
            · exact b3 x (by omega) nx⟩
  obtain ⟨_, k2, k3⟩ := key (Nat.le_refl m)
  by_cases z : sumTo m c = 1
  · obtain ⟨b, b1, b2, b3⟩ := k3 z
    have ew : wn m c = b := by
      unfold wn
      have hb : b ∈ (List.range m).filter fun a => c a != 0 := List.mem_filter.mpr ⟨List.mem_range.mpr b1, by rw [b2]; rfl⟩
      cases e : (List.range m).filter fun a => c a != 0 with
      | nil => rw [e] at hb; cases hb
      | cons x l =>
        have hx : x ∈ (List.range m).filter fun a => c a != 0 := by rw [e]; exact List.mem_cons_self
        obtain ⟨x1, x2⟩ := List.mem_filter.mp hx
        show x = b
        apply Classical.byContradiction
        intro q
        have := b3 x (List.mem_range.mp x1) q
        rw [this] at x2
        cases x2
    rw [ew]
    by_cases y : a = b
    · rw [if_pos ⟨z, y⟩, y, b2]
    · rw [if_neg (fun q => y q.2)]
      exact b3 a ha y
  · rw [if_neg (fun q => z q.1)]
    exact k2 (by omega) a ha
theorem one_le {m : Nat} {c : Nat → Nat} (h : sumTo m c ≤ 1) : ((List.range m).filter fun a => c a != 0).length ≤ 1 := by
  cases e : (List.range m).filter fun a => c a != 0 with
  | nil => exact Nat.zero_le _
  | cons x l =>
    cases l with
    | nil => exact Nat.le_refl _
    | cons y l =>
      have hx : x ∈ (List.range m).filter fun a => c a != 0 := by rw [e]; exact List.mem_cons_self
      have hy : y ∈ (List.range m).filter fun a => c a != 0 := by rw [e]; exact List.mem_cons_of_mem _ List.mem_cons_self
      have nd : ((List.range m).filter fun a => c a != 0).Nodup := List.Pairwise.filter _ List.nodup_range
      rw [e] at nd
      have nxy : x ≠ y := fun q => (List.nodup_cons.mp nd).1 (by rw [q]; exact List.mem_cons_self)
      obtain ⟨x1, x2⟩ := List.mem_filter.mp hx
      obtain ⟨y1, y2⟩ := List.mem_filter.mp hy
      have ex := wn_one h x (List.mem_range.mp x1)
      have ey := wn_one h y (List.mem_range.mp y1)
      have nx : c x ≠ 0 := by simpa using x2
      have ny : c y ≠ 0 := by simpa using y2
      by_cases a1 : sumTo m c = 1 ∧ x = wn m c
      · by_cases a2 : sumTo m c = 1 ∧ y = wn m c
        · exact absurd (a1.2.trans a2.2.symm) nxy
        · rw [if_neg a2] at ey
          exact absurd ey ny
      · rw [if_neg a1] at ex
        exact absurd ex nx
end FmC
end FFmRise
section FFRN
set_option Elab.async false
set_option linter.all false
set_option maxRecDepth 100000
set_option maxHeartbeats 4000000
local macro_rules | `(tactic| walk_at "ne") => `(tactic| first | assumption | (apply Ne.symm; assumption) | exact L2.ne_of_none (by assumption) (by assumption) | exact Ne.symm (L2.ne_of_none (by assumption) (by assumption)))
local macro_rules | `(tactic| walk_at "hl") => `(tactic| first | assumption | exact L2.upd_same | (refine Eq.trans (L2.upd_ne (by walk_at "ne")) ?_; walk_at "hl"))
local macro_rules | `(tactic| walk_at "sd") => `(tactic| first | (with_reducible show (_ : Int) < _; omega) | (with_reducible show (_ : Int) ≤ _; omega) | assumption | decide | exact ⟨by assumption, by assumption⟩ | exact ⟨by decide, by decide⟩ | exact Or.inr ⟨by decide, by decide⟩ | exact Or.inl ⟨by omega, by omega⟩ | rfl)
local macro_rules | `(tactic| walk_at "st1") => `(tactic| first
  | refine ⟨_, rfl, ?_⟩
  | refine ⟨_, _, rfl, rfl, ?_⟩
  | refine ⟨_, _, rfl, ?_⟩
  | (refine ⟨_, _, _, _, rfl, rfl, L2.SqL.of (by walk_at "hl"), rfl, ?_⟩)
  | (refine ⟨_, _, _, _, rfl, rfl, L2.SqT.of (by walk_at "hl"), rfl, ?_⟩)
  | (refine ⟨_, _, _, _, rfl, rfl, (by walk_at "hl"), rfl, ?_⟩)
  | (refine And.intro (by walk_at "sd") ?_)
  )
local macro_rules | `(tactic| walk_at "st") => `(tactic| repeat walk_at "st1")
local macro_rules | `(tactic| walk_at "op") => `(tactic| try dsimp only [L2.tSeq, L2.tAsg, L2.tOp, L2.tVar, L2.tC, L2.gSub, L2.rI, L2.rI0, L2.rIxL, L2.rIxT, L2.rSetL, L2.tIfS, L2.tTest, L2.tRet, L2.gName, L2.tNext, L2.tAnd, L2.tOr, L2.tNot, L2.tAndV, L2.tOrV, L2.tNotV, L2.tB, L2.tCB, L2.tCons, L2.tNil, L2.tCall, L2.tTup, L2.tLst, L2.tChain, L2.tUn, L2.tPar, L2.tDrop, L2.tIf, L2.tBM, L2.tBM0, L2.rAppend, L2.rCat, L2.rIsi, L2.rIsiT, L2.gTup, L2.gCons, L2.gNil, Fm.tFor_eq, Fm.tLc_eq, Fm.tLc2_eq, L2.iTup, L2.iList, L2.iRng1, L2.iRng2, L2.tSl, L2.tPart, L2.tNoPart, L2.rSlL, L2.rEq, L2.rNe, L2.rU, L2.rEqD, L2.rNeD, Fm.tRevT, Fm.rLenS, Fm.rTupOf, Fm.rLstOf, L2.tDNewK, L2.tCallS, L2.WE, Fm.wKeep, Fm.rIsK, Fm.rIsKT, List.cons_append, List.nil_append, L2.tYes])
namespace Fm
open PySem PySem.Spec PyProof.Rows L2
abbrev s_least_meeting : Stmt := top 30
abbrev N_least_meeting : List Str := ["standing", "floor", "counts"]
theorem sc_least_meeting : FnScope N_least_meeting ["standing"] (defScope s_least_meeting) := ⟨rfl, rfl, rfl, by decide +kernel, rfl, by decide +kernel, by decide +kernel⟩
abbrev s_first_run : Stmt := top 29
abbrev N_first_run : List Str := ["house", "standing", "told", "here", "_", "meeting"]
theorem sc_first_run : FnScope N_first_run ["house", "standing"] (defScope s_first_run) := ⟨rfl, rfl, rfl, by decide +kernel, rfl, by decide +kernel, by decide +kernel⟩
section
variable {P : Program} {w : World} {K : PySem.W.Frag} {mg : Str → Option Value} {base : Heap}
/-! ### the least meeting, the first run -/
theorem ne_of_none'' {H : Hp} {b D : Addr} {u : HO} (h : H b = some u) (hD : H D = none) : b ≠ D := fun z => by
  rw [z, hD] at h
  cases h
theorem come_cast : ∀ (r : Nat) (ls : List Nat) (rows : List (List Int)), ls.map (fun l : Nat => (l : Int)) = rows.map List.sum → comeF r rows = (comeN r ls).map (fun s : Nat => (s : Int))
  | r, [], [], _ => rfl
  | r, [], _ :: _, h => by cases h
  | r, _ :: _, [], h => by cases h
  | r, l :: ls, c :: cs, h => by
    rw [List.map_cons, List.map_cons] at h
    injection h with h1 h2
    have ih := come_cast (l + r - 1) ls cs h2
    unfold comeF comeN
    rw [List.map_cons, ← ih, ← h1]
    have e : (if (l : Int) + (r : Int) = 0 then (0 : Int) else (l : Int) + (r : Int) - 1) = ((l + r - 1 : Nat) : Int) := by split <;> omega
    rw [e]
    simp
theorem left_cast (l : List Nat) : ((l.map (fun s : Nat => (s : Int))).map fun s => if s - 1 > 0 then s - 1 else 0).sum = ((left_ l : Nat) : Int) := by
  unfold left_
  induction l with
  | nil => rfl
  | cons x r ih =>
    rw [List.map_cons, List.map_cons, List.sum_cons, List.map_cons, List.sum_cons, ih]
    split <;> omega
theorem leftF_cast {ls : List Nat} {rows : List (List Int)} (h : ls.map (fun l : Nat => (l : Int)) = rows.map List.sum) : leftF rows = ((left_ (comeN 0 ls) : Nat) : Int) := by
  unfold leftF
  rw [show comeF 0 rows = (comeN 0 ls).map (fun s : Nat => (s : Int)) from come_cast 0 ls rows h]
  exact left_cast _
theorem pos_cast {ls : List Nat} {rows : List (List Int)} (h : ls.map (fun l : Nat => (l : Int)) = rows.map List.sum) : (comeF 0 rows).map (fun s => decide (s > 0)) = posB (comeN 0 ls) := by
  rw [show comeF 0 rows = (comeN 0 ls).map (fun s : Nat => (s : Int)) from come_cast 0 ls rows h]
  unfold posB
  rw [List.map_map]
  congr 1
  funext s
  show decide ((s : Int) > 0) = decide (0 < s)
  congr 1
  exact propext ⟨fun z => by omega, fun z => by omega⟩
theorem lens_cast {m : Nat} {rows : List (List Int)} {out : Int} (ok : StOk m rows out) : (lensOf (rows.map fun c => rowOf c m)).map (fun l : Nat => (l : Int)) = rows.map List.sum := by
  unfold lensOf
  rw [List.map_map, List.map_map]
  apply List.map_congr_left
  intro c hc
  have q := rowOf_len c (ok.pos c hc) c.length (Nat.le_refl _)
  rw [List.take_length, ok.len c hc] at q
  exact q

def rsN (rows : List (List Int)) : List Nat := rows.map fun r => r.sum.toNat
theorem rs_cast {m : Nat} {rows : List (List Int)} {out : Int} (ok : StOk m rows out) : (rsN rows).map (fun l : Nat => (l : Int)) = rows.map List.sum := by
  unfold rsN
  rw [List.map_map]
  refine List.map_congr_left fun c hc => ?_
  have := sum_pos (ok.pos c hc)
  show ((c.sum.toNat : Nat) : Int) = c.sum
  omega
theorem rs_at {rows : List (List Int)} {f : Nat} (hf : f < rows.length) : (rsN rows).getD f 0 = (rows.getD f []).sum.toNat := by
  unfold rsN
  rw [List.getD_eq_getElem?_getD, List.getElem?_map, List.getElem?_eq_getElem hf, List.getD_eq_getElem?_getD, List.getElem?_eq_getElem hf]
  rfl
theorem sum_addAt {c : List Int} {i : Nat} (h : i < c.length) (z : Int) : (addAt c i z).sum = c.sum + z := FmC.sum_addI h z
/-- how many are on the floors behind a meeting -/
theorem rs_met {fs : List PyData} {m n f a b : Nat} {rows : List (List Int)} {out : Int} (ok : StOk m rows out) (hl : rows.length = n) (hgo : goLt fs m n) (h : Meets3 m rows f a b) : rsN (metRows fs rows f a b) = stepL f (rsN rows) ∧ 2 ≤ (rsN rows).getD f 0 := by
  obtain ⟨hf, ha, hb, hlen, hc⟩ := meets_cells ok hl h
  have hs := hgo 0 (by decide) f hf a b ha hb
  have hu := hgo 1 (by decide) f hf a b ha hb
  have hr := ok.pos _ (List.mem_of_getElem? (rows_at (show f < rows.length by omega)))
  have h2 : 2 ≤ (rows.getD f []).sum := by
    have e1 := FmC.sum_cnt_eq hlen hr
    have k : 2 ≤ FmC.sumTo m (FmC.cnt (rows.getD f [])) := by
      have h3 : FmC.sumTo m (fun x => (if x = a then 1 else 0) + (if x = b then 1 else 0)) ≤ FmC.sumTo m (FmC.cnt (rows.getD f [])) := FmC.sumTo_le fun x _ => by
        have := hc x
        unfold FmC.cnt
        by_cases xa : x = a <;> by_cases xb : x = b <;> simp only [xa, xb, if_true, if_false] at this ⊢ <;> first | omega | (simp_all; omega) | simp_all
      rw [FmC.sumTo_add, FmC.sumTo_at ha, FmC.sumTo_at hb] at h3
      exact h3
    omega
  have hsum : (rowMet (rows.getD f []) a b (goN fs 0 f a b)).sum = (rows.getD f []).sum - 1 := by
    unfold rowMet
    rw [sum_addAt (by rw [addAt_len, addAt_len]; omega), sum_addAt (by rw [addAt_len]; omega), sum_addAt (by omega)]
    omega
  refine ⟨?_, by rw [rs_at (by omega)]; omega⟩
  refine List.ext_getElem? fun g => ?_
  unfold stepL
  have l1 : (rsN (metRows fs rows f a b)).length = n := by unfold rsN; rw [List.length_map, metRows_len hl]
  have l2 : (rsN rows).length = n := by unfold rsN; rw [List.length_map, hl]
  by_cases hg : g < n
  · have e1 : (rsN (metRows fs rows f a b))[g]? = some ((metRows fs rows f a b).getD g []).sum.toNat := by
      rw [← rs_at (by rw [metRows_len hl]; exact hg), List.getD_eq_getElem?_getD, List.getElem?_eq_getElem (by omega)]
      rfl
    have e0 : (rsN rows)[g]? = some ((rows.getD g []).sum.toNat) := by
      rw [← rs_at (by omega), List.getD_eq_getElem?_getD, List.getElem?_eq_getElem (by omega)]
      rfl
    rw [e1, metRows_at hl hf g hg]
    by_cases y : g = f
    · subst y
      rw [if_pos rfl, hsum, List.getElem?_set_ne (by omega), List.getElem?_set_self (by omega), rs_at (by omega)]
      congr 1
      omega
    · rw [if_neg y]
      by_cases z : g = f + 1
      · subst z
        have hrg := List.mem_of_getElem? (rows_at (show f + 1 < rows.length by omega))
        have := sum_pos (ok.pos _ hrg)
        rw [if_pos rfl, List.getElem?_set_self (by rw [List.length_set]; omega), rs_at (by omega), sum_addAt (by rw [ok.len _ hrg]; omega)]
        congr 1
        omega
      · rw [if_neg z, List.getElem?_set_ne (fun q => z q.symm), List.getElem?_set_ne (fun q => y q.symm), e0]
  · rw [List.getElem?_eq_none (by omega), List.getElem?_eq_none (by rw [List.length_set, List.length_set]; omega)]
theorem left_rest {ls : List Nat} (h : left_ (comeN 0 ls) = 0) : ∀ l ∈ ls, l ≤ 1 := fun l hl => by
  obtain ⟨f, hf⟩ := List.getElem?_of_mem hl
  have hgd : ls.getD f 0 = l := by rw [List.getD_eq_getElem?_getD, hf]; rfl
  by_cases h2 : 2 ≤ l
  · have := (step_come f 0 ls (by rw [hgd]; exact h2)).1
    omega
  · omega
theorem prs_two {m : Nat} {c : List Int} (hl : c.length = m) (hp : ∀ x ∈ c, 0 ≤ x) (h : 1 < c.sum) : prs c ≠ [] := fun e => by
  have h2 : 2 ≤ FmC.sumTo m (FmC.cnt c) := by
    have := FmC.sum_cnt_eq hl hp
    omega
  obtain ⟨a, b, h1, h3, h4⟩ := FmC.two_of h2
  have hm : (a, b) ∈ prs c := by
    rw [prs_iff, hl]
    unfold FmC.cnt at h4
    unfold okP
    by_cases z : a = b
    · subst z
      rw [if_pos rfl] at h4
      refine ⟨⟨h3, by omega⟩, ⟨h3, by omega⟩, ?_⟩
      rw [decide_eq_true (show c.getD a 0 > 1 by omega), decide_eq_true (show a = a from rfl)]
      simp
    · rw [if_neg z] at h4
      refine ⟨⟨by omega, by omega⟩, ⟨h3, by omega⟩, ?_⟩
      rw [decide_eq_true (show a < b by omega)]
      rfl
  rw [e] at hm
  cases hm
theorem prs_meets {m f : Nat} {rows : List (List Int)} {out : Int} {x : Nat × Nat} (ok : StOk m rows out) (hf : f < rows.length) (hx : x ∈ prs (rows.getD f [])) : Meets3 m rows f x.1 x.2 := by
  refine (mts_iff ok).mp ?_
  unfold mts onF
  exact List.mem_flatMap.mpr ⟨f, List.mem_range.mpr hf, List.mem_map.mpr ⟨x, hx, rfl⟩⟩
/-- the least meeting there is -/
structure LeastM (rows : List (List Int)) (f a b : Nat) : Prop where
  lt : f < rows.length
  two : 1 < (rows.getD f []).sum
  low : ∀ g, g < f → (rows.getD g []).sum ≤ 1
  hd : (prs (rows.getD f [])).head? = some (a, b)
theorem LeastM.one {rows : List (List Int)} {f a b f' a' b' : Nat} (h : LeastM rows f a b) (h' : LeastM rows f' a' b') : (f, a, b) = (f', a', b') := by
  have e : f = f' := by
    rcases Nat.lt_trichotomy f f' with z | z | z
    · have := h'.low f z
      have := h.two
      omega
    · exact z
    · have := h.low f' z
      have := h'.two
      omega
  subst e
  have := h.hd.symm.trans h'.hd
  injection this with this
  injection this with h1 h2
  rw [h1, h2]
/-- the run of the least meetings -/
inductive RunL (fs : List PyData) (m : Nat) : List (List Int) → Int → List (Nat × Nat × Nat) → List (List Int) → Int → Prop
  | nil (rows : List (List Int)) (out : Int) : RunL fs m rows out [] rows out
  | cons {rows r : List (List Int)} {out o : Int} {f a b : Nat} {l : List (Nat × Nat × Nat)} : LeastM rows f a b → RunL fs m (metRows fs rows f a b) (metOut rows out f) l r o → RunL fs m rows out ((f, a, b) :: l) r o
theorem RunL.snoc {fs : List PyData} {m : Nat} {rows r : List (List Int)} {out o : Int} {l : List (Nat × Nat × Nat)} {f a b : Nat} (h : RunL fs m rows out l r o) (hm : LeastM r f a b) : RunL fs m rows out (l ++ [(f, a, b)]) (metRows fs r f a b) (metOut r o f) := by
  induction h with
  | nil => exact .cons hm (.nil _ _)
  | cons h1 _ ih => exact .cons h1 (ih hm)
theorem LeastM.no {rows : List (List Int)} {f a b : Nat} (h : LeastM rows f a b) (k : ∀ c ∈ rows, c.sum ≤ 1) : False := by
  have h1 := h.two
  have h2 := k (rows.getD f []) (List.mem_of_getElem? (rows_at h.lt))
  omega
theorem RunL.unique {fs : List PyData} {m : Nat} {rows r : List (List Int)} {out o : Int} {l : List (Nat × Nat × Nat)} (h : RunL fs m rows out l r o) : ∀ {l' r' o'}, RunL fs m rows out l' r' o' → (∀ c ∈ r, c.sum ≤ 1) → (∀ c ∈ r', c.sum ≤ 1) → l = l' := by
  induction h with
  | nil =>
    intro l' r' o' h' k k'
    cases h' with
    | nil => rfl
    | cons h1 _ => exact (h1.no k).elim
  | cons h1 _ ih =>
    intro l' r' o' h' k k'
    cases h' with
    | nil => exact (h1.no k').elim
    | cons h2 hr =>
      have e := h1.one h2
      cases e
      rw [ih hr k k']
def spLeastM : Sp := fun vs H Q _ => ∃ (sv : V) (p : Addr) (u : HO) (m : Nat) (rows : List (List Int)) (out : Int), vs = [sv] ∧ H p = some u ∧ Dat H p sv (stD rows out) ∧ rows.length ≤ 4 ∧ m ≤ 6 ∧ StOk m rows out ∧ (∃ f, f < rows.length ∧ 1 < (rows.getD f []).sum) ∧
  ∀ v H' f a b, Meets3 m rows f a b → LeastM rows f a b → Dat H' p v (triD (f, a, b)) → Same H H' → Q v H'
theorem ok_least_meeting (D : Df K mg "least_meeting" s_least_meeting ["standing"]) (T : Nms mg) (c_pairs : CallOk P w K mg base CX0 1 "pairs" ["counts"] spPrs) : CallOk P w K mg base CX0 2 "least_meeting" ["standing"] spLeastM := by
  refine df_ok D sc_least_meeting (fun vs H Q E h => ?_) (fun f cdv A outer s H vs Q E hr h => ?_)
  · obtain ⟨sv, p, u, m, rows, out, rfl, _⟩ := h
    rfl
  · obtain ⟨sv, p, u, m, rows, out, rfl, hp, sD, h4, hm6, ok, ⟨f0, hf0, hs0⟩, k⟩ := h
    have nd := sc_least_meeting.nd
    obtain ⟨sa, xs, rfl, hsa, nsp, hx⟩ := st_parts sD
    have hxl : xs.length = rows.length := by rw [hx.1, List.length_map]
    refine ⟨_, (pss_cons (ps_for PassesOwn.never rfl (pi_enumT (by rfl) T.n_enumerate (pa_cons (pe_slice (r := rSlA K) sl_tupA (pv 0) po_none (po_some (pe_un un_neg pe_int))) pa_nil)) (pg_tup rfl (pgs_cons (pg_name (i := 1) nd rfl (Or.inl rfl)) (pgs_cons (pg_name (i := 2) nd rfl (Or.inl rfl)) pgs_nil))) (pss_one (ps_if (pt_cmpR op_gt (pe_callB (r := rSumI K) (cr_sumI rfl) (by rfl) T.n_sum (by decide +kernel) (pa_cons (pv 2) pa_nil)) pe_int (nomark _)) (pss_one (ps_ret (pe_op (r := rCatA K) op_catA (pe_tup (pa_cons (pv 1) pa_nil)) (pe_ix (r := rIxL K) ix_list (pe_cc c_pairs (hr.mono (by omega)) (pa_cons (pv 2) pa_nil)) pe_int (fun _ _ => rfl))))) pss_nil)))
      (pss_one (ps_ret pe_non))), ?_⟩
    walk_at "op"
    walk_at "st"
    refine sl_init (SqT.of hsa) fun S0 hS0 => ?_
    have sS := same_new (o := .tup xs) hS0
    have hS1 : upd H S0 (.tup xs) S0 = some (.tup xs) := upd_same
    generalize upd H S0 (.tup xs) = G0 at *
    refine ⟨S0, _, rfl, SqT.of hS1, ?_⟩
    refine fI walk_enumT (fun i σ G => Same G0 G ∧ i ≤ f0 ∧ (∀ g, g < i → (rows.getD g []).sum ≤ 1) ∧ ∃ u1 u2 : Option V, σ = [some (.ref sa), u1, u2]) ⟨Same.refl _, Nat.zero_le _, fun g hg => absurd hg (Nat.not_lt_zero _), _, _, rfl⟩ (fun _ _ _ _ ⟨e, _⟩ => SqT.of (e _ _ hS1)) ?_ ?_
    · rintro i v σ G _ hi ⟨sG, hif, hlow, u1, u2, rfl⟩ ⟨t, x, y, rfl, ht, rfl, hxi, hyi⟩
      dsimp only at hxi hyi
      obtain rfl := Option.some.inj hxi
      have hil : i < rows.length := by omega
      have hgi : rows[i]? = some (rows.getD i []) := rows_at hil
      have hdx := hx.2 i y (rowD (rows.getD i [])) hyi (by rw [List.getElem?_map, hgi]; rfl)
      obtain ⟨b, rfl, hb, _⟩ := row_parts hdx
      have st := same_new (o := .tup [V.int (i : Nat), V.ref b]) ht
      have htt : upd G t (.tup [V.int (i : Nat), V.ref b]) t = some (.tup [V.int (i : Nat), V.ref b]) := upd_same
      have s1 := sG.trans st
      generalize upd G t (.tup [V.int (i : Nat), V.ref b]) = G1 at *
      have sH := sS.trans s1
      walk_at "op"
      refine ⟨t, _, rfl, SqT.of htt, rfl, _, _, rfl, _, _, rfl, rfl, ?_⟩
      refine ⟨_, rfl, .inr ⟨b, _, rfl, SqT.of (sH _ _ hb), ?_⟩⟩
      have hcm := List.mem_of_getElem? hgi
      refine ⟨_, _, rfl, rfl, _, rfl, ?_⟩
      refine ite2 (fun z => ?_) (fun z => ?_)
      · have z' := of_decide_eq_true z
        have hne := prs_two (ok.len _ hcm) (ok.pos _ hcm) z'
        refine ⟨_, rfl, by show 1 ≤ sizeLine; decide, fun t1 ht1 => ?_⟩
        have sm1 := same_new (o := .tup [V.int (i : Nat)]) ht1
        have ht1' : upd G1 t1 (.tup [V.int (i : Nat)]) t1 = some (.tup [V.int (i : Nat)]) := upd_same
        generalize upd G1 t1 (.tup [V.int (i : Nat)]) = G2 at *
        have sH2 := sH.trans sm1
        refine ⟨_, rfl, .ref b, p, u, rows.getD i [], rfl, sH2 _ _ hp, hdx.same sH2, by rw [ok.len _ hcm]; exact hm6, fun q ws G3 hq hq' hW sm2 => ?_⟩
        have hwl : 0 < ws.length := by
          rw [hW.1, List.length_map]
          exact List.length_pos_iff.mpr hne
        have hpl : 0 < (prs (rows.getD i [])).length := List.length_pos_iff.mpr hne
        have hw0 := hW.2 0 ws[0] (pairD (prs (rows.getD i []))[0]) (List.getElem?_eq_getElem hwl) (by rw [List.getElem?_map, List.getElem?_eq_getElem hpl]; rfl)
        have hm3 := prs_meets ok hil (List.getElem_mem hpl)
        have hhd : (prs (rows.getD i [])).head? = some (prs (rows.getD i []))[0] := by rw [List.head?_eq_getElem?, List.getElem?_eq_getElem hpl]
        generalize (prs (rows.getD i []))[0] = xy at *
        obtain ⟨b2, e2, hb2, _⟩ := pair_parts hw0
        refine ⟨q, _, _, _, rfl, rfl, SqL.of hq', atI_nat (j := 0) (List.getElem?_eq_getElem hwl), ?_⟩
        refine ⟨t1, b2, _, _, rfl, e2, SqT.of (sm2 _ _ ht1'), SqT.of hb2, by show 3 ≤ sizeLine; decide, fun e => (by cases e), fun _ e => (by cases e), fun _ _ w hw => ?_⟩
        have sH3 := sH2.trans sm2
        refine k (.ref w) _ i xy.1 xy.2 hm3 ⟨hil, z', hlow, hhd⟩ ?_ (sH3.trans (same_new hw))
        have e3 : triD (i, xy.1, xy.2) = .tuple ([((i : Nat) : Int), ((xy.1 : Nat) : Int), ((xy.2 : Nat) : Int)].map PyData.int) := rfl
        rw [e3]
        exact .tup upd_same (ne_of_none'' (sH3 _ _ hp) hw).symm rfl fun i x d e1 e2 => (Dats.ints (p := p) [_, _, _]).2 i x d e1 e2
      · have z' : ¬ (rows.getD i []).sum > 1 := fun q => z (decide_eq_true q)
        have : i ≠ f0 := fun q => by
          rw [q] at z'
          omega
        exact ⟨s1, by omega, fun g hg => (by
          by_cases q : g = i
          · rw [q]; omega
          · exact hlow g (by omega)), _, _, rfl⟩
    · rintro σ G ⟨sG, hif, hlow, u1, u2, rfl⟩
      omega
/-- the run of the least meetings, to rest -/
def spFirst (C : Addr) : Sp := fun vs H Q E => ∃ (hv sv : V) (p ph : Addr) (u : HO) (fs : List PyData) (m n : Nat) (rows : List (List Int)) (out : Int), vs = [hv, sv] ∧ H p = some u ∧ Dat H ph hv (.tuple fs) ∧ HouseN m n (.tuple fs) ∧ Dat H p sv (stD rows out) ∧ rows.length = n ∧ StOk m rows out ∧
  ((rows.map List.sum).sum ≤ 60 → ∀ q ws H' l r o, RunL fs m rows out l r o → (∀ c ∈ r, c.sum ≤ 1) → H q = none → H' q = some (.lst ws) → Dats H' p ws (l.map triD) → Same H H' → Q (.ref q) H') ∧
  (60 < (rows.map List.sum).sum → ∀ H1 dx, Same H H1 → H1 dx = none → E (.ref C) (some dx) (upd H1 dx (.xd [("many", .int (rows.map List.sum).sum)])))
theorem left_le : ∀ (r : Nat) (ls : List Nat), left_ (comeN r ls) ≤ ls.length * (r + ls.sum)
  | _, [] => Nat.zero_le _
  | r, l :: ls => by
    have ih := left_le (l + r - 1) ls
    show left_ ((l + r) :: comeN (l + r - 1) ls) ≤ _
    unfold left_ at ih ⊢
    rw [List.map_cons, List.sum_cons, List.length_cons, List.sum_cons]
    have h1 : ls.length * (l + r - 1 + ls.sum) ≤ ls.length * (r + (l + ls.sum)) := Nat.mul_le_mul_left _ (by omega)
    have h2 : (ls.length + 1) * (r + (l + ls.sum)) = ls.length * (r + (l + ls.sum)) + (r + (l + ls.sum)) := by rw [Nat.add_mul, Nat.one_mul]
    omega
theorem mtri_no (l : List (Nat × Nat × Nat)) : ∀ d ∈ l.map triD, noList d = true := fun d hd => by
  obtain ⟨r, _, rfl⟩ := List.mem_map.mp hd
  exact noList_of fun e he => by
    simp only [List.mem_cons, List.not_mem_nil, or_false] at he
    rcases he with rfl | rfl | rfl <;> simp [noList]
theorem ok_first_run (D : Df K mg "first_run" s_first_run ["house", "standing"]) (T : Nms mg) {t60 : Tok} (c_MOST_IN_FIRST_RUN : mg "MOST_IN_FIRST_RUN" = some (.int 60 t60)) {C : Addr} (c_check_few : CallOk P w K mg base (L2.CX P w) 8 "check_few" ["house", "standing", "most"] (spFew C)) (c_meetings_left : CallOk P w K mg base CX0 2 "meetings_left" ["standing"] spLeft)
    (c_least_meeting : CallOk P w K mg base CX0 2 "least_meeting" ["standing"] spLeastM) (c_met : CallOk P w K mg base CX0 1 "met" ["house", "standing", "meeting"] spMet) : CallOk P w K mg base (L2.CX P w) 9 "first_run" ["house", "standing"] (spFirst C) := by
  refine df_okX D sc_first_run (fun vs H Q E h => ?_) (fun f cdv A outer s H vs Q E hr h => ?_)
  · obtain ⟨hv, sv, p, ph, u, fs, m, n, rows, out, rfl, _⟩ := h
    rfl
  · obtain ⟨hv, sv, p, ph, u, fs, m, n, rows, out, rfl, hp, hD, hN, sD, hl, ok, k0, k2⟩ := h
    have nd := sc_first_run.nd
    have hgo := goLt_of hD hN
    have hmn : 1 ≤ n ∧ n ≤ 4 ∧ 1 ≤ m ∧ m ≤ 6 := by
      obtain ⟨_, _, _, z1, z2, z3, z4, _⟩ := hN
      exact ⟨z1, z2, z3, z4⟩
    refine ⟨_, (pss_cons (ps_expr (pe_cs c_check_few (takes_of rfl rfl rfl rfl) (hr.mono (by omega)) (pa_cons (pv 0) (pa_cons (pv 1) (pa_cons (pe_glob (v := .int 60) rfl c_MOST_IN_FIRST_RUN ⟨_, rfl⟩) pa_nil)))))
      (pss_cons (ps_set (i := 2) nd rfl (Or.inl rfl) (pe_lst pa_nil))
      (pss_cons (ps_set (i := 3) nd rfl (Or.inl rfl) (pv 1))
      (pss_cons (ps_for (passes_of rfl) rfl (pi_range1 rfl T.n_range (pa_cons (pe_cc c_meetings_left (hr.mono (by omega)) (pa_cons (pv 1) pa_nil)) pa_nil)) (pg_name (i := 4) nd rfl (Or.inl rfl)) (pss_cons (ps_set (i := 5) nd rfl (Or.inl rfl) (pe_cc c_least_meeting (hr.mono (by omega)) (pa_cons (pv 3) pa_nil)))
      (pss_cons (ps_expr (pe_bm PySem.F.plainAttrs_list PySem.F.slot_list_append PySem.F.type_list_append mt_append (pv 2) (pa_cons (pv 5) pa_nil)))
      (pss_one (ps_set (i := 3) nd rfl (Or.inl rfl) (pe_cc c_met (hr.mono (by omega)) (pa_cons (pv 0) (pa_cons (pv 3) (pa_cons (pv 5) pa_nil)))))))))
      (pss_one (ps_ret (pv 2))))))), ?_⟩
    walk_at "op"
    refine ⟨_, rfl, _, rfl, hv, sv, ph, p, .tuple fs, m, n, rows, out, 60, rfl, hD, hN, sD, hl, ok, fun h60 G0 s0 => ?_, fun h60 H1 dx s1 hdx => k2 h60 H1 dx s1 hdx⟩
    have k := k0 h60
    refine ⟨Nat.zero_le _, fun L hL => ?_⟩
    have sL := same_new (o := .lst []) hL
    have hL1 : upd G0 L (.lst []) L = some (.lst []) := upd_same
    generalize upd G0 L (.lst []) = G1 at *
    have s1 := s0.trans sL
    have hLH : H L = none := sameFree s0 hL
    dsimp only [List.set, L2.start]
    refine ⟨_, rfl, _, rfl, sv, p, rows, out, rfl, sD.same s1, by omega, fun G2 s2 => ?_⟩
    have s12 := s1.trans s2
    have eL : leftF rows = ((left_ (comeN 0 (rsN rows)) : Nat) : Int) := leftF_cast (rs_cast ok)
    have hbd : left_ (comeN 0 (rsN rows)) ≤ 240 := by
      have h1 := left_le 0 (rsN rows)
      have h2 : (rsN rows).length = n := by unfold rsN; rw [List.length_map, hl]
      have h3 : (((rsN rows).sum : Nat) : Int) = (rows.map List.sum).sum := by
        rw [← rs_cast ok]
        have key : ∀ l : List Nat, ((l.sum : Nat) : Int) = (l.map fun x : Nat => (x : Int)).sum := fun l => by
          induction l with
          | nil => rfl
          | cons x r ih => rw [List.sum_cons, List.map_cons, List.sum_cons, ← ih]; omega
        exact key _
      rw [h2] at h1
      have h4 : n * (0 + (rsN rows).sum) ≤ 4 * 60 := Nat.mul_le_mul hmn.2.1 (by omega)
      omega
    rw [eL]
    refine ⟨_, rfl, by omega, by omega, ?_⟩
    rw [Int.toNat_natCast]
    refine fI walk_range (fun i σ G => ∃ (v : V) (ri : List (List Int)) (oi : Int) (l : List (Nat × Nat × Nat)) (ws : List V) (u4 u5 : Option V), σ = [some hv, some sv, some (.ref L), some v, u4, u5] ∧ Same H G ∧ G L = some (.lst ws) ∧ Dats G p ws (l.map triD) ∧ Dat G p v (stD ri oi) ∧ ri.length = n ∧ StOk m ri oi ∧ RunL fs m rows out l ri oi ∧ l.length = i ∧ left_ (comeN 0 (rsN ri)) + i = left_ (comeN 0 (rsN rows)))
      ⟨sv, rows, out, [], [], _, _, rfl, s12, s2 _ _ hL1, Dats.nil, sD.same s12, hl, ok, .nil _ _, rfl, rfl⟩ (fun _ _ _ _ _ => True.intro) ?_ ?_
    · rintro i x σ _ G hi ⟨v, ri, oi, l, ws, u4, u5, rfl, sG, hLG, hW, hvD, hri, oki, hRun, hll, hlft⟩ ⟨rfl, rfl⟩
      dsimp only
      have hex : ∃ f, f < ri.length ∧ 1 < (ri.getD f []).sum := Classical.byContradiction fun q => by
        have h1 : ∀ l ∈ rsN ri, l ≤ 1 := fun l hl => by
          unfold rsN at hl
          obtain ⟨c, hc, rfl⟩ := List.mem_map.mp hl
          obtain ⟨g, hg⟩ := List.getElem?_of_mem hc
          have hgl := (List.getElem?_eq_some_iff.mp hg).1
          have hgd : ri.getD g [] = c := by rw [List.getD_eq_getElem?_getD, hg]; rfl
          by_cases z : 1 < c.sum
          · exact absurd ⟨g, hgl, by rw [hgd]; exact z⟩ q
          · omega
        have h2 := rest_left _ h1
        rw [← rest_come _ h1] at h2
        omega
      walk_at "op"
      refine ⟨_, rfl, v, p, u, m, ri, oi, rfl, sG _ _ hp, hvD, by omega, hmn.2.2.2, oki, hex, fun x1 G3 f a b hM hLe hx1 s3 => ?_⟩
      dsimp only [List.set]
      obtain ⟨hf, ham, hbm, _, _⟩ := meets_cells oki hri hM
      refine ⟨_, rfl, .inl ⟨rfl, _, SqL.of (s3 _ _ hLG)⟩, _, rfl, L, ws, _, rfl, rfl, s3 _ _ hLG, ?_, ?_⟩
      · rw [hW.1, List.length_map, hll]
        exact Nat.lt_trans hi (Nat.lt_of_le_of_lt hbd (by rw [sizeLine_eq]; omega))
      · have sG3 := sG.trans s3
        have s4 : Same H (upd G3 L (.lst (ws ++ [x1]))) := sameOff sG3 hLH
        have hW4 : Dats (upd G3 L (.lst (ws ++ [x1]))) p (ws ++ [x1]) ((l ++ [(f, a, b)]).map triD) := by
          rw [List.map_append]
          exact ((hW.same s3).setL (s3 _ _ hLG) (mtri_no _)).snoc (hx1.setL (s3 _ _ hLG) (mtri_no [_] _ (List.mem_singleton.mpr rfl)))
        have hv4 : Dat (upd G3 L (.lst (ws ++ [x1]))) p v (stD ri oi) := (hvD.same s3).setL (s3 _ _ hLG) (noList_of fun d hd => by
          rcases List.mem_append.mp hd with hd | hd
          · obtain ⟨r, _, rfl⟩ := List.mem_map.mp hd
            exact noList_ints _ _
          · rw [List.mem_singleton.mp hd]
            simp [noList])
        have hx4 : Dat (upd G3 L (.lst (ws ++ [x1]))) p x1 (triD (f, a, b)) := hx1.setL (s3 _ _ hLG) (mtri_no [_] _ (List.mem_singleton.mpr rfl))
        have hL4 : upd G3 L (.lst (ws ++ [x1])) L = some (.lst (ws ++ [x1])) := upd_same
        generalize upd G3 L (.lst (ws ++ [x1])) = G4 at *
        try dsimp only [List.set]
        refine ⟨_, rfl, _, rfl, _, rfl, hv, v, x1, p, ph, p, u, fs, m, n, f, a, b, ri, oi, rfl, s4 _ _ hp, hD.same s4, hN, hv4, hri, oki, hx4, hf, ham, hbm, fun v' G5 hv' s5 => ?_⟩
        have hst := rs_met oki hri hgo hM
        have hcm := step_come f 0 (rsN ri) hst.2
        refine ⟨v', _, _, l ++ [(f, a, b)], ws ++ [x1], _, _, rfl, s4.trans s5, s5 _ _ hL4, hW4.same s5, hv', metRows_len hri, met_ok oki hri hgo hM, hRun.snoc hLe, by rw [List.length_append, hll]; rfl, ?_⟩
        rw [hst.1]
        omega
    · rintro σ G ⟨v, ri, oi, l, ws, u4, u5, rfl, sG, hLG, hW, hvD, hri, oki, hRun, hll, hlft⟩
      walk_at "op"
      refine ⟨_, rfl, k L ws G l ri oi hRun (fun c hc => ?_) hLH hLG hW sG⟩
      have h1 := left_rest (ls := rsN ri) (by omega) c.sum.toNat (List.mem_map_of_mem hc)
      omega

end
end Fm
end FFRN
section FMSN
set_option Elab.async false
set_option linter.all false
set_option maxRecDepth 100000
set_option maxHeartbeats 4000000
local macro_rules | `(tactic| walk_at "ne") => `(tactic| first | assumption | (apply Ne.symm; assumption) | exact L2.ne_of_none (by assumption) (by assumption) | exact Ne.symm (L2.ne_of_none (by assumption) (by assumption)))
local macro_rules | `(tactic| walk_at "hl") => `(tactic| first | assumption | exact L2.upd_same | (refine Eq.trans (L2.upd_ne (by walk_at "ne")) ?_; walk_at "hl"))
local macro_rules | `(tactic| walk_at "sd") => `(tactic| first | (with_reducible show (_ : Int) < _; omega) | (with_reducible show (_ : Int) ≤ _; omega) | assumption | decide | exact ⟨by assumption, by assumption⟩ | exact ⟨by decide, by decide⟩ | exact Or.inr ⟨by decide, by decide⟩ | exact Or.inl ⟨by omega, by omega⟩ | rfl)
local macro_rules | `(tactic| walk_at "st1") => `(tactic| first
  | refine ⟨_, rfl, ?_⟩
  | refine ⟨_, _, rfl, rfl, ?_⟩
  | refine ⟨_, _, rfl, ?_⟩
  | (refine ⟨_, _, _, _, rfl, rfl, L2.SqL.of (by walk_at "hl"), rfl, ?_⟩)
  | (refine ⟨_, _, _, _, rfl, rfl, L2.SqT.of (by walk_at "hl"), rfl, ?_⟩)
  | (refine ⟨_, _, _, _, rfl, rfl, (by walk_at "hl"), rfl, ?_⟩)
  | (refine And.intro (by walk_at "sd") ?_)
  )
local macro_rules | `(tactic| walk_at "st") => `(tactic| repeat walk_at "st1")
local macro_rules | `(tactic| walk_at "op") => `(tactic| try dsimp only [L2.tSeq, L2.tAsg, L2.tOp, L2.tVar, L2.tC, L2.gSub, L2.rI, L2.rI0, L2.rIxL, L2.rIxT, L2.rSetL, L2.tIfS, L2.tTest, L2.tRet, L2.gName, L2.tNext, L2.tAnd, L2.tOr, L2.tNot, L2.tAndV, L2.tOrV, L2.tNotV, L2.tB, L2.tCB, L2.tCons, L2.tNil, L2.tCall, L2.tTup, L2.tLst, L2.tChain, L2.tUn, L2.tPar, L2.tDrop, L2.tIf, L2.tBM, L2.tBM0, L2.rAppend, L2.rCat, L2.rIsi, L2.rIsiT, L2.gTup, L2.gCons, L2.gNil, Fm.tFor_eq, Fm.tLc_eq, Fm.tLc2_eq, L2.iTup, L2.iList, L2.iRng1, L2.iRng2, L2.tSl, L2.tPart, L2.tNoPart, L2.rSlL, L2.rEq, L2.rNe, L2.rU, L2.rEqD, L2.rNeD, Fm.tRevT, Fm.rLenS, Fm.rTupOf, Fm.rLstOf, L2.tDNewK, L2.tCallS, L2.WE, Fm.wKeep, Fm.rIsK, Fm.rIsKT, List.cons_append, List.nil_append, L2.tYes])
namespace Fm
open PySem PySem.Spec PyProof.Rows L2
abbrev s_law_meet : Stmt := top 43
abbrev N_law_meet : List Str := ["house", "crowd", "floor", "one", "other", "floors", "out", "row", "a", "b", "k", "number"]
theorem sc_law_meet : FnScope N_law_meet ["house", "crowd", "floor", "one", "other"] (defScope s_law_meet) := ⟨rfl, rfl, rfl, by decide +kernel, rfl, by decide +kernel, by decide +kernel⟩
section
variable {P : Program} {w : World} {K : PySem.W.Frag} {mg : Str → Option Value} {base : Heap}
/-! ### people told apart, and who they come to be -/
def flSt (n : Nat) (fl : List (List Int)) (out : Int) : FmC.St := fun g a => if g < n then (fl.getD g []).count ((a : Nat) : Int) else if g = n ∧ a = 0 then out.toNat else 0
theorem keepN_count (c : List Int) {one other : Nat} (h : other < one) (x : Int) : ∀ k, k ≤ c.length → (keepN c one other k).count x + (if one < k ∧ c.getD one 0 = x then 1 else 0) + (if other < k ∧ c.getD other 0 = x then 1 else 0) = (c.take k).count x
  | 0, _ => by
    rw [if_neg (fun q => absurd q.1 (Nat.not_lt_zero _)), if_neg (fun q => absurd q.1 (Nat.not_lt_zero _))]
    rfl
  | k + 1, hk => by
    have ih := keepN_count c h x k (by omega)
    have hg : c[k]? = some (c.getD k 0) := by
      rw [List.getD_eq_getElem?_getD, List.getElem?_eq_getElem (show k < c.length by omega)]
      rfl
    have one_ : ∀ y : Int, [y].count x = if y = x then 1 else 0 := fun y => by
      by_cases e : y = x
      · rw [if_pos e, e]; simp
      · rw [if_neg e]; simp [e]
    rw [List.take_add_one, hg]
    show _ = (c.take k ++ [c.getD k 0]).count x
    rw [List.count_append, one_, ← ih, keepN_succ, List.count_append]
    by_cases e1 : k = one
    · have e3 : (k == one || k == other) = true := by simp [e1]
      rw [if_pos e3]
      subst e1
      have c1 : (if k < k + 1 ∧ c.getD k 0 = x then 1 else 0) = if c.getD k 0 = x then 1 else 0 := by
        by_cases z : c.getD k 0 = x
        · rw [if_pos ⟨by omega, z⟩, if_pos z]
        · rw [if_neg (fun q => z q.2), if_neg z]
      have c2 : (if k < k ∧ c.getD k 0 = x then 1 else 0) = 0 := if_neg fun q => Nat.lt_irrefl _ q.1
      have c3 : (if other < k + 1 ∧ c.getD other 0 = x then 1 else 0) = if other < k ∧ c.getD other 0 = x then 1 else 0 := by
        by_cases z : c.getD other 0 = x
        · rw [if_pos ⟨by omega, z⟩, if_pos ⟨h, z⟩]
        · rw [if_neg (fun q => z q.2), if_neg (fun q => z q.2)]
      rw [c1, c2, c3]
      show _ + 0 + _ + _ = _
      omega
    · by_cases e2 : k = other
      · have e3 : (k == one || k == other) = true := by simp [e2]
        rw [if_pos e3]
        subst e2
        have c1 : (if one < k + 1 ∧ c.getD one 0 = x then 1 else 0) = 0 := if_neg fun q => by omega
        have c2 : (if one < k ∧ c.getD one 0 = x then 1 else 0) = 0 := if_neg fun q => by omega
        have c3 : (if k < k + 1 ∧ c.getD k 0 = x then 1 else 0) = if c.getD k 0 = x then 1 else 0 := by
          by_cases z : c.getD k 0 = x
          · rw [if_pos ⟨by omega, z⟩, if_pos z]
          · rw [if_neg (fun q => z q.2), if_neg z]
        have c4 : (if k < k ∧ c.getD k 0 = x then 1 else 0) = 0 := if_neg fun q => Nat.lt_irrefl _ q.1
        rw [c1, c2, c3, c4]
        show _ + 0 + _ + _ = _
        omega
      · have e3 : ¬ (k == one || k == other) = true := by simp [e1, e2]
        rw [if_neg e3, one_]
        have c1 : (if one < k + 1 ∧ c.getD one 0 = x then 1 else 0) = if one < k ∧ c.getD one 0 = x then 1 else 0 := by
          by_cases z : one < k ∧ c.getD one 0 = x
          · rw [if_pos z, if_pos ⟨by omega, z.2⟩]
          · rw [if_neg z, if_neg (fun q => z ⟨by omega, q.2⟩)]
        have c2 : (if other < k + 1 ∧ c.getD other 0 = x then 1 else 0) = if other < k ∧ c.getD other 0 = x then 1 else 0 := by
          by_cases z : other < k ∧ c.getD other 0 = x
          · rw [if_pos z, if_pos ⟨by omega, z.2⟩]
          · rw [if_neg z, if_neg (fun q => z ⟨by omega, q.2⟩)]
        rw [c1, c2]
        omega
theorem keepN_swap (c : List Int) (one other n : Nat) : keepN c one other n = keepN c other one n := by
  unfold keepN
  congr 2
  funext k
  rw [Bool.or_comm]
theorem keepN_lenN (c : List Int) {one other : Nat} (h : one ≠ other) (n : Nat) : (keepN c one other n).length + ((if one < n then 1 else 0) + (if other < n then 1 else 0)) = n := by
  rcases Nat.lt_or_gt_of_ne h with z | z
  · rw [keepN_swap]
    have := keepN_len c z n
    omega
  · exact keepN_len c z n
theorem keepN_countN (c : List Int) {one other : Nat} (h : one ≠ other) (x : Int) (k : Nat) (hk : k ≤ c.length) : (keepN c one other k).count x + (if one < k ∧ c.getD one 0 = x then 1 else 0) + (if other < k ∧ c.getD other 0 = x then 1 else 0) = (c.take k).count x := by
  rcases Nat.lt_or_gt_of_ne h with z | z
  · rw [keepN_swap]
    have := keepN_count c z x k hk
    omega
  · exact keepN_count c z x k hk
/-- what a meeting of A and B on f changes -/
def StepE (fs : List PyData) (n f A B : Nat) (x y : FmC.St) : Prop := ∃ z : FmC.St, x = z + FmC.one f A + FmC.one f B ∧ y = z + FmC.one f (goN fs 0 f A B) + FmC.one (f + 1) (FmC.outU n (goN fs 1) f A B)
theorem snoc_count (l : List Int) (y x : Int) : (l ++ [y]).count x = l.count x + if y = x then 1 else 0 := by
  rw [List.count_append]
  congr 1
  by_cases e : y = x
  · rw [if_pos e, e]; simp
  · rw [if_neg e]; simp [e]
/-- two who meet make a step -/
theorem fl_step {fs : List PyData} {m n f one other : Nat} {fl : List (List Int)} {out : Int} {c c2 : List Int} (hl : fl.length = n) (hf : f < n) (hc : fl[f]? = some c) (h1 : one ≠ other) (h2 : one < c.length) (h3 : other < c.length) (hin : ∀ e ∈ c, 0 ≤ e ∧ e < (m : Int)) (ho : 0 ≤ out)
    (hc2 : f + 1 < n → fl[f + 1]? = some c2) :
    StepE fs n f (c.getD one 0).toNat (c.getD other 0).toNat (flSt n fl out)
      (if f + 1 < n then flSt n (((fl.set f (keepN c one other c.length)).set f (keepN c one other c.length ++ [((goN fs 0 f (c.getD one 0).toNat (c.getD other 0).toNat : Nat) : Int)])).set (f + 1) (c2 ++ [((goN fs 1 f (c.getD one 0).toNat (c.getD other 0).toNat : Nat) : Int)])) out
        else flSt n ((fl.set f (keepN c one other c.length)).set f (keepN c one other c.length ++ [((goN fs 0 f (c.getD one 0).toNat (c.getD other 0).toNat : Nat) : Int)])) (out + 1)) := by
  have hg : ∀ j, j < c.length → 0 ≤ c.getD j 0 ∧ c.getD j 0 < (m : Int) := fun j hj => hin _ (by
    rw [List.getD_eq_getElem?_getD, List.getElem?_eq_getElem hj]
    exact List.getElem_mem _)
  have g1 := hg one h2
  have g2 := hg other (by omega)
  have cd : fl.getD f [] = c := by rw [List.getD_eq_getElem?_getD, hc]; rfl
  have row : ∀ x : Nat, (keepN c one other c.length).count ((x : Nat) : Int) + (if x = (c.getD one 0).toNat then 1 else 0) + (if x = (c.getD other 0).toNat then 1 else 0) = c.count ((x : Nat) : Int) := fun x => by
    have := keepN_countN c h1 ((x : Nat) : Int) c.length (Nat.le_refl _)
    rw [List.take_length] at this
    rw [← this]
    have q1 : (if x = (c.getD one 0).toNat then 1 else 0) = if one < c.length ∧ c.getD one 0 = ((x : Nat) : Int) then 1 else 0 := by
      by_cases z : x = (c.getD one 0).toNat
      · rw [if_pos z, if_pos ⟨h2, by omega⟩]
      · rw [if_neg z, if_neg (fun q => z (by omega))]
    have q2 : (if x = (c.getD other 0).toNat then 1 else 0) = if other < c.length ∧ c.getD other 0 = ((x : Nat) : Int) then 1 else 0 := by
      by_cases z : x = (c.getD other 0).toNat
      · rw [if_pos z, if_pos ⟨by omega, by omega⟩]
      · rw [if_neg z, if_neg (fun q => z (by omega))]
    rw [q1, q2]
  generalize hA : (c.getD one 0).toNat = A at *
  generalize hB : (c.getD other 0).toNat = Bb at *
  have hAm : A < m := by omega
  have hBm : Bb < m := by omega
  generalize hst : goN fs 0 f A Bb = st at *
  refine ⟨fun g x => if g = f then (keepN c one other c.length).count ((x : Nat) : Int) else flSt n fl out g x, ?_, ?_⟩
  · funext g x
    simp only [FmC.add_at, FmC.one_at]
    by_cases y : g = f
    · subst y
      rw [if_pos rfl, if_pos rfl, if_pos rfl]
      unfold flSt
      rw [if_pos hf, cd, ← row x]
    · rw [if_neg y, if_neg y, if_neg y]
      omega
  · funext g x
    simp only [FmC.add_at, FmC.one_at]
    rw [hst]
    by_cases hn : f + 1 < n
    · rw [if_pos hn]
      have hc2' := hc2 hn
      have cd2 : fl.getD (f + 1) [] = c2 := by rw [List.getD_eq_getElem?_getD, hc2']; rfl
      have eu : FmC.outU n (goN fs 1) f A Bb = goN fs 1 f A Bb := if_pos hn
      rw [eu]
      generalize goN fs 1 f A Bb = up at *
      by_cases y : g = f
      · subst y
        rw [if_pos rfl, if_pos rfl, if_neg (by omega : ¬ g = g + 1)]
        unfold flSt
        rw [if_pos hf, FmC.getD_set_ne _ _ _ _ _ (by omega), FmC.getD_set_same _ _ _ _ (by rw [List.length_set]; omega), snoc_count]
        have : (if ((st : Nat) : Int) = ((x : Nat) : Int) then 1 else 0) = if x = st then 1 else 0 := by
          by_cases z : x = st
          · rw [if_pos z, if_pos (by omega)]
          · rw [if_neg z, if_neg (by omega)]
        rw [this]
        omega
      · rw [if_neg y, if_neg y]
        by_cases w : g = f + 1
        · subst w
          rw [if_pos rfl]
          unfold flSt
          rw [if_pos hn, if_pos hn, FmC.getD_set_same _ _ _ _ (by rw [List.length_set, List.length_set]; omega), cd2, snoc_count]
          have : (if ((up : Nat) : Int) = ((x : Nat) : Int) then 1 else 0) = if x = up then 1 else 0 := by
            by_cases z : x = up
            · rw [if_pos z, if_pos (by omega)]
            · rw [if_neg z, if_neg (by omega)]
          rw [this]
          omega
        · rw [if_neg w]
          unfold flSt
          by_cases v : g < n
          · rw [if_pos v, if_pos v, FmC.getD_set_ne _ _ _ _ _ (fun q => w q.symm), FmC.getD_set_ne _ _ _ _ _ (fun q => y q.symm), FmC.getD_set_ne _ _ _ _ _ (fun q => y q.symm)]
            omega
          · rw [if_neg v, if_neg v]
            omega
    · rw [if_neg hn]
      have eu : FmC.outU n (goN fs 1) f A Bb = 0 := if_neg hn
      rw [eu]
      by_cases y : g = f
      · subst y
        rw [if_pos rfl, if_pos rfl, if_neg (by omega : ¬ g = g + 1)]
        unfold flSt
        rw [if_pos hf, FmC.getD_set_same _ _ _ _ (by rw [List.length_set]; omega), snoc_count]
        have : (if ((st : Nat) : Int) = ((x : Nat) : Int) then 1 else 0) = if x = st then 1 else 0 := by
          by_cases z : x = st
          · rw [if_pos z, if_pos (by omega)]
          · rw [if_neg z, if_neg (by omega)]
        rw [this]
        omega
      · rw [if_neg y, if_neg y]
        unfold flSt
        by_cases v : g < n
        · rw [if_pos v, if_pos v, FmC.getD_set_ne _ _ _ _ _ (fun q => y q.symm), FmC.getD_set_ne _ _ _ _ _ (fun q => y q.symm), if_neg (by omega)]
          omega
        · rw [if_neg v, if_neg v]
          by_cases w : g = n ∧ x = 0
          · rw [if_pos w, if_pos w, if_pos (by omega), if_pos w.2]
            omega
          · rw [if_neg w, if_neg w]
            by_cases q : g = f + 1
            · rw [if_pos q, if_neg (fun z => w ⟨by omega, z⟩)]
            · rw [if_neg q]
theorem house_cells2 {H : Hp} {ph : Addr} {hv : V} {fs : List PyData} {m n f : Nat} {a b : Int} (hD : Dat H ph hv (.tuple fs)) (hN : HouseN m n (.tuple fs)) (hf : f < n) (a0 : 0 ≤ a) (a1 : a < m) (b0 : 0 ≤ b) (b1 : b < m) :
    ∃ (ah af s0 u0 ra rb : Addr) (hs ss us ya yb : List V) (st up : Int), hv = .ref ah ∧ H ah = some (.tup hs) ∧ hs.length = n ∧ hs[f]? = some (V.ref af) ∧ H af = some (.tup [.ref s0, .ref u0]) ∧
      H s0 = some (.tup ss) ∧ ss[a.toNat]? = some (V.ref ra) ∧ H ra = some (.tup ya) ∧ ya[b.toNat]? = some (V.int st) ∧ 0 ≤ st ∧ st < m ∧
      H u0 = some (.tup us) ∧ us[a.toNat]? = some (V.ref rb) ∧ H rb = some (.tup yb) ∧ yb[b.toNat]? = some (V.int up) ∧ 0 ≤ up ∧ up < m ∧ st = ((goN fs 0 f a.toNat b.toNat : Nat) : Int) ∧ up = ((goN fs 1 f a.toNat b.toNat : Nat) : Int) := by
  obtain ⟨ah, af, hs, t0, u0, rfl, g1, g3, g3', hF⟩ := floor_at hD hN hf
  obtain ⟨ss, ra, ya, c1, c2, c3, c4, c5⟩ := hF.s a.toNat b.toNat (by omega) (by omega)
  obtain ⟨us, rb, yb, d1, d2, d3, d4, d5⟩ := hF.u a.toNat b.toNat (by omega) (by omega)
  exact ⟨ah, af, t0, u0, ra, rb, hs, ss, us, ya, yb, _, _, rfl, g1, g3, g3', hF.at_, c1, c2, c3, c4, by omega, by omega, d1, d2, d3, d4, by omega, by omega, rfl, rfl⟩
/-- the rows behind a meeting of two people -/
def MeetX (fs : List PyData) (n f one other : Nat) (fl : List (List Int)) (out : Int) (fl' : List (List Int)) (out' : Int) : Prop :=
  ∃ c, fl[f]? = some c ∧ ((f + 1 < n ∧ out' = out ∧ ∃ c2, fl[f + 1]? = some c2 ∧ fl' = (fl.set f (keepN c one other c.length ++ [((goN fs 0 f (c.getD one 0).toNat (c.getD other 0).toNat : Nat) : Int)])).set (f + 1) (c2 ++ [((goN fs 1 f (c.getD one 0).toNat (c.getD other 0).toNat : Nat) : Int)])) ∨
    (¬ f + 1 < n ∧ out' = out + 1 ∧ fl' = fl.set f (keepN c one other c.length ++ [((goN fs 0 f (c.getD one 0).toNat (c.getD other 0).toNat : Nat) : Int)])))
theorem ne_nq {H : Hp} {a b : Addr} {u : HO} (h : H a = none) (k : H b = some u) : a ≠ b := fun z => by rw [z, k] at h; cases h
theorem LL.at {H : Hp} {p q L : Addr} {ws : List V} {fl : List (List Int)} (h : LL H p L ws fl) (hq : ∀ (i : Nat) (b : Addr), ws[i]? = some (V.ref b) → b ≠ q) : LL H q L ws fl := ⟨h.at_, h.len, fun j c e => by
  obtain ⟨b, e1, e2, e3, _⟩ := h.row j c e
  exact ⟨b, e1, e2, e3, hq j b e1⟩⟩
def spMeet : Sp := fun vs H Q _ => ∃ (hv cv : V) (p ph : Addr) (u : HO) (fs : List PyData) (m n f one other : Nat) (fl : List (List Int)) (out : Int), vs = [hv, cv, .int f, .int one, .int other] ∧ H p = some u ∧ Dat H ph hv (.tuple fs) ∧ HouseN m n (.tuple fs) ∧ Dat H p cv (crowdD fl out) ∧ fl.length = n ∧ RowsIn m fl ∧ 0 ≤ out ∧
  (∀ l ∈ lensOf fl, l ≤ 100) ∧ f < n ∧ one ≠ other ∧ one < (lensOf fl).getD f 0 ∧ other < (lensOf fl).getD f 0 ∧
  ∀ v' H' fl' out', Dat H' p v' (crowdD fl' out') → Same H H' → MeetX fs n f one other fl out fl' out' → (∀ q u', H q = some u' → Dat H' q v' (crowdD fl' out')) → lensOf fl' = stepL f (lensOf fl) → RowsIn m fl' → fl'.length = n → 0 ≤ out' → (∃ c, fl[f]? = some c ∧ StepE fs n f (c.getD one 0).toNat (c.getD other 0).toNat (flSt n fl out) (flSt n fl' out')) → Q v' H'
theorem ok_law_meet (D : Df K mg "_law_meet" s_law_meet ["house", "crowd", "floor", "one", "other"]) (T : Nms mg) : CallOk P w K mg base CX0 1 "_law_meet" ["house", "crowd", "floor", "one", "other"] spMeet := by
  refine df_ok D sc_law_meet (fun vs H Q E h => ?_) (fun f cdv A outer s H vs Q E hr h => ?_)
  · obtain ⟨hv, cv, p, ph, u, fs, m, n, fn, one, other, fl, out, rfl, _⟩ := h
    rfl
  · obtain ⟨hv, cv, p, ph, u, fs, m, n, fn, one, other, fl, out, rfl, hp, hD, hN, hC, hln, hin, hout, h100, hf, ho1, ho2, ho3, k⟩ := h
    obtain ⟨a, F, ws0, rfl, ha, na, hF, nF, hW⟩ := crowd_parts hC
    have nd := sc_law_meet.nd
    have pne : ∀ {S : Addr} {G : Hp}, Same H G → G S = none → S ≠ p := fun {S G} e z q => by
      rw [q] at z
      have := e p u hp
      rw [z] at this
      cases this
    have hmn : 1 ≤ n ∧ n ≤ 4 ∧ 1 ≤ m ∧ m ≤ 6 := by
      obtain ⟨_, _, _, z1, z2, z3, z4, _⟩ := hN
      exact ⟨z1, z2, z3, z4⟩
    obtain ⟨hn1, hn4, hm1, hm6⟩ := hmn
    refine ⟨_, (pss_cons (ps_par (i := 5) (j := 6) (by rfl) nd rfl rfl (by decide) rfl rfl (pa_cons (pe_lc (own := [("row", 7)]) (g := (gName 7)) (tt := tYes) (by rfl) nd (pi_list (pe_ix (r := rIxT K) ix_tup (pv 1) pe_int (fun _ _ => rfl))) (blkOk_by (own := [("row", 7)]) (N := N_law_meet) (sc := defScope s_law_meet) (by decide +kernel)) (fun _ _ _ _ _ => (pg_name (i := 7) nd rfl (Or.inl rfl))) (fun _ _ _ _ _ => pts_nil) (fun _ _ _ _ _ => (pe_callTy (r := rLstOf K) call_lstOf (by rfl) T.n_list (by decide +kernel) (pa_cons (pv 7) pa_nil)))) (pa_cons (pe_ix (r := rIxT K) ix_tup (pv 1) pe_int (fun _ _ => rfl)) pa_nil)) (by rfl))
      (pss_cons (ps_par (i := 8) (j := 9) (by rfl) nd rfl rfl (by decide) rfl rfl (pa_cons (pe_ix (r := rIxL K) ix_list (pe_ix (r := rIxL K) ix_list (pv 5) (pv 2) (fun _ _ => rfl)) (pv 3) (fun _ _ => rfl)) (pa_cons (pe_ix (r := rIxL K) ix_list (pe_ix (r := rIxL K) ix_list (pv 5) (pv 2) (fun _ _ => rfl)) (pv 4) (fun _ _ => rfl)) pa_nil)) (by rfl))
      (pss_cons (ps_asg (pe_lc (own := [("k", 10), ("number", 11)]) (g := (gTup K 2 (gCons (gName 10) (gCons (gName 11) gNil)))) (by rfl) nd (pi_enum (by rfl) T.n_enumerate (pa_cons (pe_ix (r := rIxL K) ix_list (pv 5) (pv 2) (fun _ _ => rfl)) pa_nil)) (blkOk_by (own := [("k", 10), ("number", 11)]) (N := N_law_meet) (sc := defScope s_law_meet) (by decide +kernel)) (fun _ _ _ _ _ => (pg_tup rfl (pgs_cons (pg_name (i := 10) nd rfl (Or.inl rfl)) (pgs_cons (pg_name (i := 11) nd rfl (Or.inl rfl)) pgs_nil)))) (fun _ _ _ _ _ => (pts_one (pt_cmpR (r := rIn K true) op_notIn_seq (pv 10) (pe_tup (pa_cons (pv 3) (pa_cons (pv 4) pa_nil))) (by rfl)))) (fun _ _ _ _ _ => (pv 11))) (pg_sub (pv 5) (pv 2) set_list))
      (pss_cons (ps_expr (pe_bm PySem.F.plainAttrs_list PySem.F.slot_list_append PySem.F.type_list_append mt_append (pe_ix (r := rIxL K) ix_list (pv 5) (pv 2) (fun _ _ => rfl)) (pa_cons (pe_ix (r := rIxT K) ix_tup (pe_ix (r := rIxT K) ix_tup (pe_ix (r := rIxT K) ix_tup (pe_ix (r := rIxT K) ix_tup (pv 0) (pv 2) (fun _ _ => rfl)) pe_int (fun _ _ => rfl)) (pv 8) (fun _ _ => rfl)) (pv 9) (fun _ _ => rfl)) pa_nil)))
      (pss_cons (ps_if (pt_cmpR op_lt (pe_op op_add (pv 2) pe_int) (pe_callB (r := rLenS K) call_lenS (by rfl) T.n_len (by decide +kernel) (pa_cons (pv 0) pa_nil)) (nomark _)) (pss_one (ps_expr (pe_bm PySem.F.plainAttrs_list PySem.F.slot_list_append PySem.F.type_list_append mt_append (pe_ix (r := rIxL K) ix_list (pv 5) (pe_op op_add (pv 2) pe_int) (fun _ _ => rfl)) (pa_cons (pe_ix (r := rIxT K) ix_tup (pe_ix (r := rIxT K) ix_tup (pe_ix (r := rIxT K) ix_tup (pe_ix (r := rIxT K) ix_tup (pv 0) (pv 2) (fun _ _ => rfl)) pe_int (fun _ _ => rfl)) (pv 8) (fun _ _ => rfl)) (pv 9) (fun _ _ => rfl)) pa_nil)))) (pss_one (ps_set (i := 6) nd rfl (Or.inl rfl) (pe_op op_add (pv 6) pe_int))))
      (pss_one (ps_ret (pe_tup (pa_cons (pv 5) (pa_cons (pv 6) pa_nil)))))))))), ?_⟩
    walk_at "op"
    walk_at "st"
    refine ⟨⟨_, SqL.of hF⟩, fun D' hD' => ?_⟩
    have hDp := pne (Same.refl H) hD'
    refine lI walk_list (fun j H2 => Same H H2 ∧ ∃ ws, LL H2 p D' ws (fl.take j) ∧ (∀ (i1 i2 : Nat) (b : Addr), ws[i1]? = some (V.ref b) → ws[i2]? = some (V.ref b) → i1 = i2) ∧ (∀ (i : Nat) (b : Addr), ws[i]? = some (V.ref b) → H b = none))
      ⟨same_new hD', [], LL.nil upd_same, fun i1 i2 b e => (by cases e), fun i b e => (by cases e)⟩ (fun j H2 _ ⟨e, _⟩ => SqL.of (e _ _ hF)) ?_ ?_
    · rintro j x H2 _ hj ⟨sm, ws, hLL, inj, fresh⟩ ⟨rfl, hxj⟩
      obtain ⟨e, he, hde⟩ := hW.at hxj
      rw [List.getElem?_map] at he
      cases er : fl[j]? with
      | none => rw [er] at he; cases he
      | some c =>
        rw [er] at he
        cases he
        obtain ⟨b, rfl, hb, _⟩ := rowL_parts hde
        walk_at "op"
        refine ⟨rfl, ?_⟩
        walk_at "st"
        refine ⟨b, _, rfl, .inl (SqL.of (sm _ _ hb)), fun l hl => ?_⟩
        have hlH := sameFree sm hl
        have nlD : l ≠ D' := fun z => by rw [z, hLL.at_] at hl; cases hl
        have hLL2 := hLL.same (same_new (o := .lst (c.map V.int)) hl)
        have wl : ws.length = j := by
          have := (List.getElem?_eq_some_iff.mp er).1
          rw [hLL.len, List.length_take]
          omega
        have hj4 : j < fl.length := (List.getElem?_eq_some_iff.mp er).1
        have old : ∀ (i : Nat) b, ws[i]? = some (V.ref b) → b ≠ l := fun i b e z => by
          obtain ⟨b', e1, e2, _⟩ := hLL.row i ((fl.take j)[i]'(by rw [← hLL.len]; exact (List.getElem?_eq_some_iff.mp e).1)) (List.getElem?_eq_getElem _)
          rw [e] at e1
          cases e1
          subst z
          rw [hl] at e2
          cases e2
        refine ⟨ws, hLL2.at_, small1000 (by omega), sameOff (sm.trans (same_new hl)) hD', ws ++ [.ref l], ?_, fun i1 i2 b e1 e2 => ?_, fun i b e => ?_⟩
        · have e9 : fl.take (j + 1) = fl.take j ++ [c] := by
            rw [List.take_add_one, er]
            rfl
          rw [e9]
          exact hLL2.snoc upd_same nlD (pne sm hl)
        · have cs : ∀ i, (ws ++ [V.ref l])[i]? = some (V.ref b) → (ws[i]? = some (V.ref b)) ∨ (i = ws.length ∧ b = l) := fun i e => by
            by_cases hi : i < ws.length
            · rw [List.getElem?_append_left hi] at e
              exact .inl e
            · rw [List.getElem?_append_right (by omega)] at e
              cases z : i - ws.length with
              | zero =>
                rw [z] at e
                cases e
                exact .inr ⟨by omega, rfl⟩
              | succ w => rw [z] at e; cases e
          rcases cs i1 e1 with q1 | ⟨q1, q2⟩
          · rcases cs i2 e2 with r1 | ⟨r1, r2⟩
            · exact inj i1 i2 b q1 r1
            · exact absurd r2 (old i1 b q1)
          · rcases cs i2 e2 with r1 | ⟨r1, r2⟩
            · exact absurd q2 (old i2 b r1)
            · rw [q1, r1]
        · by_cases hi : i < ws.length
          · rw [List.getElem?_append_left hi] at e
            exact fresh i b e
          · rw [List.getElem?_append_right (by omega)] at e
            cases z : i - ws.length with
            | zero =>
              rw [z] at e
              cases e
              exact hlH
            | succ w => rw [z] at e; cases e
    · rintro H2 ⟨sm, ws, hLL, inj, fresh⟩
      have ewl : ws0.length = fl.length := by rw [hW.1, List.length_map]
      rw [ewl, List.take_length] at hLL
      have hfl' : fn < fl.length := by omega
      obtain ⟨E0, hw0, hE0, nE0D, nE0p⟩ := hLL.row fn fl[fn] (List.getElem?_eq_getElem hfl')
      generalize hc : fl[fn] = c at hE0
      have hcm : c ∈ fl := by rw [← hc]; exact List.getElem_mem _
      have hcl : (lensOf fl).getD fn 0 = c.length := by
        unfold lensOf
        rw [List.getD_eq_getElem?_getD, List.getElem?_map, List.getElem?_eq_getElem hfl', hc]
        rfl
      have hgd : ∀ j, j < c.length → c[j]? = some (c.getD j 0) := fun j hj => by
        rw [List.getD_eq_getElem?_getD, List.getElem?_eq_getElem hj]
        rfl
      have hcv : ∀ j, j < c.length → (c.map V.int)[j]? = some (.int (c.getD j 0)) := fun j hj => by
        rw [List.getElem?_map, hgd j hj]
        rfl
      have hc100 : c.length ≤ 100 := h100 _ (List.mem_map_of_mem hcm)
      walk_at "op"
      walk_at "st"
      refine ⟨_, _, _, _, rfl, rfl, SqT.of (sm _ _ ha), atI_nat (j := 1) rfl, ?_⟩
      walk_at "st"
      refine ⟨_, _, _, _, rfl, rfl, SqL.of hLL.at_, atI_nat hw0, ?_⟩
      walk_at "st"
      refine ⟨_, _, _, _, rfl, rfl, SqL.of hE0, atI_nat (hcv one (by omega)), ?_⟩
      walk_at "st"
      refine ⟨_, _, _, _, rfl, rfl, SqL.of hLL.at_, atI_nat hw0, ?_⟩
      walk_at "st"
      refine ⟨_, _, _, _, rfl, rfl, SqL.of hE0, atI_nat (hcv other (by omega)), ?_⟩
      walk_at "st"
      refine ⟨_, _, _, _, rfl, rfl, SqL.of hLL.at_, atI_nat hw0, ?_⟩
      refine ⟨E0, _, rfl, SqL.of hE0, fun G hG => ?_⟩
      have nDG : D' ≠ G := ne_of_none hLL.at_ hG
      have hGH := sameFree sm hG
      have hGp := pne sm hG
      have nwG : ∀ (i : Nat) b, ws[i]? = some (V.ref b) → b ≠ G := fun i b e => by
        obtain ⟨b', e1, e2, _⟩ := hLL.row i (fl[i]'(by rw [← hLL.len]; exact (List.getElem?_eq_some_iff.mp e).1)) (List.getElem?_eq_getElem _)
        rw [e] at e1
        cases e1
        exact ne_of_none e2 hG
      have nEG : E0 ≠ G := nwG _ _ hw0
      refine lI walk_enum (fun j H3 => Same H H3 ∧ Same H2 H3 ∧ H3 G = some (.lst ((keepN c one other j).map V.int)))
        ⟨sm.trans (same_new hG), same_new hG, upd_same⟩ (fun j H3 _ ⟨_, e, _⟩ => SqL.of (e _ _ hE0)) ?_ ?_
      · rintro j v H3 _ hj ⟨s1, s2, h3⟩ ⟨t, x, y, rfl, ht, rfl, hxj, hyj⟩
        rw [List.length_map] at hj
        dsimp only at hxj hyj
        cases hxj
        rw [hcv j hj] at hyj
        cases hyj
        have nGt : G ≠ t := ne_of_none h3 ht
        walk_at "op"
        refine ⟨t, _, rfl, SqT.of upd_same, rfl, _, _, rfl, _, _, rfl, rfl, ?_⟩
        refine ⟨rfl, ?_⟩
        walk_at "st"
        refine ⟨by show 2 ≤ sizeLine; decide, fun r hr => ?_⟩
        have nGr : G ≠ r := ne_of_none (by rw [upd_ne nGt]; exact h3) hr
        have s3 : Same H3 (upd (upd H3 t (.tup [.int j, .int (c.getD j 0)])) r (.tup [.int one, .int other])) := (same_new ht).trans (same_new hr)
        refine ⟨r, _, rfl, .inr (SqT.of upd_same), rfl, rfl, ?_⟩
        rw [if_pos rfl, inV_two]
        refine ⟨_, rfl, ?_⟩
        cases hb : (j == one || j == other) with
        | true =>
          refine iteF ⟨s1.trans s3, s2.trans s3, ?_⟩
          rw [s3 _ _ h3, keepN_succ, if_pos hb, List.append_nil]
        | false =>
          refine iteT ?_
          walk_at "st"
          have kl : (keepN c one other j).length ≤ 100 := by
            have := keepN_lenN c ho1 j
            omega
          refine ⟨_, s3 _ _ h3, by rw [List.length_map]; exact small1000 (by omega), sameOff (s1.trans s3) hGH, sameOff (s2.trans s3) hG, ?_⟩
          rw [upd_same, keepN_succ, if_neg (by rw [hb]; exact Bool.false_ne_true), List.map_append]
          rfl
      · rintro H3 ⟨s1, s2, h3⟩
        rw [List.length_map] at h3
        have hLL3 := hLL.same s2
        have hLL4 := hLL3.set (f := fn) h3 nDG.symm hGp
        walk_at "op"
        walk_at "st"
        refine ⟨_, _, _, _, rfl, rfl, hLL3.at_, ixN_of (by rw [hLL.len]; omega), ?_⟩
        have hwl : fn < ws.length := by rw [hLL.len]; omega
        have w4 : (ws.set fn (V.ref G))[fn]? = some (V.ref G) := by rw [List.getElem?_set_self hwl]
        walk_at "st"
        refine ⟨D', _, _, _, rfl, rfl, SqL.of hLL4.at_, atI_nat w4, ?_⟩
        have anyq : ∀ q u', H q = some u' → ∀ (i : Nat) (b : Addr), (ws.set fn (V.ref G))[i]? = some (V.ref b) → b ≠ q := fun q u' hq i b e => by
          by_cases hj : fn = i
          · subst hj
            rw [w4] at e
            cases e
            exact ne_nq hGH hq
          · rw [List.getElem?_set_ne hj] at e
            exact ne_nq (fresh i b e) hq
        have hG4 : upd H3 D' (.lst (ws.set fn (V.ref G))) G = some (.lst ((keepN c one other c.length).map V.int)) := by rw [upd_ne nDG.symm]; exact h3
        have s4 : Same H (upd H3 D' (.lst (ws.set fn (V.ref G)))) := sameOff s1 hD'
        have hg : ∀ j, j < c.length → 0 ≤ c.getD j 0 ∧ c.getD j 0 < (m : Int) := fun j hj => hin c hcm _ (List.mem_of_getElem? (hgd j hj))
        obtain ⟨ah, af, t0, u0, ra, rb, hs, ss, us, ya, yb, st, up, rfl, g1, g3, g3', g4, g5, g6, g7, g8, st0, st1, g9, g10, g11, g12, up0, up1, hst, hup⟩ := house_cells2 hD hN hf (hg one (by omega)).1 (hg one (by omega)).2 (hg other (by omega)).1 (hg other (by omega)).2
        refine ⟨.inl ⟨rfl, _, SqL.of hG4⟩, ?_⟩
        walk_at "st"
        refine ⟨_, _, _, _, rfl, rfl, SqT.of (s4 _ _ g1), atI_nat g3', ?_⟩
        walk_at "st"
        refine ⟨_, _, _, _, rfl, rfl, SqT.of (s4 _ _ g4), atI_nat (j := 0) rfl, ?_⟩
        walk_at "st"
        refine ⟨_, _, _, _, rfl, rfl, SqT.of (s4 _ _ g5), atI_of (hg one (by omega)).1 g6, ?_⟩
        walk_at "st"
        refine ⟨_, _, _, _, rfl, rfl, SqT.of (s4 _ _ g7), atI_of (hg other (by omega)).1 g8, ?_⟩
        walk_at "st"
        have kl : (keepN c one other c.length).length + 2 = c.length := by
          have := keepN_lenN c ho1 c.length
          rw [if_pos (by omega), if_pos (by omega)] at this
          exact this
        refine ⟨G, _, _, rfl, rfl, hG4, by rw [List.length_map]; exact small1000 (by omega), ?_⟩
        have inj4 : ∀ j, (ws.set fn (V.ref G))[j]? = some (V.ref G) → j = fn := fun j e => by
          by_cases hj : fn = j
          · exact hj.symm
          · rw [List.getElem?_set_ne hj] at e
            exact absurd rfl (nwG j G e)
        have hLL5 := hLL4.updRow (c := keepN c one other c.length ++ [st]) w4 inj4
        rw [show (keepN c one other c.length).map V.int ++ [V.int st] = (keepN c one other c.length ++ [st]).map V.int from (by rw [List.map_append]; rfl)]
        have s5 : Same H (upd (upd H3 D' (.lst (ws.set fn (V.ref G)))) G (.lst ((keepN c one other c.length ++ [st]).map V.int))) := sameOff s4 hGH
        walk_at "op"
        walk_at "st"
        refine ⟨ah, hs, rfl, .inr (SqT.of (s5 _ _ g1)), ?_⟩
        walk_at "st"
        have hk1 : ∀ e ∈ keepN c one other c.length ++ [st], 0 ≤ e ∧ e < (m : Int) := fun e he => by
          rcases List.mem_append.mp he with he | he
          · exact hin c hcm e (keepN_in (Nat.le_refl _) he)
          · simp only [List.mem_cons, List.not_mem_nil, or_false] at he
            subst he
            exact ⟨st0, st1⟩
        have hk0 : ∀ e ∈ keepN c one other c.length, 0 ≤ e ∧ e < (m : Int) := fun e he => hk1 e (List.mem_append_left _ he)
        have hk1l : (keepN c one other c.length ++ [st]).length = c.length - 1 := by
          rw [List.length_append]
          show _ + 1 = _
          omega
        have hin5 := (RowsIn.set (i := fn) hin hk0).set (i := fn) hk1
        have hl5 : lensOf ((fl.set fn (keepN c one other c.length)).set fn (keepN c one other c.length ++ [st])) = (lensOf fl).set fn (c.length - 1) := by
          rw [lens_set, lens_set, List.set_set, hk1l]
        by_cases hlast : fn + 1 < n
        · rw [g3, decide_eq_true (show (fn : Int) + 1 < (n : Int) by omega)]
          refine iteT ?_
          walk_at "st"
          have hf1 : fn + 1 < fl.length := by omega
          have hw1 : fn + 1 < ws.length := by rw [hLL.len]; omega
          obtain ⟨E1, hwE, hE1, nE1D, nE1p⟩ := hLL5.row (fn + 1) fl[fn + 1] (by rw [List.getElem?_set_ne (by omega), List.getElem?_set_ne (by omega), List.getElem?_eq_getElem hf1])
          have hwE0 : ws[fn + 1]? = some (V.ref E1) := by rw [List.getElem?_set_ne (by omega)] at hwE; exact hwE
          generalize hc2 : fl[fn + 1] = c2 at hE1
          have hc2m : c2 ∈ fl := by rw [← hc2]; exact List.getElem_mem _
          have hc2l : (lensOf fl).getD (fn + 1) 0 = c2.length := by
            unfold lensOf
            rw [List.getD_eq_getElem?_getD, List.getElem?_map, List.getElem?_eq_getElem hf1, hc2]
            rfl
          have hc2100 : c2.length ≤ 100 := h100 _ (List.mem_map_of_mem hc2m)
          refine ⟨_, _, _, _, rfl, rfl, SqL.of hLL5.at_, atI_of (by omega) (by rw [show ((fn : Int) + 1).toNat = fn + 1 from by omega]; exact hwE), ?_⟩
          refine ⟨.inl ⟨rfl, _, SqL.of hE1⟩, ?_⟩
          walk_at "st"
          refine ⟨_, _, _, _, rfl, rfl, SqT.of (s5 _ _ g1), atI_nat g3', ?_⟩
          walk_at "st"
          refine ⟨_, _, _, _, rfl, rfl, SqT.of (s5 _ _ g4), atI_nat (j := 1) rfl, ?_⟩
          walk_at "st"
          refine ⟨_, _, _, _, rfl, rfl, SqT.of (s5 _ _ g9), atI_of (hg one (by omega)).1 g10, ?_⟩
          walk_at "st"
          refine ⟨_, _, _, _, rfl, rfl, SqT.of (s5 _ _ g11), atI_of (hg other (by omega)).1 g12, ?_⟩
          walk_at "st"
          refine ⟨E1, _, _, rfl, rfl, hE1, by rw [List.length_map]; exact small1000 (by omega), ?_⟩
          have inj5 : ∀ j, (ws.set fn (V.ref G))[j]? = some (V.ref E1) → j = fn + 1 := fun j e => by
            by_cases hj : fn = j
            · subst hj
              rw [w4] at e
              cases e
              exact absurd rfl (nwG _ _ hwE0)
            · rw [List.getElem?_set_ne hj] at e
              exact inj j (fn + 1) E1 e hwE0
          have hLL6 := hLL5.updRow (c := c2 ++ [up]) hwE inj5
          rw [show c2.map V.int ++ [V.int up] = (c2 ++ [up]).map V.int from (by rw [List.map_append]; rfl)]
          have s6 := sameOff (o := .lst ((c2 ++ [up]).map V.int)) s5 (fresh _ _ hwE0)
          have hk2 : ∀ e ∈ c2 ++ [up], 0 ≤ e ∧ e < (m : Int) := fun e he => by
            rcases List.mem_append.mp he with he | he
            · exact hin c2 hc2m e he
            · simp only [List.mem_cons, List.not_mem_nil, or_false] at he
              subst he
              exact ⟨up0, up1⟩
          walk_at "op"
          walk_at "st"
          refine ⟨by show 2 ≤ sizeLine; decide, fun t ht => ?_⟩
          refine k _ _ _ _ (Dat.new ht (pne s6 ht) (Dats.cons (hLL6.dat hDp) (Dats.cons (.int _) Dats.nil))) (s6.trans (same_new ht)) ⟨c, by rw [List.getElem?_eq_getElem hfl', hc], .inl ⟨hlast, rfl, c2, by rw [List.getElem?_eq_getElem hf1, hc2], by rw [List.set_set, hst, hup]⟩⟩ (fun q u' hq => Dat.new ht (ne_nq (sameFree s6 ht) hq) (Dats.cons ((hLL6.at (anyq q u' hq)).dat (ne_nq hD' hq)) (Dats.cons (.int _) Dats.nil))) ?_ (hin5.set hk2) (by rw [List.length_set, List.length_set, List.length_set]; exact hln) hout ?_
          · rw [lens_set, hl5]
            unfold stepL
            rw [hcl, hc2l, List.length_append]
            rfl
          · have := fl_step (fs := fs) (c2 := c2) hln hf (show fl[fn]? = some c by rw [List.getElem?_eq_getElem hfl', hc]) ho1 (by omega) (by omega) (hin c hcm) hout (fun _ => by rw [List.getElem?_eq_getElem hf1, hc2])
            rw [if_pos hlast, ← hst, ← hup] at this
            exact ⟨c, by rw [List.getElem?_eq_getElem hfl', hc], this⟩
        · rw [g3, decide_eq_false (show ¬ (fn : Int) + 1 < (n : Int) by omega)]
          refine iteF ?_
          walk_at "st"
          refine ⟨by show 2 ≤ sizeLine; decide, fun t ht => ?_⟩
          refine k _ _ _ _ (Dat.new ht (pne s5 ht) (Dats.cons (hLL5.dat hDp) (Dats.cons (.int _) Dats.nil))) (s5.trans (same_new ht)) ⟨c, by rw [List.getElem?_eq_getElem hfl', hc], .inr ⟨hlast, rfl, by rw [List.set_set, hst]⟩⟩ (fun q u' hq => Dat.new ht (ne_nq (sameFree s5 ht) hq) (Dats.cons ((hLL5.at (anyq q u' hq)).dat (ne_nq hD' hq)) (Dats.cons (.int _) Dats.nil))) ?_ hin5 (by rw [List.length_set, List.length_set]; exact hln) (by omega) ?_
          · rw [hl5]
            unfold stepL
            rw [hcl]
            exact (List.set_eq_of_length_le (by rw [List.length_set]; unfold lensOf; rw [List.length_map]; omega)).symm
          · have := fl_step (fs := fs) (c2 := []) hln hf (show fl[fn]? = some c by rw [List.getElem?_eq_getElem hfl', hc]) ho1 (by omega) (by omega) (hin c hcm) hout (fun q => absurd q hlast)
            rw [if_neg hlast, ← hst] at this
            exact ⟨c, by rw [List.getElem?_eq_getElem hfl', hc], this⟩

end
end Fm
end FMSN
section FSHN
set_option Elab.async false
set_option linter.all false
set_option maxRecDepth 100000
set_option maxHeartbeats 4000000
local macro_rules | `(tactic| walk_at "ne") => `(tactic| first | assumption | (apply Ne.symm; assumption) | exact L2.ne_of_none (by assumption) (by assumption) | exact Ne.symm (L2.ne_of_none (by assumption) (by assumption)))
local macro_rules | `(tactic| walk_at "hl") => `(tactic| first | assumption | exact L2.upd_same | (refine Eq.trans (L2.upd_ne (by walk_at "ne")) ?_; walk_at "hl"))
local macro_rules | `(tactic| walk_at "sd") => `(tactic| first | (with_reducible show (_ : Int) < _; omega) | (with_reducible show (_ : Int) ≤ _; omega) | assumption | decide | exact ⟨by assumption, by assumption⟩ | exact ⟨by decide, by decide⟩ | exact Or.inr ⟨by decide, by decide⟩ | exact Or.inl ⟨by omega, by omega⟩ | rfl)
local macro_rules | `(tactic| walk_at "st1") => `(tactic| first
  | refine ⟨_, rfl, ?_⟩
  | refine ⟨_, _, rfl, rfl, ?_⟩
  | refine ⟨_, _, rfl, ?_⟩
  | (refine ⟨_, _, _, _, rfl, rfl, L2.SqL.of (by walk_at "hl"), rfl, ?_⟩)
  | (refine ⟨_, _, _, _, rfl, rfl, L2.SqT.of (by walk_at "hl"), rfl, ?_⟩)
  | (refine ⟨_, _, _, _, rfl, rfl, (by walk_at "hl"), rfl, ?_⟩)
  | (refine And.intro (by walk_at "sd") ?_)
  )
local macro_rules | `(tactic| walk_at "st") => `(tactic| repeat walk_at "st1")
local macro_rules | `(tactic| walk_at "op") => `(tactic| try dsimp only [L2.tSeq, L2.tAsg, L2.tOp, L2.tVar, L2.tC, L2.gSub, L2.rI, L2.rI0, L2.rIxL, L2.rIxT, L2.rSetL, L2.tIfS, L2.tTest, L2.tRet, L2.gName, L2.tNext, L2.tAnd, L2.tOr, L2.tNot, L2.tAndV, L2.tOrV, L2.tNotV, L2.tB, L2.tCB, L2.tCons, L2.tNil, L2.tCall, L2.tTup, L2.tLst, L2.tChain, L2.tUn, L2.tPar, L2.tDrop, L2.tIf, L2.tBM, L2.tBM0, L2.rAppend, L2.rCat, L2.rIsi, L2.rIsiT, L2.gTup, L2.gCons, L2.gNil, Fm.tFor_eq, Fm.tLc_eq, Fm.tLc2_eq, L2.iTup, L2.iList, L2.iRng1, L2.iRng2, L2.tSl, L2.tPart, L2.tNoPart, L2.rSlL, L2.rEq, L2.rNe, L2.rU, L2.rEqD, L2.rNeD, Fm.tRevT, Fm.rLenS, Fm.rTupOf, Fm.rLstOf, L2.tDNewK, L2.tCallS, L2.WE, Fm.wKeep, Fm.rIsK, Fm.rIsKT, List.cons_append, List.nil_append, L2.tYes])
namespace Fm
open PySem PySem.Spec PyProof.Rows L2
section
variable {P : Program} {w : World} {K : PySem.W.Frag} {mg : Str → Option Value} {base : Heap}
/-! ### people of a standing, told one by one -/
def cntR (m : Nat) (r : List Int) : List Int := (List.range m).map fun k => ((r.count ((k : Nat) : Int) : Nat) : Int)
theorem cntR_len (m : Nat) (r : List Int) : (cntR m r).length = m := by unfold cntR; rw [List.length_map, List.length_range]
theorem sum_range (c : Nat → Nat) : ∀ m, ((List.range m).map fun a => ((c a : Nat) : Int)).sum = ((FmC.sumTo m c : Nat) : Int)
  | 0 => rfl
  | m + 1 => by
    rw [List.range_succ, List.map_append, List.sum_append, sum_range c m]
    show _ + (((c m : Nat) : Int) + 0) = ((FmC.sumTo m c + c m : Nat) : Int)
    omega
/-- what a label tells is the end -/
theorem shape_all2 {α : Type} {g : α → PyData} {k : Nat} (h : ∀ x, (g x).canLay0 = true ∧ (g x).depth ≤ k) : ∀ l : List α, PyData.canLayAll0 (l.map g) = true ∧ PyData.depthAll (l.map g) ≤ k
  | [] => by simp [PyData.canLayAll0, PyData.depthAll]
  | x :: l => by
    obtain ⟨h1, h2⟩ := shape_all2 h l
    obtain ⟨q1, q2⟩ := h x
    refine ⟨by simp only [List.map_cons, PyData.canLayAll0, q1, h1, Bool.and_self], ?_⟩
    simp only [List.map_cons, PyData.depthAll]
    omega
theorem shape_tup {ds : List PyData} {k : Nat} (h : PyData.canLayAll0 ds = true ∧ PyData.depthAll ds ≤ k) : (PyData.tuple ds).canLay0 = true ∧ (PyData.tuple ds).depth ≤ k + 1 := by
  refine ⟨by simpa only [PyData.canLay0] using h.1, ?_⟩
  simp only [PyData.depth]
  omega
theorem shape_lst {ds : List PyData} {k : Nat} (h : PyData.canLayAll0 ds = true ∧ PyData.depthAll ds ≤ k) : (PyData.list ds).canLay0 = true ∧ (PyData.list ds).depth ≤ k + 1 := by
  refine ⟨by simpa only [PyData.canLay0] using h.1, ?_⟩
  simp only [PyData.depth]
  omega
theorem shaped_of {d : PyData} {k : Nat} (h : d.canLay0 = true ∧ d.depth ≤ k) (hk : k ≤ 64) : SeqAt.shaped d = true := by
  unfold SeqAt.shaped
  rw [Bool.and_eq_true]
  exact ⟨h.1, decide_eq_true (by omega)⟩
theorem shape_row (r : List Int) : (rowD r).canLay0 = true ∧ (rowD r).depth ≤ 1 := shape_tup (k := 0) ⟨(lay_ints r).1, Nat.le_of_eq (lay_ints r).2⟩
theorem shape_app {a b : List PyData} {k : Nat} (h : PyData.canLayAll0 a = true ∧ PyData.depthAll a ≤ k) (h2 : PyData.canLayAll0 b = true ∧ PyData.depthAll b ≤ k) : PyData.canLayAll0 (a ++ b) = true ∧ PyData.depthAll (a ++ b) ≤ k := by
  induction a with
  | nil => exact h2
  | cons x a ih =>
    simp only [PyData.canLayAll0, PyData.depthAll, Bool.and_eq_true] at h
    obtain ⟨i1, i2⟩ := ih ⟨h.1.2, by omega⟩
    refine ⟨by simp only [List.cons_append, PyData.canLayAll0, h.1.1, i1, Bool.and_self], ?_⟩
    simp only [List.cons_append, PyData.depthAll]
    omega
theorem shape_st (rows : List (List Int)) (out : Int) : (stD rows out).canLay0 = true ∧ (stD rows out).depth ≤ 2 :=
  shape_tup (shape_app (shape_all2 shape_row rows) (by simp [PyData.canLayAll0, PyData.canLay0, PyData.depthAll, PyData.depth]))
theorem same_end {fs : List PyData} {m n : Nat} {A B r1 r2 : List (List Int)} {oA oB o1 o2 : Int} {x : FmC.St} (hN : HouseN m n (.tuple fs)) (hgo : goLt fs m n) (hF : FairH fs m n) (e1 : EndOf fs m n A oA r1 o1) (e2 : EndOf fs m n B oB r2 o2)
    (h1 : FmC.Run n m (goN fs 0) (FmC.outU n (goN fs 1)) x (FmC.stSt n A oA)) (h2 : FmC.Run n m (goN fs 0) (FmC.outU n (goN fs 1)) x (FmC.stSt n B oB)) : r1 = r2 ∧ o1 = o2 := by
  have T := tabs_of hN hgo
  have h := FmC.one_end T.tables (FmC.three_of T hF) (h1.trans e1.run) (h2.trans e2.run) (FmC.st_still fun r hr => ⟨(e1.row r hr).2.1, (e1.row r hr).2.2⟩) (FmC.st_still fun r hr => ⟨(e2.row r hr).2.1, (e2.row r hr).2.2⟩)
  exact FmC.st_inj e1.len e2.len (fun r hr => ⟨(e1.row r hr).1, (e1.row r hr).2.1⟩) (fun r hr => ⟨(e2.row r hr).1, (e2.row r hr).2.1⟩) e1.pos e2.pos h
theorem st_shaped (rows : List (List Int)) (out : Int) : SeqAt.shaped (stD rows out) = true := shaped_of (shape_st rows out) (by decide)
theorem st_eqv (rows : List (List Int)) (out : Int) : PyData.eqv (stD rows out) (stD rows out) = true := SeqAt.eqv_refl _ (shape_st rows out).1
theorem st_dict (rows : List (List Int)) (out : Int) : (stD rows out).hasDict = false := by
  unfold stD
  simp only [PyData.hasDict]
  refine hasDict_all fun d hd => ?_
  rcases List.mem_append.mp hd with hd | hd
  · obtain ⟨r, _, rfl⟩ := List.mem_map.mp hd
    exact (rowD_shaped r).2.1
  · rw [List.mem_singleton.mp hd]
    simp [PyData.hasDict]
theorem st_no (rows : List (List Int)) (out : Int) : noList (stD rows out) = true := noList_of fun d hd => by
  rcases List.mem_append.mp hd with hd | hd
  · obtain ⟨r, _, rfl⟩ := List.mem_map.mp hd
    exact noList_ints _ _
  · rw [List.mem_singleton.mp hd]
    simp [noList]
theorem count_sum (m : Nat) : ∀ {r : List Int}, (∀ e ∈ r, 0 ≤ e ∧ e < (m : Int)) → FmC.sumTo m (fun k => r.count ((k : Nat) : Int)) = r.length
  | [], _ => by
    show FmC.sumTo m (fun _ => 0) = 0
    exact FmC.sumTo_zero m
  | x :: r, h => by
    have ih := count_sum m (r := r) fun e he => h e (List.mem_cons_of_mem _ he)
    obtain ⟨h1, h2⟩ := h x List.mem_cons_self
    have e : ∀ k, k < m → (x :: r).count ((k : Nat) : Int) = r.count ((k : Nat) : Int) + if k = x.toNat then 1 else 0 := fun k _ => by
      rw [List.count_cons]
      congr 1
      by_cases z : k = x.toNat
      · rw [if_pos z, if_pos (by rw [beq_iff_eq]; omega)]
      · rw [if_neg z, if_neg (by rw [beq_iff_eq]; omega)]
    rw [FmC.sumTo_congr' e, FmC.sumTo_add, ih, FmC.sumTo_at (by omega)]
    rfl
theorem cntR_sum {m : Nat} {r : List Int} (h : ∀ e ∈ r, 0 ≤ e ∧ e < (m : Int)) : (cntR m r).sum = ((r.length : Nat) : Int) := by
  unfold cntR
  rw [sum_range (fun k => r.count ((k : Nat) : Int)) m, count_sum m h]
theorem cntR_nn (m : Nat) (r : List Int) : ∀ x ∈ cntR m r, 0 ≤ x := fun x hx => by
  unfold cntR at hx
  obtain ⟨k, _, rfl⟩ := List.mem_map.mp hx
  exact Int.natCast_nonneg _
theorem fl_st {m n : Nat} {fl : List (List Int)} {out : Int} (hl : fl.length = n) (h : RowsIn m fl) : flSt n fl out = FmC.stSt n (fl.map (cntR m)) out := by
  funext g a
  unfold flSt FmC.stSt
  by_cases hg : g < n
  · rw [if_pos hg, if_pos hg]
    have h1 : fl[g]? = some (fl.getD g []) := by
      rw [List.getD_eq_getElem?_getD, List.getElem?_eq_getElem (by omega)]
      rfl
    have hr := h _ (List.mem_of_getElem? h1)
    have h2 : (fl.map (cntR m)).getD g [] = cntR m (fl.getD g []) := by
      rw [List.getD_eq_getElem?_getD (l := fl.map (cntR m)), List.getElem?_map, h1]
      rfl
    rw [h2]
    unfold FmC.cnt
    by_cases ha : a < m
    · have h3 : (cntR m (fl.getD g []))[a]? = some (((fl.getD g []).count ((a : Nat) : Int) : Nat) : Int) := by
        unfold cntR
        rw [List.getElem?_map, List.getElem?_range ha]
        rfl
      rw [List.getD_eq_getElem?_getD (l := cntR m (fl.getD g [])), h3]
      exact (Int.toNat_natCast _).symm
    · rw [List.getD_eq_getElem?_getD (l := cntR m (fl.getD g [])), List.getElem?_eq_none (by rw [cntR_len]; omega)]
      show _ = 0
      refine List.count_eq_zero.mpr fun q => ?_
      have := hr _ q
      omega
  · rw [if_neg hg, if_neg hg]
theorem rowOf_count (c : List Int) (a : Nat) : ∀ k, (rowOf c k).count ((a : Nat) : Int) = if a < k then FmC.cnt c a else 0
  | 0 => rfl
  | k + 1 => by
    rw [rowOf_succ, List.count_append, rowOf_count c a k, List.count_replicate]
    by_cases z : a = k
    · subst z
      rw [if_neg (Nat.lt_irrefl _), if_pos (by rw [beq_iff_eq]), if_pos (Nat.lt_succ_self _)]
      unfold FmC.cnt
      omega
    · by_cases y : a < k
      · rw [if_pos y, if_neg (show ¬ (((k : Nat) : Int) == ((a : Nat) : Int)) = true by rw [beq_iff_eq]; omega), if_pos (by omega)]
        rfl
      · rw [if_neg y, if_neg (show ¬ (((k : Nat) : Int) == ((a : Nat) : Int)) = true by rw [beq_iff_eq]; omega), if_neg (by omega)]
theorem crowd_st {m n : Nat} {rows : List (List Int)} {out : Int} (hl : rows.length = n) (ok : StOk m rows out) : flSt n (rows.map fun c => rowOf c m) out = FmC.stSt n rows out := by
  funext g a
  unfold flSt FmC.stSt
  by_cases hg : g < n
  · rw [if_pos hg, if_pos hg]
    have h1 : rows[g]? = some (rows.getD g []) := rows_at (by omega)
    have h2 : (rows.map fun c => rowOf c m).getD g [] = rowOf (rows.getD g []) m := by
      rw [List.getD_eq_getElem?_getD (l := rows.map fun c => rowOf c m), List.getElem?_map, h1]
      rfl
    rw [h2, rowOf_count]
    by_cases ha : a < m
    · rw [if_pos ha]
    · rw [if_neg ha]
      have h3 := ok.len _ (List.mem_of_getElem? h1)
      unfold FmC.cnt
      rw [List.getD_eq_getElem?_getD (l := rows.getD g []), List.getElem?_eq_none (by omega)]
      rfl
  · rw [if_neg hg, if_neg hg]
/-- people who met in a drawn order -/
theorem crowd_end {fs : List PyData} {m n : Nat} {rows fl : List (List Int)} {out o : Int} (hl : rows.length = n) (ok : StOk m rows out) (hfl : fl.length = n) (hin : RowsIn m fl) (ho : 0 ≤ o) (h1 : ∀ l ∈ lensOf fl, l ≤ 1)
    (hr : FmC.Run n m (goN fs 0) (FmC.outU n (goN fs 1)) (flSt n (rows.map fun c => rowOf c m) out) (flSt n fl o)) : EndOf fs m n rows out (fl.map (cntR m)) o := by
  refine ⟨by rw [List.length_map, hfl], fun r hr => ?_, ho, ?_⟩
  · obtain ⟨x, hx, rfl⟩ := List.mem_map.mp hr
    refine ⟨cntR_len m x, cntR_nn m x, ?_⟩
    rw [cntR_sum (hin x hx)]
    have := h1 x.length (List.mem_map_of_mem hx)
    omega
  · rw [crowd_st hl ok, fl_st hfl hin] at hr
    exact hr
theorem rows_in {m : Nat} (rows : List (List Int)) : RowsIn m (rows.map fun c => rowOf c m) := fun r hr e he => by
  obtain ⟨c, _, rfl⟩ := List.mem_map.mp hr
  exact rowOf_in c m e he
theorem cast_sum (l : List Nat) : ((l.sum : Nat) : Int) = (l.map fun x : Nat => (x : Int)).sum := by
  induction l with
  | nil => rfl
  | cons x r ih => rw [List.sum_cons, List.map_cons, List.sum_cons, ← ih]; omega
theorem lens_sum {m : Nat} {rows : List (List Int)} {out : Int} (ok : StOk m rows out) : (((lensOf (rows.map fun c => rowOf c m)).sum : Nat) : Int) = (rows.map List.sum).sum := by
  rw [cast_sum, lens_cast ok]
theorem rest_pos {m : Nat} {fl : List (List Int)} (hin : RowsIn m fl) : (fl.map (cntR m)).map (fun r => decide (r.sum > 0)) = posB (lensOf fl) := by
  unfold posB lensOf
  rw [List.map_map, List.map_map]
  refine List.map_congr_left fun r hr => ?_
  show decide ((cntR m r).sum > 0) = decide (0 < r.length)
  rw [cntR_sum (hin r hr)]
  congr 1
  exact propext ⟨fun z => by omega, fun z => by omega⟩
theorem run_end {fs : List PyData} {m n : Nat} {rows r : List (List Int)} {out o : Int} (hr : FmC.Run n m (goN fs 0) (FmC.outU n (goN fs 1)) (FmC.stSt n rows out) (FmC.stSt n r o)) (hl : r.length = n) (ok : StOk m r o) (h1 : ∀ c ∈ r, c.sum ≤ 1) : EndOf fs m n rows out r o :=
  ⟨hl, fun c hc => ⟨ok.len c hc, ok.pos c hc, h1 c hc⟩, ok.out, hr⟩
theorem EndOf.ok {fs : List PyData} {m n : Nat} {rows r : List (List Int)} {out o : Int} (h : EndOf fs m n rows out r o) : StOk m r o := ⟨fun x hx => (h.row x hx).1, fun x hx => (h.row x hx).2.1, h.pos⟩
theorem run_big {fs : List PyData} {m n : Nat} {rows r : List (List Int)} {out o : Int} (B : FmC.Tabs n m (goN fs 0) (goN fs 1)) (hr : FmC.Run n m (goN fs 0) (FmC.outU n (goN fs 1)) (FmC.stSt n rows out) (FmC.stSt n r o)) (h1 : rows.length = n) (k1 : StOk m rows out) (h2 : r.length = n) (k2 : StOk m r o) : (r.map List.sum).sum + o = (rows.map List.sum).sum + out := by
  have e1 := FmC.heads_st h1 (fun c hc => ⟨k1.len c hc, k1.pos c hc⟩) k1.out
  have e2 := FmC.heads_st h2 (fun c hc => ⟨k2.len c hc, k2.pos c hc⟩) k2.out
  have := FmC.heads_run B hr
  omega
theorem sum_le_tot : ∀ {rows : List (List Int)}, (∀ c ∈ rows, ∀ x ∈ c, 0 ≤ x) → ∀ c ∈ rows, c.sum ≤ (rows.map List.sum).sum := fun {rows} h c hc => le_sum (fun x hx => by
  obtain ⟨d, hd, rfl⟩ := List.mem_map.mp hx
  exact sum_pos (h d hd)) (List.mem_map_of_mem hc)
theorem ne_of_none' {H : Hp} {b D : Addr} {u : HO} (hb : H b = none) (h : H D = some u) : b ≠ D := fun z => by
  rw [z, h] at hb
  cases hb

end
end Fm
end FSHN
section FFmBmK
set_option Elab.async false
set_option linter.all false
set_option maxRecDepth 100000
set_option maxHeartbeats 4000000
namespace Fm
open PySem PySem.Spec PySem.Calls PyProof.Rows L2
/-- a method of a list within a comprehension: its place's K told -/
theorem pe_bmK {X : Cx} {K : PySem.W.Frag} {o e : Expr} {es : List Expr} {to : TE} {t : TA} {name : Str} {apos cpos : Pos} {T id : String} {r : V → List V → Hp → VK → Prop} (eK : X.K = K) (pa : PlainAttrs T) (slot : Slot T name id) (hty : typeOf (.builtin id) = pure (.type "method_descriptor")) (hm : MtR X id r) (ho : PE X o to) (ha : PA X (e :: es) t)
    (hbase : attributeBase o name X.env (eval o X.env) = eval o X.env := by rfl)
    (hfew : ((backTo cpos (starEach (e :: es) X.env)).all (fun x => !x.1) && (backToKw cpos (keywordEach [] X.env)).all (fun x => x.1.isSome)
      && decide ((e :: es).length + ([] : List Keyword).length + (if ([] : List Keyword).isEmpty then 0 else 1) < 30)) = true := by rfl)
    (hline : (apos.endLine == cpos.line) = true := by rfl) (hs : starEach (e :: es) X.env = (false, eval e X.env) :: starEach es X.env := by rfl) (hplain : (backTo cpos (starEach es X.env)).any (·.1) = false := by rfl) :
    PE X (.Call (.Attribute o name apos) (e :: es) [] cpos) (tBM K T r to t) := by
  subst eK
  exact pe_bm pa slot hty hm ho ha hbase hfew hline hs hplain
/-- xs.count(k), whole numbers -/
def rCountI (K : PySem.W.Frag) : V → List V → Hp → VK → Prop := fun x xs H Q => ∃ (a : Addr) (ns : List Int) (k : Int), x = V.ref a ∧ xs = [.int k] ∧ SqL K H a (ns.map V.int) ∧ Q (.int (ns.count k : Nat)) H
theorem mt_countI {X : Cx} : MtR X "list.count" (rCountI X.K) := by
  intro pins s σ H x xs v us Q I rx rxs h
  obtain ⟨a, ns, k, rfl, rfl, hs, q⟩ := h
  cases rx
  obtain ⟨u, rfl, ru⟩ := rxs.one
  obtain ⟨t, rfl⟩ := ru
  obtain ⟨its, rv, hl, _⟩ := I.list hs
  exact count_list_ints hl.isList rv.ints ⟨.int (ns.count k : Nat), H, I.tok _, ⟨_, rfl⟩, q⟩
end Fm
end FFmBmK
section FCTN
set_option Elab.async false
set_option linter.all false
set_option maxRecDepth 100000
set_option maxHeartbeats 4000000
local macro_rules | `(tactic| walk_at "ne") => `(tactic| first | assumption | (apply Ne.symm; assumption) | exact L2.ne_of_none (by assumption) (by assumption) | exact Ne.symm (L2.ne_of_none (by assumption) (by assumption)))
local macro_rules | `(tactic| walk_at "hl") => `(tactic| first | assumption | exact L2.upd_same | (refine Eq.trans (L2.upd_ne (by walk_at "ne")) ?_; walk_at "hl"))
local macro_rules | `(tactic| walk_at "sd") => `(tactic| first | (with_reducible show (_ : Int) < _; omega) | (with_reducible show (_ : Int) ≤ _; omega) | assumption | decide | exact ⟨by assumption, by assumption⟩ | exact ⟨by decide, by decide⟩ | exact Or.inr ⟨by decide, by decide⟩ | exact Or.inl ⟨by omega, by omega⟩ | rfl)
local macro_rules | `(tactic| walk_at "st1") => `(tactic| first
  | refine ⟨_, rfl, ?_⟩
  | refine ⟨_, _, rfl, rfl, ?_⟩
  | refine ⟨_, _, rfl, ?_⟩
  | (refine ⟨_, _, _, _, rfl, rfl, L2.SqL.of (by walk_at "hl"), rfl, ?_⟩)
  | (refine ⟨_, _, _, _, rfl, rfl, L2.SqT.of (by walk_at "hl"), rfl, ?_⟩)
  | (refine ⟨_, _, _, _, rfl, rfl, (by walk_at "hl"), rfl, ?_⟩)
  | (refine And.intro (by walk_at "sd") ?_)
  )
local macro_rules | `(tactic| walk_at "st") => `(tactic| repeat walk_at "st1")
local macro_rules | `(tactic| walk_at "op") => `(tactic| try dsimp only [L2.tSeq, L2.tAsg, L2.tOp, L2.tVar, L2.tC, L2.gSub, L2.rI, L2.rI0, L2.rIxL, L2.rIxT, L2.rSetL, L2.tIfS, L2.tTest, L2.tRet, L2.gName, L2.tNext, L2.tAnd, L2.tOr, L2.tNot, L2.tAndV, L2.tOrV, L2.tNotV, L2.tB, L2.tCB, L2.tCons, L2.tNil, L2.tCall, L2.tTup, L2.tLst, L2.tChain, L2.tUn, L2.tPar, L2.tDrop, L2.tIf, L2.tBM, L2.tBM0, L2.rAppend, L2.rCat, L2.rIsi, L2.rIsiT, L2.gTup, L2.gCons, L2.gNil, Fm.tFor_eq, Fm.tLc_eq, Fm.tLc2_eq, L2.iTup, L2.iList, L2.iRng1, L2.iRng2, L2.tSl, L2.tPart, L2.tNoPart, L2.rSlL, L2.rEq, L2.rNe, L2.rU, L2.rEqD, L2.rNeD, Fm.tRevT, Fm.rLenS, Fm.rTupOf, Fm.rLstOf, L2.tDNewK, L2.tCallS, L2.WE, Fm.wKeep, Fm.rIsK, Fm.rIsKT, List.cons_append, List.nil_append, L2.tYes])
namespace Fm
open PySem PySem.Spec PyProof.Rows L2
abbrev s_law_counted : Stmt := top 42
abbrev N_law_counted : List Str := ["m", "crowd", "floors", "out", "found", "row", "number"]
theorem sc_law_counted : FnScope N_law_counted ["m", "crowd"] (defScope s_law_counted) := ⟨rfl, rfl, rfl, by decide +kernel, rfl, by decide +kernel, by decide +kernel⟩
section
variable {P : Program} {w : World} {K : PySem.W.Frag} {mg : Str → Option Value} {base : Heap}
/-! ### people counted -/
def spCounted : Sp := fun vs H Q _ => ∃ (cv : V) (p : Addr) (u : HO) (m : Nat) (fl : List (List Int)) (out : Int), vs = [.int (m : Nat), cv] ∧ H p = some u ∧ Dat H p cv (crowdD fl out) ∧ 1 ≤ fl.length ∧ fl.length ≤ 4 ∧ m ≤ 6 ∧
  ∀ v H', Dat H' p v (stD (fl.map (cntR m)) out) → Same H H' → Q v H'
theorem ok_law_counted (D : Df K mg "_law_counted" s_law_counted ["m", "crowd"]) (T : Nms mg) : CallOk P w K mg base CX0 1 "_law_counted" ["m", "crowd"] spCounted := by
  refine df_ok D sc_law_counted (fun vs H Q E h => ?_) (fun f cdv A outer s H vs Q E hr h => ?_)
  · obtain ⟨cv, p, u, m, fl, out, rfl, _⟩ := h
    rfl
  · obtain ⟨cv, p, u, m, fl, out, rfl, hp, hC, h1, h4, hm, k⟩ := h
    have nd := sc_law_counted.nd
    obtain ⟨a, F, ws0, rfl, ha, na, hF, nF, hW⟩ := crowd_parts hC
    have hwl : ws0.length = fl.length := by rw [hW.1, List.length_map]
    refine ⟨_, (pss_cons (ps_asg (pv 1) (pg_tup rfl (pgs_cons (pg_name (i := 2) nd rfl (Or.inl rfl)) (pgs_cons (pg_name (i := 3) nd rfl (Or.inl rfl)) pgs_nil))))
      (pss_cons (ps_set (i := 4) nd rfl (Or.inl rfl) (pe_lst pa_nil))
      (pss_cons (ps_for PassesOwn.never rfl (pi_list (pv 2)) (pg_name (i := 5) nd rfl (Or.inr rfl)) (pss_one (ps_expr (pe_bm PySem.F.plainAttrs_list PySem.F.slot_list_append PySem.F.type_list_append mt_append (pv 4) (pa_cons (pe_callTy (r := rTupOf K) call_tupOf (by rfl) T.n_tuple (by decide +kernel) (pa_cons (pe_lc (own := [("number", 6)]) (g := (gName 6)) (tt := tYes) (by rfl) nd (pi_range1 rfl T.n_range (pa_cons (pv 0) pa_nil)) (blkOk_by (own := [("number", 6)]) (N := N_law_counted) (sc := defScope s_law_counted) (by decide +kernel)) (fun _ _ _ _ _ => (pg_name (i := 6) nd rfl (Or.inl rfl))) (fun _ _ _ _ _ => pts_nil) (fun _ _ _ _ _ => (pe_bmK (K := K) (r := rCountI K) rfl PySem.F.plainAttrs_list PySem.F.slot_list_count PySem.F.type_list_count mt_countI (pv 5) (pa_cons (pv 6) pa_nil)))) pa_nil)) pa_nil)))))
      (pss_one (ps_ret (pe_op (r := rCatA K) op_catA (pe_callTy (r := rTupOf K) call_tupOf (by rfl) T.n_tuple (by decide +kernel) (pa_cons (pv 4) pa_nil)) (pe_tup (pa_cons (pv 3) pa_nil)))))))), ?_⟩
    walk_at "op"
    refine ⟨_, rfl, a, _, rfl, SqT.of ha, rfl, _, _, rfl, _, _, rfl, rfl, ?_⟩
    dsimp only [List.set, L2.start]
    refine ⟨Nat.zero_le _, fun R hR => ?_⟩
    have sR := same_new (o := .lst []) hR
    have hR1 : upd H R (.lst []) R = some (.lst []) := upd_same
    generalize upd H R (.lst []) = G0 at *
    have nRp : R ≠ p := ne_of_none' hR hp
    refine ⟨_, rfl, F, rfl, ⟨_, SqL.of (sR _ _ hF)⟩, ?_⟩
    refine fI walk_list (fun i σ G => Same H G ∧ ∃ (ts : List V) (u5 u6 : Option V), σ = [some (.int (m : Nat)), some (.ref a), some (.ref F), some (.int out), some (.ref R), u5, u6] ∧ G R = some (.lst ts) ∧ Dats G p ts (((fl.take i).map (cntR m)).map rowD))
      ⟨sR, [], _, _, rfl, hR1, Dats.nil⟩ (fun _ _ _ _ ⟨e, _⟩ => SqL.of (e _ _ hF)) ?_ ?_
    · rintro i x σ _ G hi ⟨sG, ts, u5, u6, rfl, hRG, hT⟩ ⟨rfl, hxi⟩
      have hil : i < fl.length := by omega
      have hgi : fl[i]? = some fl[i] := List.getElem?_eq_getElem hil
      have hi4 : i ≤ 4 := by omega
      obtain ⟨b, rfl, hb, _⟩ := rowL_parts (hW.2 i x (rowL fl[i]) hxi (by rw [List.getElem?_map, hgi]; rfl))
      have htk : fl.take (i + 1) = fl.take i ++ [fl[i]] := by rw [List.take_add_one, hgi]; rfl
      generalize fl[i] = r at *
      walk_at "op"
      refine ⟨_, rfl, .inl ⟨rfl, _, SqL.of hRG⟩, ?_⟩
      refine ⟨_, rfl, _, rfl, by omega, by omega, ?_⟩
      rw [Int.toNat_natCast]
      refine fun L hL => ?_
      have nRL : R ≠ L := ne_of_none hRG hL
      refine lI walk_range (fun j G1 => Same G G1 ∧ G1 L = some (.lst (((List.range j).map fun k => ((r.count ((k : Nat) : Int) : Nat) : Int)).map V.int))) ⟨same_new hL, upd_same⟩ (fun _ _ _ _ => True.intro) ?_ ?_
      · rintro j v _ G1 hj ⟨s1, hL1⟩ ⟨rfl, rfl⟩
        dsimp only
        rw [Int.zero_add]
        walk_at "op"
        refine ⟨rfl, ?_⟩
        refine iteT ?_
        have hbG := SqL.of (K := K) ((sG.trans s1) _ _ hb)
        refine ⟨_, rfl, .inl ⟨rfl, _, hbG⟩, _, rfl, b, r, _, rfl, rfl, hbG, ?_⟩
        refine ⟨_, hL1, by rw [List.length_map, List.length_map, List.length_range]; exact Nat.lt_of_le_of_lt (show j ≤ 6 by omega) (by rw [sizeLine_eq]; omega), sameOff s1 hL, ?_⟩
        rw [upd_same, List.range_succ, List.map_append, List.map_append]
        rfl
      · rintro G1 ⟨s1, hL1⟩
        refine ⟨L, _, rfl, .inl ⟨SqL.of hL1, fun t ht => ?_⟩⟩
        have st := same_new (o := .tup (((List.range m).map fun k => ((r.count ((k : Nat) : Int) : Nat) : Int)).map V.int)) ht
        have sG2 := sG.trans (s1.trans st)
        have ntp : t ≠ p := ne_of_none' ht ((sG.trans s1) _ _ hp)
        have hR2 := (s1.trans st) _ _ hRG
        have hdt : Dat (upd G1 t (.tup (((List.range m).map fun k => ((r.count ((k : Nat) : Int) : Nat) : Int)).map V.int))) p (.ref t) (rowD (cntR m r)) := .tup upd_same ntp (by rw [List.length_map, List.length_map, List.length_map, cntR_len, List.length_range]) fun i x d e1 e2 => (Dats.ints (p := p) (cntR m r)).2 i x d e1 e2
        have hT2 := hT.same (s1.trans st)
        generalize upd G1 t (.tup (((List.range m).map fun k => ((r.count ((k : Nat) : Int) : Nat) : Int)).map V.int)) = G2 at *
        refine ⟨R, ts, _, rfl, rfl, hR2, ?_, sameOff sG2 hR, ts ++ [.ref t], _, _, rfl, upd_same, ?_⟩
        · rw [hT.1, List.length_map, List.length_map]
          exact Nat.lt_of_le_of_lt (Nat.le_trans (List.length_take_le _ _) hi4) (by rw [sizeLine_eq]; omega)
        · rw [htk, List.map_append, List.map_append]
          refine (hT2.setL hR2 (fun d hd => ?_)).snoc (hdt.setL hR2 (noList_ints _ _))
          obtain ⟨r, _, rfl⟩ := List.mem_map.mp hd
          exact noList_ints _ _
    · rintro σ G ⟨sG, ts, u5, u6, rfl, hRG, hT⟩
      rw [hwl, List.take_length] at hT
      have htl : ts.length = fl.length := by rw [hT.1, List.length_map, List.length_map]
      walk_at "op"
      refine ⟨_, rfl, R, ts, rfl, .inl ⟨SqL.of hRG, fun t1 ht1 => ?_⟩⟩
      have st1 := same_new (o := .tup ts) ht1
      have ht1' : upd G t1 (.tup ts) t1 = some (.tup ts) := upd_same
      have hT1 := hT.same st1
      generalize upd G t1 (.tup ts) = G1 at *
      refine ⟨_, rfl, by show 1 ≤ sizeLine; decide, fun t2 ht2 => ?_⟩
      have n12 : t1 ≠ t2 := ne_of_none ht1' ht2
      have sm2 := same_new (o := .tup [V.int out]) ht2
      refine ⟨t1, t2, ts, _, rfl, rfl, SqT.of (by rw [upd_ne n12]; exact ht1'), SqT.of upd_same, Nat.le_of_lt (Nat.lt_of_le_of_lt (show ts.length + 1 ≤ 5 by omega) (by rw [sizeLine_eq]; omega)), fun e => ?_, fun _ e => (by cases e), fun _ _ w hw => ?_⟩
      · rw [e] at htl
        have : ([] : List V).length = 0 := rfl
        omega
      · have s5 := (sG.trans st1).trans sm2
        exact k _ _ (Dat.new hw (ne_of_none' hw (s5 _ _ hp)) ((hT1.same sm2).snoc (.int _))) (s5.trans (same_new hw))

end
end Fm
end FCTN
section FFmIxFrom
set_option Elab.async false
set_option linter.all false
set_option maxRecDepth 100000
set_option maxHeartbeats 4000000
namespace Fm
open PySem PySem.Spec PySem.Calls PyProof.Rows L2 PySem.SeqAt
/-- row.index(y, from) -/
def rIndexF (K : PySem.W.Frag) : V → List V → Hp → VK → Prop := fun x xs H Q => ∃ (a : Addr) (ys : List V) (y : V) (st j : Nat) (z : V), x = V.ref a ∧ xs = [y, .int (st : Nat)] ∧ SqL K H a ys ∧ flatV y = true ∧ ys.all flatV = true ∧ ys[j]? = some z ∧ eqV z y = true ∧ st ≤ j ∧
  (∀ (m : Nat) (z' : V), st ≤ m → m < j → ys[m]? = some z' → eqV z' y = false) ∧ Q (.int (j : Nat)) H
theorem mt_indexF {X : Cx} : MtR X "list.index" (rIndexF X.K) := by
  intro pins s σ H x xs v us Q I rx rxs h
  obtain ⟨a, ys, y, st, j, z, rfl, rfl, hs, fy, fys, hz, hzj, hst, hno, q⟩ := h
  cases rx
  cases rxs with
  | cons ry rt =>
    rename_i uy ut
    cases rt with
    | cons r3 rn =>
    rename_i u3 _
    cases rn
    obtain ⟨t3, rfl⟩ := r3
    obtain ⟨its, rv, ⟨⟨cls, dd, data, sl⟩, n, ho, hc, hdn, hd⟩, hlen⟩ := I.list hs
    simp only at hc hd
    subst hc hd
    obtain ⟨u, hu, ru⟩ := rv.get hz
    obtain ⟨hjl, hje⟩ := List.getElem?_eq_some_iff.mp hu
    have hvl := rv.length
    have hj : j < its.toArray.size := by simpa using hjl
    have hsl := sizeLine_eq
    have hfrom : searchFrom ((st : Nat) : Int) its.toArray.size = st := searchFrom_nat _ _
    have get : ∀ {i : Nat} {u : Value} {y' : V}, its[i]? = some u → ys[i]? = some y' → RelV y' u → eqU y (its[i]?.getD .none) = eqV y' y := fun {i u y'} h1 h2 h3 => by
      rw [h1]
      exact eqU_of h3 (flat_at fys h2)
    refine call_meets PySem.F.slot_list_index ⟨_, ho, rfl⟩ PySem.F.entry_list_index (PySem.F.args_list_index_3 _ _ _)
      (list_index3_found a its.toArray n dd sl uy (fun i => eqU y (its[i]?.getD .none)) ((st : Nat) : Int) t3 j hj (by rw [hfrom]; exact hst) (by omega) ?_ ?_) ⟨ho, fun i hi => ?_, ?_⟩
    · show eqU y (its[j]?.getD .none) = true
      rw [get hu hz ru]
      exact hzj
    · intro m hm h1 hmj
      rw [hfrom] at h1
      have hml : m < its.length := by simpa using hm
      have hy' : ys[m]? = some ys[m] := List.getElem?_eq_getElem (by omega)
      obtain ⟨u2, hu2, ru2⟩ := rv.get hy'
      show eqU y (its[m]?.getD .none) = false
      rw [get hu2 hy' ru2]
      exact hno m _ h1 hmj hy'
    · have hil : i < its.length := by simpa using hi
      have e1 : its[i]?.getD .none = its.toArray[i] := by rw [List.getElem?_eq_getElem hil]; simp
      show EqAt _ _ _ _ (eqU y (its[i]?.getD .none))
      rw [e1]
      exact mem_eqAt ry fy rv fys _ (by rw [← e1, List.getElem?_eq_getElem hil]; exact List.getElem_mem hil)
    · exact ⟨.int (j : Nat), H, I.tok _, ⟨_, rfl⟩, q⟩
end Fm
end FFmIxFrom
section FFmTupIx
set_option Elab.async false
set_option linter.all false
set_option maxRecDepth 100000
set_option maxHeartbeats 4000000
namespace Fm
open PySem PySem.Spec PySem.Calls PyProof.Rows L2 PySem.SeqAt
/-- t.index(k), a tuple of whole numbers, k among them -/
def rIxOfT (K : PySem.W.Frag) : V → List V → Hp → VK → Prop := fun x xs H Q => ∃ (a : Addr) (ns : List Int) (k : Int), x = V.ref a ∧ xs = [.int k] ∧ SqT K H a (ns.map V.int) ∧ k ∈ ns ∧ Q (.int (ns.idxOf k : Nat)) H
theorem mt_ixOfT {X : Cx} : MtR X "tuple.index" (rIxOfT X.K) := by
  intro pins s σ H x xs v us Q I rx rxs h
  obtain ⟨a, ns, k, rfl, rfl, hs, hk, q⟩ := h
  cases rx
  obtain ⟨u, rfl, ru⟩ := rxs.one
  obtain ⟨t, rfl⟩ := ru
  obtain ⟨its, rv, ht, _⟩ := I.tuple hs
  exact tuple_index_ints ht rv.ints hk ⟨.int (ns.idxOf k : Nat), H, I.tok _, ⟨_, rfl⟩, q⟩
theorem inI (k : Int) : ∀ r : List Int, inV (.int k) (r.map V.int) = decide (k ∈ r)
  | [] => rfl
  | x :: r => by
    have ih := inI k r
    unfold inV at ih ⊢
    rw [List.map_cons, List.any_cons, ih]
    have e : eqV (.int x) (.int k) = (x == k) := rfl
    rw [e]
    by_cases z : x = k
    · subst z
      rw [beq_self_eq_true, Bool.true_or, decide_eq_true List.mem_cons_self]
    · rw [beq_eq_false_iff_ne.mpr z, Bool.false_or]
      by_cases q : k ∈ r
      · rw [decide_eq_true q, decide_eq_true (List.mem_cons_of_mem _ q)]
      · rw [decide_eq_false q, decide_eq_false]
        intro w
        rcases List.mem_cons.mp w with w | w
        · exact z w.symm
        · exact q w
theorem flat_ints (r : List Int) : (r.map V.int).all flatV = true := by
  rw [List.all_eq_true]
  intro x hx
  obtain ⟨c, _, rfl⟩ := List.mem_map.mp hx
  rfl
end Fm
end FFmTupIx
section FMU
set_option Elab.async false
set_option linter.all false
set_option maxRecDepth 100000
set_option maxHeartbeats 4000000
local macro_rules | `(tactic| walk_at "ne") => `(tactic| first | assumption | (apply Ne.symm; assumption) | exact L2.ne_of_none (by assumption) (by assumption) | exact Ne.symm (L2.ne_of_none (by assumption) (by assumption)))
local macro_rules | `(tactic| walk_at "hl") => `(tactic| first | assumption | exact L2.upd_same | (refine Eq.trans (L2.upd_ne (by walk_at "ne")) ?_; walk_at "hl"))
local macro_rules | `(tactic| walk_at "sd") => `(tactic| first | (with_reducible show (_ : Int) < _; omega) | (with_reducible show (_ : Int) ≤ _; omega) | assumption | decide | exact ⟨by assumption, by assumption⟩ | exact ⟨by decide, by decide⟩ | exact Or.inr ⟨by decide, by decide⟩ | exact Or.inl ⟨by omega, by omega⟩ | rfl)
local macro_rules | `(tactic| walk_at "st1") => `(tactic| first
  | refine ⟨_, rfl, ?_⟩
  | refine ⟨_, _, rfl, rfl, ?_⟩
  | refine ⟨_, _, rfl, ?_⟩
  | (refine ⟨_, _, _, _, rfl, rfl, L2.SqL.of (by walk_at "hl"), rfl, ?_⟩)
  | (refine ⟨_, _, _, _, rfl, rfl, L2.SqT.of (by walk_at "hl"), rfl, ?_⟩)
  | (refine ⟨_, _, _, _, rfl, rfl, (by walk_at "hl"), rfl, ?_⟩)
  | (refine And.intro (by walk_at "sd") ?_)
  )
local macro_rules | `(tactic| walk_at "st") => `(tactic| repeat walk_at "st1")
local macro_rules | `(tactic| walk_at "op") => `(tactic| try dsimp only [L2.tSeq, L2.tAsg, L2.tOp, L2.tVar, L2.tC, L2.gSub, L2.rI, L2.rI0, L2.rIxL, L2.rIxT, L2.rSetL, L2.tIfS, L2.tTest, L2.tRet, L2.gName, L2.tNext, L2.tAnd, L2.tOr, L2.tNot, L2.tAndV, L2.tOrV, L2.tNotV, L2.tB, L2.tCB, L2.tCons, L2.tNil, L2.tCall, L2.tTup, L2.tLst, L2.tChain, L2.tUn, L2.tPar, L2.tDrop, L2.tIf, L2.tBM, L2.tBM0, L2.rAppend, L2.rCat, L2.rIsi, L2.rIsiT, L2.gTup, L2.gCons, L2.gNil, Fm.tFor_eq, Fm.tLc_eq, Fm.tLc2_eq, L2.iTup, L2.iList, L2.iRng1, L2.iRng2, L2.tSl, L2.tPart, L2.tNoPart, L2.rSlL, L2.rEq, L2.rNe, L2.rU, L2.rEqD, L2.rNeD, Fm.tRevT, Fm.rLenS, Fm.rTupOf, Fm.rLstOf, L2.tDNewK, L2.tCallS, L2.WE, Fm.wKeep, Fm.rIsK, Fm.rIsKT, List.cons_append, List.nil_append, L2.tYes])
namespace Fm
open PySem PySem.Spec PyProof.Rows L2
abbrev s_law_find : Stmt := top 46
abbrev N_law_find : List Str := ["row", "a", "b", "one"]
theorem sc_law_find : FnScope N_law_find ["row", "a", "b"] (defScope s_law_find) := ⟨rfl, rfl, rfl, by decide +kernel, rfl, by decide +kernel, by decide +kernel⟩
section
variable {P : Program} {w : World} {K : PySem.W.Frag} {mg : Str → Option Value} {base : Heap}
/-! ### a meeting of a crowd is one of the standing -/
section
variable {fs : List PyData} {m n f a b : Nat} {rows : List (List Int)} {out : Int}
theorem met_stepE (ok : StOk m rows out) (hl : rows.length = n) (hgo : goLt fs m n) (h : Meets3 m rows f a b) : ∃ e : FmC.St, FmC.stSt n rows out = e + FmC.one f a + FmC.one f b ∧ FmC.stSt n (metRows fs rows f a b) (metOut rows out f) = e + FmC.one f (goN fs 0 f a b) + FmC.one (f + 1) (FmC.outU n (goN fs 1) f a b) := by
  obtain ⟨hf, ha, hb, hlen, hc⟩ := meets_cells ok hl h
  have hs := hgo 0 (by decide) f hf a b ha hb
  have hu := hgo 1 (by decide) f hf a b ha hb
  have hrow : ∀ x, ((FmC.stSt n rows out f x : Nat) : Int) = (rows.getD f []).getD x 0 := fun x => by
    unfold FmC.stSt FmC.cnt
    rw [if_pos hf]
    have := getD_nn (ok.pos _ (List.mem_of_getElem? (rows_at (show f < rows.length by omega)))) x
    omega
  have one_at : ∀ (c x : Nat), ((FmC.one f c f x : Nat) : Int) = if x = c then 1 else 0 := fun c x => by
    by_cases z : x = c
    · rw [if_pos z, z, FmC.one_self]; rfl
    · rw [if_neg z, FmC.one_ne (fun q => z q.2)]; rfl
  refine ⟨fun g x => FmC.stSt n rows out g x - FmC.one f a g x - FmC.one f b g x, ?_, ?_⟩
  · funext g x
    show _ = FmC.stSt n rows out g x - FmC.one f a g x - FmC.one f b g x + FmC.one f a g x + FmC.one f b g x
    by_cases y : g = f
    · subst y
      have h1 := hc x
      have h2 := hrow x
      have h3 := one_at a x
      have h4 := one_at b x
      omega
    · rw [FmC.one_ne (fun q => y q.1), FmC.one_ne (fun q => y q.1)]
      omega
  · funext g x
    show _ = FmC.stSt n rows out g x - FmC.one f a g x - FmC.one f b g x + FmC.one f (goN fs 0 f a b) g x + FmC.one (f + 1) (FmC.outU n (goN fs 1) f a b) g x
    by_cases y : g = f
    · subst y
      have h1 := hc x
      have h2 := hrow x
      have h3 := one_at a x
      have h4 := one_at b x
      have h5 := one_at (goN fs 0 g a b) x
      rw [FmC.one_ne (f := g + 1) (fun q => by omega)]
      have e : ((FmC.stSt n (metRows fs rows g a b) (metOut rows out g) g x : Nat) : Int) = (rows.getD g []).getD x 0 + (if x = a then -1 else 0) + (if x = b then -1 else 0) + (if x = goN fs 0 g a b then 1 else 0) := by
        have := rowMet_at (c := rows.getD g []) (a := a) (b := b) (s := goN fs 0 g a b) (by omega) (by omega) (by omega) x
        rw [← this]
        unfold FmC.stSt FmC.cnt
        rw [if_pos hf, metRows_at hl hf g hf, if_pos rfl]
        have nn : 0 ≤ (rowMet (rows.getD g []) a b (goN fs 0 g a b)).getD x 0 := by
          rw [this]
          by_cases xa : x = a <;> by_cases xb : x = b <;> by_cases xs : x = goN fs 0 g a b <;> simp only [xa, xb, xs, if_true, if_false] at h1 ⊢ <;> first | omega | (simp_all; omega) | simp_all
        omega
      have ea : (if x = a then (-1 : Int) else 0) = - (if x = a then 1 else 0) := by by_cases z : x = a <;> simp [z]
      have eb : (if x = b then (-1 : Int) else 0) = - (if x = b then 1 else 0) := by by_cases z : x = b <;> simp [z]
      rw [ea, eb, ← h3, ← h4, ← h5, ← h2] at e
      rw [← h3, ← h4, ← h2] at h1
      omega
    · rw [FmC.one_ne (fun q => y q.1), FmC.one_ne (fun q => y q.1), FmC.one_ne (fun q => y q.1), Nat.sub_zero, Nat.sub_zero, Nat.add_zero]
      by_cases hg : g < n
      · unfold FmC.stSt
        rw [if_pos hg, if_pos hg, metRows_at hl hf g hg, if_neg y]
        by_cases z : g = f + 1
        · subst z
          rw [if_pos rfl]
          have eo : FmC.outU n (goN fs 1) f a b = goN fs 1 f a b := if_pos hg
          rw [eo]
          have hrg := List.mem_of_getElem? (rows_at (show f + 1 < rows.length by omega))
          have h0 := getD_nn (ok.pos _ hrg) x
          unfold FmC.cnt
          rw [getD_addAt (by rw [ok.len _ hrg]; exact hu)]
          by_cases xu : x = goN fs 1 f a b
          · rw [if_pos xu, xu, FmC.one_self]
            rw [xu] at h0
            omega
          · rw [if_neg xu, FmC.one_ne (fun q => xu q.2)]
            omega
        · rw [if_neg z, FmC.one_ne (fun q => z q.1)]
          rfl
      · unfold FmC.stSt
        rw [if_neg hg, if_neg hg]
        by_cases hn : f + 1 < n
        · have eo : metOut rows out f = out := by unfold metOut; rw [if_pos (by omega)]
          rw [eo, FmC.one_ne (fun q => by omega)]
          rfl
        · have eo : metOut rows out f = out + 1 := by unfold metOut; rw [if_neg (by omega)]
          have eu : FmC.outU n (goN fs 1) f a b = 0 := if_neg hn
          have en : f + 1 = n := by omega
          have ho := ok.out
          rw [eo, eu, en]
          by_cases w : g = n ∧ x = 0
          · rw [if_pos w, if_pos w, w.1, w.2, FmC.one_self]
            omega
          · rw [if_neg w, if_neg w, FmC.one_ne w]
theorem met_at {z : FmC.St} (ok : StOk m rows out) (hl : rows.length = n) (hgo : goLt fs m n) (hf : f < n) (hab : a ≤ b) (hb : b < m) (hz : FmC.stSt n rows out = z + FmC.one f a + FmC.one f b) :
    Meets3 m rows f a b ∧ StOk m (metRows fs rows f a b) (metOut rows out f) ∧ (metRows fs rows f a b).length = n ∧ FmC.stSt n (metRows fs rows f a b) (metOut rows out f) = z + FmC.one f (goN fs 0 f a b) + FmC.one (f + 1) (FmC.outU n (goN fs 1) f a b) := by
  have hcell : ∀ x, (((rows.getD f []).getD x 0).toNat : Nat) = z f x + FmC.one f a f x + FmC.one f b f x := fun x => by
    have h1 : FmC.stSt n rows out f x = z f x + FmC.one f a f x + FmC.one f b f x := congrFun (congrFun hz f) x
    unfold FmC.stSt FmC.cnt at h1
    rw [if_pos hf] at h1
    exact h1
  have hM : Meets3 m rows f a b := by
    refine ⟨by omega, hab, hb, ?_⟩
    unfold cellN
    have h1 := hcell a
    have h2 := hcell b
    rw [FmC.one_self] at h1 h2
    by_cases e : a = b
    · subst e
      rw [if_pos rfl]
      rw [FmC.one_self] at h1
      omega
    · rw [if_neg e]
      omega
  obtain ⟨e, e1, e2⟩ := met_stepE ok hl hgo hM
  have ez : z = e := by
    funext g x
    have h1 : FmC.stSt n rows out g x = z g x + FmC.one f a g x + FmC.one f b g x := congrFun (congrFun hz g) x
    have h2 : FmC.stSt n rows out g x = e g x + FmC.one f a g x + FmC.one f b g x := congrFun (congrFun e1 g) x
    omega
  rw [ez]
  exact ⟨hM, met_ok ok hl hgo hM, metRows_len hl, e2⟩
theorem met_un {z : FmC.St} (hN : HouseN m n (.tuple fs)) (ok : StOk m rows out) (hl : rows.length = n) (hgo : goLt fs m n) (hf : f < n) (ha : a < m) (hb : b < m) (hz : FmC.stSt n rows out = z + FmC.one f a + FmC.one f b) :
    Meets3 m rows f (min a b) (max a b) ∧ StOk m (metRows fs rows f (min a b) (max a b)) (metOut rows out f) ∧ (metRows fs rows f (min a b) (max a b)).length = n ∧ FmC.stSt n (metRows fs rows f (min a b) (max a b)) (metOut rows out f) = z + FmC.one f (goN fs 0 f a b) + FmC.one (f + 1) (FmC.outU n (goN fs 1) f a b) := by
  by_cases h : a ≤ b
  · rw [Nat.min_eq_left h, Nat.max_eq_right h]
    exact met_at ok hl hgo hf h hb hz
  · rw [Nat.min_eq_right (by omega), Nat.max_eq_left (by omega)]
    have := met_at ok hl hgo hf (by omega) ha (a := b) (b := a) (z := z) (by rw [hz, FmC.add_rc])
    rw [goN_comm hN hf (k := 0) (by decide) hb ha, show FmC.outU n (goN fs 1) f b a = FmC.outU n (goN fs 1) f a b by unfold FmC.outU; rw [goN_comm hN hf (k := 1) (by decide) hb ha]] at this
    exact this
end
/-- where a and b are in a row -/
def Found (c : List Int) (a b : Int) (one other : Nat) : Prop := one < c.length ∧ other < c.length ∧ one ≠ other ∧ c.getD one 0 = a ∧ c.getD other 0 = b
theorem first_at : ∀ {c : List Int} {x : Int}, x ∈ c → ∃ j : Nat, c[j]? = some x ∧ ∀ (m : Nat) (z : Int), m < j → c[m]? = some z → z ≠ x
  | y :: c, x, h => by
    by_cases e : y = x
    · exact ⟨0, by rw [e]; rfl, fun m z hm => absurd hm (Nat.not_lt_zero _)⟩
    · obtain ⟨j, h1, h2⟩ := first_at ((List.mem_cons.mp h).resolve_left (fun q => e q.symm))
      refine ⟨j + 1, h1, fun m z hm hz => ?_⟩
      cases m with
      | zero =>
        cases hz
        exact e
      | succ m => exact h2 m z (by omega) hz
theorem second_at {c : List Int} {x : Int} {j : Nat} (h1 : c[j]? = some x) (h2 : ∀ (m : Nat) (z : Int), m < j → c[m]? = some z → z ≠ x) (h : 2 ≤ c.count x) : ∃ i : Nat, j + 1 ≤ i ∧ c[i]? = some x ∧ ∀ (m : Nat) (z : Int), j + 1 ≤ m → m < i → c[m]? = some z → z ≠ x := by
  have h0 : (c.take j).count x = 0 := List.count_eq_zero.mpr fun q => by
    obtain ⟨m, hm⟩ := List.getElem?_of_mem q
    rw [List.getElem?_take] at hm
    split at hm
    · rename_i hmj
      exact h2 m x hmj hm rfl
    · cases hm
  have hd : x ∈ c.drop (j + 1) := by
    have e : c.count x = (c.take (j + 1)).count x + (c.drop (j + 1)).count x := by rw [← List.count_append, List.take_append_drop]
    rw [take_snoc h1, List.count_append, h0, List.count_singleton_self] at e
    exact List.count_pos_iff.mp (by omega)
  obtain ⟨i, k1, k2⟩ := first_at hd
  rw [List.getElem?_drop] at k1
  refine ⟨j + 1 + i, by omega, k1, fun m z hm hmi hz => k2 (m - (j + 1)) z (by omega) ?_⟩
  rw [List.getElem?_drop, show j + 1 + (m - (j + 1)) = m by omega]
  exact hz
theorem eqV_ne {z x : Int} (h : z ≠ x) : eqV (.int z) (.int x) = false := beq_eq_false_iff_ne.mpr h
theorem eqV_same (x : Int) : eqV (.int x) (.int x) = true := beq_self_eq_true x
theorem ints_at {c : List Int} {m : Nat} {z : V} (h : (c.map V.int)[m]? = some z) : ∃ y, c[m]? = some y ∧ z = .int y := by
  rw [List.getElem?_map] at h
  cases e : c[m]? with
  | none => rw [e] at h; cases h
  | some y =>
    rw [e] at h
    cases h
    exact ⟨y, rfl, rfl⟩
theorem ix_ints {K : PySem.W.Frag} {H : Hp} {L : Addr} {c : List Int} {x : Int} {Q : VK} (hL : H L = some (.lst (c.map V.int))) (hx : x ∈ c) (k : ∀ j : Nat, c[j]? = some x → (∀ (m : Nat) (z : Int), m < j → c[m]? = some z → z ≠ x) → Q (.int (j : Nat)) H) : rIndex K (.ref L) [.int x] H Q := by
  obtain ⟨j, h1, h2⟩ := first_at hx
  refine ⟨L, _, .int x, j, .int x, rfl, rfl, SqL.of hL, rfl, flat_ints c, by rw [List.getElem?_map, h1]; rfl, eqV_same x, fun m z hm hz => ?_, k j h1 h2⟩
  obtain ⟨y, hy, rfl⟩ := ints_at hz
  exact eqV_ne (h2 m y hm hy)
def spFind : Sp := fun vs H Q _ => ∃ (L : Addr) (c : List Int) (a b : Int), vs = [.ref L, .int a, .int b] ∧ H L = some (.lst (c.map V.int)) ∧ c.length ≤ 100 ∧
  (¬ (a ∈ c ∧ b ∈ c ∧ (a = b → 2 ≤ c.count a)) → Q .non H) ∧
  ((a ∈ c ∧ b ∈ c ∧ (a = b → 2 ≤ c.count a)) → ∀ t H' one other, Found c a b one other → H' t = some (.tup [.int (one : Nat), .int (other : Nat)]) → Same H H' → Q (.ref t) H')
theorem ok_law_find (D : Df K mg "_law_find" s_law_find ["row", "a", "b"]) (T : Nms mg) : CallOk P w K mg base CX0 1 "_law_find" ["row", "a", "b"] spFind := by
  refine df_ok D sc_law_find (fun vs H Q E h => ?_) (fun f cdv A outer s H vs Q E hr h => ?_)
  · obtain ⟨L, c, a, b, rfl, _⟩ := h
    rfl
  · obtain ⟨L, c, a, b, rfl, hL, hc, k0, k1⟩ := h
    have nd := sc_law_find.nd
    refine ⟨_, (pss_cons (ps_if (PW.pt (pw_or (pt_cmpR (r := rIn K true) op_notIn_seq (pv 1) (pv 0) (by rfl)) (pw_or (pt_cmpR (r := rIn K true) op_notIn_seq (pv 2) (pv 0) (by rfl)) (pw_or1 (PW.pt (pw_and (pt_cmpR op_eq (pv 1) (pv 2) (nomark _)) (pw_and1 (pt_cmpR op_lt (pe_bmK (K := K) (r := rCountI K) rfl PySem.F.plainAttrs_list PySem.F.slot_list_count PySem.F.type_list_count mt_countI (pv 0) (pa_cons (pv 1) pa_nil)) pe_int (nomark _))))))))) (pss_one (ps_ret pe_non)) pss_nil)
      (pss_cons (ps_set (i := 3) nd rfl (Or.inl rfl) (pe_bmK (K := K) (r := rIndex K) rfl PySem.F.plainAttrs_list PySem.F.slot_list_index PySem.F.type_list_index mt_index (pv 0) (pa_cons (pv 1) pa_nil)))
      (pss_one (ps_ret (pe_tup (pa_cons (pv 3) (pa_cons (pe_ifExp (pt_cmpR op_eq (pv 1) (pv 2) (nomark _)) (pe_bmK (K := K) (r := rIndexF K) rfl PySem.F.plainAttrs_list PySem.F.slot_list_index PySem.F.type_list_index mt_indexF (pv 0) (pa_cons (pv 2) (pa_cons (pe_op op_add (pv 3) pe_int) pa_nil))) (pe_bmK (K := K) (r := rIndex K) rfl PySem.F.plainAttrs_list PySem.F.slot_list_index PySem.F.type_list_index mt_index (pv 0) (pa_cons (pv 2) pa_nil))) pa_nil))))))), ?_⟩
    walk_at "op"
    have hst : L2.start N_law_find [.ref L, .int a, .int b] = [some (.ref L), some (.int a), some (.int b), none] := rfl
    rw [hst]
    have lq := SqL.of (K := K) hL
    refine ⟨_, rfl, _, rfl, L, _, rfl, .inl lq, rfl, flat_ints c, !decide (a ∈ c), by rw [inI]; rfl, ?_⟩
    by_cases ha : a ∈ c
    · rw [decide_eq_true ha, if_neg (by decide)]
      refine ⟨_, rfl, _, rfl, L, _, rfl, .inl lq, rfl, flat_ints c, !decide (b ∈ c), by rw [inI]; rfl, ?_⟩
      by_cases hb : b ∈ c
      · rw [decide_eq_true hb, if_neg (by decide)]
        obtain ⟨ia, hia⟩ := List.getElem?_of_mem ha
        refine ⟨_, rfl, _, rfl, rfl, decide (a = b), ?_, ?_⟩
        · by_cases e : a = b
          · rw [e, decide_eq_true rfl, decide_eq_true rfl]
          · rw [decide_eq_false (fun z => e (by injection z)), decide_eq_false e]
        by_cases hab : a = b
        · subst hab
          rw [decide_eq_true rfl, if_pos rfl]
          refine ⟨_, rfl, .inl ⟨rfl, _, lq⟩, _, rfl, L, c, a, rfl, rfl, lq, _, _, rfl, rfl, decide (((c.count a : Nat) : Int) < 2), rfl, ?_⟩
          by_cases h2 : 2 ≤ c.count a
          · rw [decide_eq_false (show ¬ ((c.count a : Nat) : Int) < 2 by omega), if_neg (by decide)]
            refine ⟨_, rfl, .inl ⟨rfl, _, lq⟩, _, rfl, ix_ints hL ha fun j j1 j2 => ?_⟩
            obtain ⟨i, i1, i2, i3⟩ := second_at j1 j2 h2
            refine ⟨_, rfl, _, rfl, _, rfl, rfl, true, by rw [decide_eq_true rfl], ?_⟩
            rw [if_pos rfl]
            refine ⟨_, rfl, .inl ⟨rfl, _, lq⟩, _, rfl, _, rfl, _, _, rfl, rfl, L, _, .int a, j + 1, i, .int a, rfl, rfl, lq, rfl, flat_ints c, by rw [List.getElem?_map, i2]; rfl, eqV_same a, i1, fun m z hm hmi hz => ?_, by show 2 ≤ sizeLine; decide, fun t ht => ?_⟩
            · obtain ⟨y, hy, rfl⟩ := ints_at hz
              exact eqV_ne (i3 m y hm hmi hy)
            · exact k1 ⟨ha, hb, fun _ => h2⟩ t _ j i ⟨(List.getElem?_eq_some_iff.mp j1).1, (List.getElem?_eq_some_iff.mp i2).1, by omega, by rw [List.getD_eq_getElem?_getD, j1]; rfl, by rw [List.getD_eq_getElem?_getD, i2]; rfl⟩ upd_same (same_new ht)
          · rw [decide_eq_true (show ((c.count a : Nat) : Int) < 2 by omega), if_pos rfl]
            exact k0 fun z => h2 (z.2.2 rfl)
        · rw [decide_eq_false hab, if_neg (by decide)]
          rw [if_neg (by decide)]
          refine ⟨_, rfl, .inl ⟨rfl, _, lq⟩, _, rfl, ix_ints hL ha fun j j1 j2 => ?_⟩
          refine ⟨_, rfl, _, rfl, _, rfl, rfl, false, by rw [decide_eq_false (fun z => hab (by injection z))], ?_⟩
          rw [if_neg (by decide)]
          refine ⟨_, rfl, .inl ⟨rfl, _, lq⟩, _, rfl, ix_ints hL hb fun i i1 i2 => ?_⟩
          refine ⟨by show 2 ≤ sizeLine; decide, fun t ht => ?_⟩
          refine k1 ⟨ha, hb, fun z => absurd z hab⟩ t _ j i ⟨(List.getElem?_eq_some_iff.mp j1).1, (List.getElem?_eq_some_iff.mp i1).1, fun z => ?_, by rw [List.getD_eq_getElem?_getD, j1]; rfl, by rw [List.getD_eq_getElem?_getD, i1]; rfl⟩ upd_same (same_new ht)
          subst z
          rw [j1] at i1
          exact hab (by injection i1)
      · rw [decide_eq_false hb, if_pos (by decide), if_pos rfl]
        exact k0 fun z => hb z.2.1
    · rw [decide_eq_false ha, if_pos (by decide), if_pos rfl]
      exact k0 fun z => ha z.1

end
end Fm
end FMU
section FDN
set_option Elab.async false
set_option linter.all false
set_option maxRecDepth 100000
set_option maxHeartbeats 4000000
local macro_rules | `(tactic| walk_at "ne") => `(tactic| first | assumption | (apply Ne.symm; assumption) | exact L2.ne_of_none (by assumption) (by assumption) | exact Ne.symm (L2.ne_of_none (by assumption) (by assumption)))
local macro_rules | `(tactic| walk_at "hl") => `(tactic| first | assumption | exact L2.upd_same | (refine Eq.trans (L2.upd_ne (by walk_at "ne")) ?_; walk_at "hl"))
local macro_rules | `(tactic| walk_at "sd") => `(tactic| first | (with_reducible show (_ : Int) < _; omega) | (with_reducible show (_ : Int) ≤ _; omega) | assumption | decide | exact ⟨by assumption, by assumption⟩ | exact ⟨by decide, by decide⟩ | exact Or.inr ⟨by decide, by decide⟩ | exact Or.inl ⟨by omega, by omega⟩ | rfl)
local macro_rules | `(tactic| walk_at "st1") => `(tactic| first
  | refine ⟨_, rfl, ?_⟩
  | refine ⟨_, _, rfl, rfl, ?_⟩
  | refine ⟨_, _, rfl, ?_⟩
  | (refine ⟨_, _, _, _, rfl, rfl, L2.SqL.of (by walk_at "hl"), rfl, ?_⟩)
  | (refine ⟨_, _, _, _, rfl, rfl, L2.SqT.of (by walk_at "hl"), rfl, ?_⟩)
  | (refine ⟨_, _, _, _, rfl, rfl, (by walk_at "hl"), rfl, ?_⟩)
  | (refine And.intro (by walk_at "sd") ?_)
  )
local macro_rules | `(tactic| walk_at "st") => `(tactic| repeat walk_at "st1")
local macro_rules | `(tactic| walk_at "op") => `(tactic| try dsimp only [L2.tSeq, L2.tAsg, L2.tOp, L2.tVar, L2.tC, L2.gSub, L2.rI, L2.rI0, L2.rIxL, L2.rIxT, L2.rSetL, L2.tIfS, L2.tTest, L2.tRet, L2.gName, L2.tNext, L2.tAnd, L2.tOr, L2.tNot, L2.tAndV, L2.tOrV, L2.tNotV, L2.tB, L2.tCB, L2.tCons, L2.tNil, L2.tCall, L2.tTup, L2.tLst, L2.tChain, L2.tUn, L2.tPar, L2.tDrop, L2.tIf, L2.tBM, L2.tBM0, L2.rAppend, L2.rCat, L2.rIsi, L2.rIsiT, L2.gTup, L2.gCons, L2.gNil, Fm.tFor_eq, Fm.tLc_eq, Fm.tLc2_eq, L2.iTup, L2.iList, L2.iRng1, L2.iRng2, L2.tSl, L2.tPart, L2.tNoPart, L2.rSlL, L2.rEq, L2.rNe, L2.rU, L2.rEqD, L2.rNeD, Fm.tRevT, Fm.rLenS, Fm.rTupOf, Fm.rLstOf, L2.tDNewK, L2.tCallS, L2.WE, Fm.wKeep, Fm.rIsK, Fm.rIsKT, List.cons_append, List.nil_append, L2.tYes])
namespace Fm
open PySem PySem.Spec PyProof.Rows L2
abbrev s_law_done : Stmt := top 47
abbrev N_law_done : List Str := ["house", "crowd", "meeting", "floor", "a", "b", "pair"]
theorem sc_law_done : FnScope N_law_done ["house", "crowd", "meeting"] (defScope s_law_done) := ⟨rfl, rfl, rfl, by decide +kernel, rfl, by decide +kernel, by decide +kernel⟩
section
variable {P : Program} {w : World} {K : PySem.W.Frag} {mg : Str → Option Value} {base : Heap}
/-! ### a meeting of people told apart, if it can be -/
theorem cnt_cell {m n : Nat} {fl rows : List (List Int)} {out o : Int} (he : flSt n fl out = FmC.stSt n rows o) (hl : rows.length = n) (ok : StOk m rows o) {f a : Nat} (hf : f < n) : (((fl.getD f []).count ((a : Nat) : Int) : Nat) : Int) = cellN rows f a := by
  have h := congrFun (congrFun he f) a
  unfold flSt FmC.stSt FmC.cnt at h
  rw [if_pos hf, if_pos hf] at h
  have := getD_nn (ok.pos _ (List.mem_of_getElem? (rows_at (show f < rows.length by omega)))) a
  unfold cellN
  omega
theorem le_sumM : ∀ {l : List Nat} {x : Nat}, x ∈ l → x ≤ l.sum
  | y :: l, x, h => by
    rw [List.sum_cons]
    rcases List.mem_cons.mp h with rfl | h
    · omega
    · have := le_sumM h
      omega
def spDone : Sp := fun vs H Q _ => ∃ (hv cv mv : V) (p ph pm : Addr) (u : HO) (fs : List PyData) (m n : Nat) (fl rows : List (List Int)) (out : Int) (d : PyData), vs = [hv, cv, mv] ∧ H p = some u ∧ Dat H ph hv (.tuple fs) ∧ HouseN m n (.tuple fs) ∧ Dat H p cv (crowdD fl out) ∧ Dat H pm mv d ∧ (d = .none ∨ ∃ x, d = triD x) ∧ fl.length = n ∧ RowsIn m fl ∧ 0 ≤ out ∧ (lensOf fl).sum ≤ 100 ∧
  rows.length = n ∧ StOk m rows out ∧ flSt n fl out = FmC.stSt n rows out ∧
  (¬ IsM m rows d → ∀ H', Same H H' → Q .non H') ∧
  (∀ f a b, d = triD (f, a, b) → Meets3 m rows f a b → ∀ v H' fl' out', Dat H' p v (crowdD fl' out') → Same H H' → lensOf fl' = stepL f (lensOf fl) → 2 ≤ (lensOf fl).getD f 0 → RowsIn m fl' → fl'.length = n → out' = metOut rows out f → flSt n fl' out' = FmC.stSt n (metRows fs rows f a b) (metOut rows out f) → (∀ q u', H q = some u' → Dat H' q v (crowdD fl' out')) → Q v H')
theorem ok_law_done (D : Df K mg "_law_done" s_law_done ["house", "crowd", "meeting"]) (T : Nms mg) (c_law_find : CallOk P w K mg base CX0 1 "_law_find" ["row", "a", "b"] spFind) (c_law_meet : CallOk P w K mg base CX0 1 "_law_meet" ["house", "crowd", "floor", "one", "other"] spMeet) :
    CallOk P w K mg base CX0 2 "_law_done" ["house", "crowd", "meeting"] spDone := by
  refine df_ok D sc_law_done (fun vs H Q E h => ?_) (fun f cdv A outer s H vs Q E hr h => ?_)
  · obtain ⟨hv, cv, mv, p, ph, pm, u, fs, m, n, fl, rows, out, d, rfl, _⟩ := h
    rfl
  · obtain ⟨hv, cv, mv, p, ph, pm, u, fs, m, n, fl, rows, out, d, rfl, hp, hD, hN, hC, hM, hd, hln, hin, hout, h100, hl, ok, he, k0, k1⟩ := h
    have nd := sc_law_done.nd
    have hgo := goLt_of hD hN
    have hmn : 1 ≤ n ∧ n ≤ 4 ∧ 1 ≤ m ∧ m ≤ 6 := by
      obtain ⟨_, _, _, z1, z2, z3, z4, _⟩ := hN
      exact ⟨z1, z2, z3, z4⟩
    refine ⟨_, (pss_cons (ps_if (PW.pt (pw_or (pt_not (pt_val (pe_callB (r := rIsi K) call_isi (by rfl) T.n_isinstance (by decide +kernel) (pa_cons (pv 2) (pa_cons (pe_bltn (v := .ty "tuple") (by rfl) T.n_tuple (by decide +kernel) rfl) pa_nil))))) (pw_or1 (pt_cmpR op_ne (pe_callB (r := rLenS K) call_lenS (by rfl) T.n_len (by decide +kernel) (pa_cons (pv 2) pa_nil)) pe_int (nomark _))))) (pss_one (ps_ret pe_non)) pss_nil)
      (pss_cons (ps_asg (pv 2) (pg_tup rfl (pgs_cons (pg_name (i := 3) nd rfl (Or.inl rfl)) (pgs_cons (pg_name (i := 4) nd rfl (Or.inl rfl)) (pgs_cons (pg_name (i := 5) nd rfl (Or.inl rfl)) pgs_nil)))))
      (pss_cons (ps_if (PW.pt (pw_or (pt_not (pt_chain op_le op_lt pe_int (pv 3) (pe_callB (r := rLenS K) call_lenS (by rfl) T.n_len (by decide +kernel) (pa_cons (pv 0) pa_nil)))) (pw_or1 (pt_cmpR op_gt (pv 4) (pv 5) (nomark _))))) (pss_one (ps_ret pe_non)) pss_nil)
      (pss_cons (ps_set (i := 6) nd rfl (Or.inl rfl) (pe_cc c_law_find (hr.mono (by omega)) (pa_cons (pe_ix (r := rIxL K) ix_list (pe_ix (r := rIxT K) ix_tup (pv 1) pe_int (fun _ _ => rfl)) (pv 3) (fun _ _ => rfl)) (pa_cons (pv 4) (pa_cons (pv 5) pa_nil)))))
      (pss_cons (ps_if (pt_cmpR op_isN (pv 6) pe_non (nomark _)) (pss_one (ps_ret pe_non)) pss_nil)
      (pss_one (ps_ret (pe_cc c_law_meet (hr.mono (by omega)) (pa_cons (pv 0) (pa_cons (pv 1) (pa_cons (pv 3) (pa_cons (pe_ix (r := rIxT K) ix_tup (pv 6) pe_int (fun _ _ => rfl)) (pa_cons (pe_ix (r := rIxT K) ix_tup (pv 6) pe_int (fun _ _ => rfl)) pa_nil))))))))))))), ?_⟩
    walk_at "op"
    have hst : L2.start N_law_done [hv, cv, mv] = [some hv, some cv, some mv, none, none, none, none] := rfl
    rw [hst]
    rcases hd with rfl | ⟨⟨x1, x2, x3⟩, rfl⟩
    · refine ⟨_, rfl, _, _, _, _, _, rfl, .ty _, hM.ty, kit_ty (kit_tuple .none), _, rfl, ?_⟩
      rw [if_pos (by rfl), if_pos rfl]
      exact k0 (fun ⟨x, e, _⟩ => by cases e) H (Same.refl H)
    · obtain ⟨am, rfl, ham, _⟩ := tri_parts hM
      obtain ⟨ac, F, ws0, rfl, hac, _, hF, _, hW⟩ := crowd_parts hC
      obtain ⟨ah, hs, rfl, hah, _, hh⟩ := hD.isTup
      have hsl : hs.length = n := by
        obtain ⟨_, e, z, _⟩ := id hN
        cases e
        rw [hh.1, z]
      have no : ¬ Meets3 m rows x1 x2 x3 → Q .non H := fun z => k0 (fun ⟨x, e, hx⟩ => z (by
        have := triD_inj e
        subst this
        exact hx)) H (Same.refl H)
      refine ⟨_, rfl, _, _, _, _, _, rfl, .ty _, hM.ty, kit_ty (kit_tuple _), _, rfl, ?_⟩
      rw [show isTu (triD (x1, x2, x3)) = true from rfl, if_neg (by decide)]
      refine ⟨_, rfl, am, _, rfl, .inr (SqT.of ham), rfl, false, by rfl, ?_⟩
      rw [if_neg (by decide)]
      refine ⟨_, rfl, am, _, rfl, SqT.of ham, rfl, _, _, rfl, _, _, rfl, _, _, rfl, rfl, ?_⟩
      dsimp only [List.set]
      refine ⟨_, rfl, _, _, rfl, rfl, true, by rw [decide_eq_true (show (0 : Int) ≤ ((x1 : Nat) : Int) by omega)], ?_⟩
      rw [if_pos rfl]
      refine ⟨_, rfl, ah, hs, rfl, .inr (SqT.of hah), _, _, rfl, rfl, _, rfl, ?_⟩
      rw [hsl]
      by_cases hf : x1 < n
      · rw [decide_eq_true (show ((x1 : Nat) : Int) < ((n : Nat) : Int) by omega), if_neg (by decide)]
        refine ⟨_, rfl, _, rfl, _, _, rfl, rfl, _, rfl, ?_⟩
        by_cases hab : x2 ≤ x3
        · rw [decide_eq_false (show ¬ ((x2 : Nat) : Int) > ((x3 : Nat) : Int) by omega), if_neg (by decide)]
          have hff : x1 < fl.length := by omega
          obtain ⟨xf, hxf, hdf⟩ := hW.back (i := x1) (d := rowL fl[x1]) (by rw [List.getElem?_map, List.getElem?_eq_getElem hff]; rfl)
          obtain ⟨R, rfl, hR, _⟩ := rowL_parts hdf
          have hfd : fl.getD x1 [] = fl[x1] := by rw [List.getD_eq_getElem?_getD, List.getElem?_eq_getElem hff]; rfl
          have hcm : fl[x1] ∈ fl := List.getElem_mem _
          have hfg : fl[x1]? = some fl[x1] := List.getElem?_eq_getElem _
          have c2 := cnt_cell he hl ok (a := x2) hf
          have c3 := cnt_cell he hl ok (a := x3) hf
          rw [hfd] at c2 c3
          generalize fl[x1] = c at *
          have hls : ∀ l ∈ lensOf fl, l ≤ 100 := fun l hl => Nat.le_trans (le_sumM hl) h100
          have hc100 : c.length ≤ 100 := hls _ (List.mem_map_of_mem hcm)
          have hcl : (lensOf fl).getD x1 0 = c.length := by
            unfold lensOf
            rw [List.getD_eq_getElem?_getD, List.getElem?_map, hfg]
            rfl
          have key : Meets3 m rows x1 x2 x3 ↔ (((x2 : Nat) : Int) ∈ c ∧ ((x3 : Nat) : Int) ∈ c ∧ (((x2 : Nat) : Int) = ((x3 : Nat) : Int) → 2 ≤ c.count ((x2 : Nat) : Int))) := by
            unfold Meets3
            constructor
            · rintro ⟨_, _, _, h4⟩
              by_cases e : x2 = x3
              · subst e
                rw [if_pos rfl] at h4
                have h2 : 2 ≤ c.count ((x2 : Nat) : Int) := by omega
                have hm : ((x2 : Nat) : Int) ∈ c := List.count_pos_iff.mp (by omega)
                exact ⟨hm, hm, fun _ => h2⟩
              · rw [if_neg e] at h4
                exact ⟨List.count_pos_iff.mp (by omega), List.count_pos_iff.mp (by omega), fun z => absurd (by omega) e⟩
            · rintro ⟨h1, h2, h3⟩
              have b1 := (hin c hcm _ h2).2
              refine ⟨by omega, hab, by omega, ?_⟩
              have p1 := List.count_pos_iff.mpr h1
              have p2 := List.count_pos_iff.mpr h2
              by_cases e : x2 = x3
              · rw [if_pos e]
                have := h3 (by rw [e])
                omega
              · rw [if_neg e]
                omega
          refine ⟨_, rfl, ac, _, _, _, rfl, rfl, SqT.of hac, rfl, _, rfl, F, ws0, _, _, rfl, rfl, SqL.of hF, atI_nat hxf, _, rfl, _, rfl, R, c, _, _, rfl, hR, hc100, fun hno => ?_, fun hyes t H' one other hfo ht s1 => ?_⟩
          · refine ⟨_, rfl, rfl, true, by rw [decide_eq_true rfl], ?_⟩
            rw [if_pos rfl]
            exact no fun z => hno (key.mp z)
          · refine ⟨_, rfl, rfl, false, by rw [decide_eq_false (fun z => by cases z)], ?_⟩
            rw [if_neg (by decide)]
            obtain ⟨o1, o2, o3, o4, o5⟩ := hfo
            have hm3 := key.mpr hyes
            refine ⟨_, rfl, _, rfl, _, rfl, _, rfl, t, _, _, _, rfl, rfl, SqT.of ht, rfl, _, rfl, t, _, _, _, rfl, rfl, SqT.of ht, rfl, ?_⟩
            refine ⟨.ref ah, .ref ac, p, ph, u, fs, m, n, x1, one, other, fl, out, rfl, s1 _ _ hp, hD.same s1, hN, hC.same s1, hln, hin, hout, hls, hf, o3, by rw [hcl]; exact o1, by rw [hcl]; exact o2, fun v' H2 fl' out' hv' s2 hX hany hlen hin' hln' hout' hst => ?_⟩
            obtain ⟨c', hc', z, e1, e2⟩ := hst
            rw [hfg] at hc'
            cases hc'
            rw [o4, o5] at e1 e2
            rw [Int.toNat_natCast, Int.toNat_natCast] at e1 e2
            obtain ⟨_, _, _, st'⟩ := met_at (z := z) ok hl hgo hf hab hm3.2.2.1 (he.symm.trans e1)
            refine k1 x1 x2 x3 rfl hm3 v' H2 fl' out' hv' (s1.trans s2) hlen (by rw [hcl]; omega) hin' hln' ?_ (e2.trans st'.symm) (fun q u' hq => hany q u' (s1 _ _ hq))
            obtain ⟨_, _, hX⟩ := hX
            unfold metOut
            rw [hl]
            rcases hX with ⟨q1, q2, _⟩ | ⟨q1, q2, _⟩
            · rw [if_pos q1, q2]
            · rw [if_neg q1, q2]
        · rw [decide_eq_true (show ((x2 : Nat) : Int) > ((x3 : Nat) : Int) by omega), if_pos rfl]
          exact no fun z => hab z.2.1
      · rw [decide_eq_false (show ¬ ((x1 : Nat) : Int) < ((n : Nat) : Int) by omega), if_pos (by decide), if_pos rfl]
        exact no fun z => hf (by have := z.1; omega)

end
end Fm
end FDN
section FDUE
set_option Elab.async false
set_option linter.all false
set_option maxRecDepth 100000
set_option maxHeartbeats 4000000
local macro_rules | `(tactic| walk_at "ne") => `(tactic| first | assumption | (apply Ne.symm; assumption) | exact L2.ne_of_none (by assumption) (by assumption) | exact Ne.symm (L2.ne_of_none (by assumption) (by assumption)))
local macro_rules | `(tactic| walk_at "hl") => `(tactic| first | assumption | exact L2.upd_same | (refine Eq.trans (L2.upd_ne (by walk_at "ne")) ?_; walk_at "hl"))
local macro_rules | `(tactic| walk_at "sd") => `(tactic| first | (with_reducible show (_ : Int) < _; omega) | (with_reducible show (_ : Int) ≤ _; omega) | assumption | decide | exact ⟨by assumption, by assumption⟩ | exact ⟨by decide, by decide⟩ | exact Or.inr ⟨by decide, by decide⟩ | exact Or.inl ⟨by omega, by omega⟩ | rfl)
local macro_rules | `(tactic| walk_at "st1") => `(tactic| first
  | refine ⟨_, rfl, ?_⟩
  | refine ⟨_, _, rfl, rfl, ?_⟩
  | refine ⟨_, _, rfl, ?_⟩
  | (refine ⟨_, _, _, _, rfl, rfl, L2.SqL.of (by walk_at "hl"), rfl, ?_⟩)
  | (refine ⟨_, _, _, _, rfl, rfl, L2.SqT.of (by walk_at "hl"), rfl, ?_⟩)
  | (refine ⟨_, _, _, _, rfl, rfl, (by walk_at "hl"), rfl, ?_⟩)
  | (refine And.intro (by walk_at "sd") ?_)
  )
local macro_rules | `(tactic| walk_at "st") => `(tactic| repeat walk_at "st1")
local macro_rules | `(tactic| walk_at "op") => `(tactic| try dsimp only [L2.tSeq, L2.tAsg, L2.tOp, L2.tVar, L2.tC, L2.gSub, L2.rI, L2.rI0, L2.rIxL, L2.rIxT, L2.rSetL, L2.tIfS, L2.tTest, L2.tRet, L2.gName, L2.tNext, L2.tAnd, L2.tOr, L2.tNot, L2.tAndV, L2.tOrV, L2.tNotV, L2.tB, L2.tCB, L2.tCons, L2.tNil, L2.tCall, L2.tTup, L2.tLst, L2.tChain, L2.tUn, L2.tPar, L2.tDrop, L2.tIf, L2.tBM, L2.tBM0, L2.rAppend, L2.rCat, L2.rIsi, L2.rIsiT, L2.gTup, L2.gCons, L2.gNil, Fm.tFor_eq, Fm.tLc_eq, Fm.tLc2_eq, L2.iTup, L2.iList, L2.iRng1, L2.iRng2, L2.tSl, L2.tPart, L2.tNoPart, L2.rSlL, L2.rEq, L2.rNe, L2.rU, L2.rEqD, L2.rNeD, Fm.tRevT, Fm.rLenS, Fm.rTupOf, Fm.rLstOf, L2.tDNewK, L2.tCallS, L2.WE, Fm.wKeep, Fm.rIsK, Fm.rIsKT, List.cons_append, List.nil_append, L2.tYes])
namespace Fm
open PySem PySem.Spec PyProof.Rows L2
abbrev s_law_due : Stmt := top 48
abbrev N_law_due : List Str := ["house", "standing", "row", "crowd", "at", "meeting"]
theorem sc_law_due : FnScope N_law_due ["house", "standing", "row"] (defScope s_law_due) := ⟨rfl, rfl, rfl, by decide +kernel, rfl, by decide +kernel, by decide +kernel⟩
section
variable {P : Program} {w : World} {K : PySem.W.Frag} {mg : Str → Option Value} {base : Heap}
/-! ### what a row comes to, by people told apart -/
theorem cnt_rows {m n : Nat} {fl rows : List (List Int)} {out o : Int} (he : flSt n fl out = FmC.stSt n rows o) (hl : rows.length = n) (ok : StOk m rows o) (hfl : fl.length = n) : fl.map (cntR m) = rows := by
  refine List.ext_getElem? fun g => ?_
  by_cases hg : g < n
  · have h1 : fl[g]? = some (fl.getD g []) := by
      rw [List.getD_eq_getElem?_getD, List.getElem?_eq_getElem (by omega)]
      rfl
    have h2 := rows_at (show g < rows.length by omega)
    have hlen := ok.len _ (List.mem_of_getElem? h2)
    rw [List.getElem?_map, h1, h2]
    show some (cntR m (fl.getD g [])) = some (rows.getD g [])
    refine congrArg some (List.ext_getElem? fun a => ?_)
    by_cases ha : a < m
    · have h3 := cnt_cell he hl ok (a := a) hg
      unfold cellN at h3
      unfold cntR
      rw [List.getElem?_map, List.getElem?_range ha, show (rows.getD g [])[a]? = some ((rows.getD g []).getD a 0) by rw [List.getD_eq_getElem?_getD (l := rows.getD g []), List.getElem?_eq_getElem (by omega)]; rfl, ← h3]
      rfl
    · rw [List.getElem?_eq_none (by rw [cntR_len]; omega), List.getElem?_eq_none (by omega)]
  · rw [List.getElem?_eq_none (by rw [List.length_map]; omega), List.getElem?_eq_none (by omega)]
theorem crowd_sum {m : Nat} {rows : List (List Int)} {out : Int} (ok : StOk m rows out) : ((((lensOf (rows.map fun c => rowOf c m)).sum : Nat) : Int)) = (rows.map List.sum).sum := by
  rw [← lens_cast ok]
  generalize lensOf (rows.map fun c => rowOf c m) = l
  induction l with
  | nil => rfl
  | cons x r ih => rw [List.sum_cons, List.map_cons, List.sum_cons, ← ih]; omega
theorem sum_nn : ∀ {c : List Int}, (∀ x ∈ c, 0 ≤ x) → 0 ≤ c.sum
  | [], _ => Int.le_refl 0
  | x :: r, h => by
    have := sum_nn fun y hy => h y (List.mem_cons_of_mem _ hy)
    have := h x List.mem_cons_self
    rw [List.sum_cons]
    omega
def spDue : Sp := fun vs H Q _ => ∃ (hv sv : V) (L p ph pm : Addr) (u : HO) (fs : List PyData) (m n : Nat) (rows : List (List Int)) (out : Int) (xs : List V) (ds : List PyData), vs = [hv, sv, .ref L] ∧ H p = some u ∧ Dat H ph hv (.tuple fs) ∧ HouseN m n (.tuple fs) ∧ Dat H p sv (stD rows out) ∧ rows.length = n ∧ StOk m rows out ∧ (rows.map List.sum).sum ≤ 100 ∧
  H L = some (.lst xs) ∧ Dats H pm xs ds ∧ (∀ d ∈ ds, d = .none ∨ ∃ x, d = triD x) ∧ (∀ k r o H', GoneTo fs m ds rows out k r o → k < ds.length → Same H H' → Q (.int (k : Nat)) H') ∧
  (∀ r o v H', GoneTo fs m ds rows out ds.length r o → Dat H' p v (stD r o) → Same H H' → Q v H')
theorem ok_law_due (D : Df K mg "_law_due" s_law_due ["house", "standing", "row"]) (T : Nms mg) (c_law_crowd : CallOk P w K mg base CX0 1 "_law_crowd" ["standing"] spCrowd) (c_law_done : CallOk P w K mg base CX0 2 "_law_done" ["house", "crowd", "meeting"] spDone) (c_law_counted : CallOk P w K mg base CX0 1 "_law_counted" ["m", "crowd"] spCounted) :
    CallOk P w K mg base CX0 3 "_law_due" ["house", "standing", "row"] spDue := by
  refine df_ok D sc_law_due (fun vs H Q E h => ?_) (fun f cdv A outer s H vs Q E hr h => ?_)
  · obtain ⟨hv, sv, L, p, ph, pm, u, fs, m, n, rows, out, xs, ds, rfl, _⟩ := h
    rfl
  · obtain ⟨hv, sv, L, p, ph, pm, u, fs, m, n, rows, out, xs, ds, rfl, hp, hD, hN, sD, hl, ok, h100, hL, hds, hall, k1, k2⟩ := h
    have nd := sc_law_due.nd
    have hgo := goLt_of hD hN
    have hmn : 1 ≤ n ∧ n ≤ 4 ∧ 1 ≤ m ∧ m ≤ 6 := by
      obtain ⟨_, _, _, z1, z2, z3, z4, _⟩ := hN
      exact ⟨z1, z2, z3, z4⟩
    refine ⟨_, (pss_cons (ps_set (i := 3) nd rfl (Or.inl rfl) (pe_cc c_law_crowd (hr.mono (by omega)) (pa_cons (pv 1) pa_nil)))
      (pss_cons (ps_for PassesOwn.never rfl (pi_enum (by rfl) T.n_enumerate (pa_cons (pv 2) pa_nil)) (pg_tup rfl (pgs_cons (pg_name (i := 4) nd rfl (Or.inl rfl)) (pgs_cons (pg_name (i := 5) nd rfl (Or.inl rfl)) pgs_nil))) (pss_cons (ps_set (i := 3) nd rfl (Or.inl rfl) (pe_cc c_law_done (hr.mono (by omega)) (pa_cons (pv 0) (pa_cons (pv 3) (pa_cons (pv 5) pa_nil)))))
      (pss_one (ps_if (pt_cmpR op_isN (pv 3) pe_non (nomark _)) (pss_one (ps_ret (pv 4))) pss_nil))))
      (pss_one (ps_ret (pe_cc c_law_counted (hr.mono (by omega)) (pa_cons (pe_callB (r := rLenS K) call_lenS (by rfl) T.n_len (by decide +kernel) (pa_cons (pe_ix (r := rIxT K) ix_tup (pe_ix (r := rIxT K) ix_tup (pv 0) pe_int (fun _ _ => rfl)) pe_int (fun _ _ => rfl)) pa_nil)) (pa_cons (pv 3) pa_nil))))))), ?_⟩
    walk_at "op"
    have hst : L2.start N_law_due [hv, sv, .ref L] = [some hv, some sv, some (.ref L), none, none, none] := rfl
    rw [hst]
    refine ⟨_, rfl, sv, p, u, rows, out, m, rfl, hp, sD, by omega, hmn.2.2.1, hmn.2.2.2, ok, fun r hr => ?_, fun cv G0 hC0 s0 => ?_⟩
    · refine Int.le_trans (le_sum (fun x hx => ?_) (List.mem_map_of_mem hr)) h100
      obtain ⟨r', hr', rfl⟩ := List.mem_map.mp hx
      exact sum_nn (ok.pos r' hr')
    try dsimp only [List.set]
    refine ⟨_, rfl, L, xs, rfl, SqL.of (s0 _ _ hL), ?_⟩
    refine fI walk_enum (fun i σ G => ∃ (u4 u5 : Option V) (v : V) (fl ri : List (List Int)) (oi : Int) (l : List (Nat × Nat × Nat)), σ = [some hv, some sv, some (.ref L), some v, u4, u5] ∧ Same H G ∧ Dat G p v (crowdD fl oi) ∧ fl.length = n ∧ RowsIn m fl ∧ (lensOf fl).sum ≤ 100 ∧ flSt n fl oi = FmC.stSt n ri oi ∧ ri.length = n ∧ StOk m ri oi ∧ RunM fs m rows out l ri oi ∧ ds.take i = l.map triD)
      ⟨_, _, cv, _, rows, out, [], rfl, s0, hC0, by rw [List.length_map]; exact hl, rows_in rows, by have := crowd_sum ok; omega, crowd_st hl ok, hl, ok, .nil _ _, rfl⟩ (fun i σ G _ ⟨_, _, _, _, _, _, _, _, e, _⟩ => SqL.of (e _ _ hL)) ?_ ?_
    · rintro i v σ G _ hi ⟨u4, u5, v, fl, ri, oi, l, rfl, sG, hC, hln, hin, hsum, he, hri, oki, hRi, hli⟩ ⟨t, x, y, rfl, ht, rfl, hxi, hyi⟩
      dsimp only at hxi hyi
      cases hxi
      obtain ⟨d, hdi, hyd⟩ := hds.at hyi
      have st := same_new (o := .tup [V.int (i : Nat), y]) ht
      have htt : upd G t (.tup [V.int (i : Nat), y]) t = some (.tup [V.int (i : Nat), y]) := upd_same
      have s1 := sG.trans st
      have hC1 := hC.same st
      generalize upd G t (.tup [V.int (i : Nat), y]) = G1 at *
      walk_at "op"
      refine ⟨t, _, rfl, SqT.of htt, rfl, _, _, rfl, _, _, rfl, rfl, ?_⟩
      refine ⟨_, rfl, _, rfl, _, rfl, hv, v, y, p, ph, pm, u, fs, m, n, fl, ri, oi, d, rfl, s1 _ _ hp, hD.same s1, hN, hC1, hyd.same s1, hall d (List.mem_of_getElem? hdi), hln, hin, oki.out, hsum, hri, oki, he, fun hno H2 s2 => ?_, fun fm a b e hm v' H2 fl' out' hv' s2 hlen h2 hin' hln' ho' he' _ => ?_⟩
      · refine ⟨_, rfl, rfl, true, by rw [decide_eq_true rfl], ?_⟩
        rw [if_pos rfl]
        refine ⟨_, rfl, k1 i ri oi H2 ⟨Nat.le_of_lt (List.getElem?_eq_some_iff.mp hdi).1, ⟨l, hli, hRi⟩, fun d' hd' => ?_⟩ (List.getElem?_eq_some_iff.mp hdi).1 (s1.trans s2)⟩
        rw [hdi] at hd'
        cases hd'
        exact hno
      · subst e
        obtain ⟨ac, F, ws0, rfl, _⟩ := crowd_parts hv'
        refine ⟨_, rfl, rfl, false, by rw [decide_eq_false (fun z => by cases z)], ?_⟩
        rw [if_neg (by decide)]
        subst ho'
        refine ⟨_, _, _, fl', _, _, l ++ [(fm, a, b)], rfl, s1.trans s2, hv', hln', hin', ?_, he', metRows_len hri, met_ok oki hri hgo hm, hRi.snoc hm, by rw [take_snoc hdi, hli, List.map_append]; rfl⟩
        rw [hlen]
        exact Nat.le_trans (step_sum fm (lensOf fl) (by omega)) hsum
    · rintro σ G ⟨u4, u5, v, fl, ri, oi, l, rfl, sG, hC, hln, hin, hsum, he, hri, oki, hRi, hli⟩
      walk_at "op"
      obtain ⟨ah, af0, hs, t00, t01, rfl, g1, g2, g3, hF0⟩ := floor_at (hD.same sG) hN (f := 0) (by omega)
      obtain ⟨ss, hss, hsl⟩ := stay_len (hD.same sG) hN (by omega) g1 g3 hF0
      refine ⟨_, rfl, ah, hs, 0, _, rfl, rfl, SqT.of g1, atI_nat (j := 0) g3, af0, _, 0, _, rfl, rfl, SqT.of hF0.at_, rfl, t00, ss, rfl, .inr (SqT.of hss), ?_⟩
      rw [hsl]
      refine ⟨_, rfl, v, p, u, m, fl, oi, rfl, sG _ _ hp, hC, by omega, by omega, hmn.2.2.2, fun v' H' hv' s' => ?_⟩
      rw [cnt_rows he hri oki hln] at hv'
      have hxl := hds.1
      rw [hxl] at hli
      exact k2 ri oi v' H' ⟨Nat.le_refl _, ⟨l, hli, hRi⟩, fun d hd => by
        rw [List.getElem?_eq_none (Nat.le_refl _)] at hd
        cases hd⟩ hv' (sG.trans s')

end
end Fm
end FDUE
section FDRW
set_option Elab.async false
set_option linter.all false
set_option maxRecDepth 100000
set_option maxHeartbeats 4000000
local macro_rules | `(tactic| walk_at "ne") => `(tactic| first | assumption | (apply Ne.symm; assumption) | exact L2.ne_of_none (by assumption) (by assumption) | exact Ne.symm (L2.ne_of_none (by assumption) (by assumption)))
local macro_rules | `(tactic| walk_at "hl") => `(tactic| first | assumption | exact L2.upd_same | (refine Eq.trans (L2.upd_ne (by walk_at "ne")) ?_; walk_at "hl"))
local macro_rules | `(tactic| walk_at "sd") => `(tactic| first | (with_reducible show (_ : Int) < _; omega) | (with_reducible show (_ : Int) ≤ _; omega) | assumption | decide | exact ⟨by assumption, by assumption⟩ | exact ⟨by decide, by decide⟩ | exact Or.inr ⟨by decide, by decide⟩ | exact Or.inl ⟨by omega, by omega⟩ | rfl)
local macro_rules | `(tactic| walk_at "st1") => `(tactic| first
  | refine ⟨_, rfl, ?_⟩
  | refine ⟨_, _, rfl, rfl, ?_⟩
  | refine ⟨_, _, rfl, ?_⟩
  | (refine ⟨_, _, _, _, rfl, rfl, L2.SqL.of (by walk_at "hl"), rfl, ?_⟩)
  | (refine ⟨_, _, _, _, rfl, rfl, L2.SqT.of (by walk_at "hl"), rfl, ?_⟩)
  | (refine ⟨_, _, _, _, rfl, rfl, (by walk_at "hl"), rfl, ?_⟩)
  | (refine And.intro (by walk_at "sd") ?_)
  )
local macro_rules | `(tactic| walk_at "st") => `(tactic| repeat walk_at "st1")
local macro_rules | `(tactic| walk_at "op") => `(tactic| try dsimp only [L2.tSeq, L2.tAsg, L2.tOp, L2.tVar, L2.tC, L2.gSub, L2.rI, L2.rI0, L2.rIxL, L2.rIxT, L2.rSetL, L2.tIfS, L2.tTest, L2.tRet, L2.gName, L2.tNext, L2.tAnd, L2.tOr, L2.tNot, L2.tAndV, L2.tOrV, L2.tNotV, L2.tB, L2.tCB, L2.tCons, L2.tNil, L2.tCall, L2.tTup, L2.tLst, L2.tChain, L2.tUn, L2.tPar, L2.tDrop, L2.tIf, L2.tBM, L2.tBM0, L2.rAppend, L2.rCat, L2.rIsi, L2.rIsiT, L2.gTup, L2.gCons, L2.gNil, Fm.tFor_eq, Fm.tLc_eq, Fm.tLc2_eq, L2.iTup, L2.iList, L2.iRng1, L2.iRng2, L2.tSl, L2.tPart, L2.tNoPart, L2.rSlL, L2.rEq, L2.rNe, L2.rU, L2.rEqD, L2.rNeD, Fm.tRevT, Fm.rLenS, Fm.rTupOf, Fm.rLstOf, L2.tDNewK, L2.tCallS, L2.WE, Fm.wKeep, Fm.rIsK, Fm.rIsKT, List.cons_append, List.nil_append, L2.tYes])
namespace Fm
open PySem PySem.Spec PyProof.Rows L2
abbrev s_law_drawn : Stmt := top 49
abbrev N_law_drawn : List Str := ["bag", "house", "standing", "crowd", "found", "some", "floor", "one", "other", "a", "b"]
theorem sc_law_drawn : FnScope N_law_drawn ["bag", "house", "standing"] (defScope s_law_drawn) := ⟨rfl, rfl, rfl, by decide +kernel, rfl, by decide +kernel, by decide +kernel⟩
section
variable {P : Program} {w : World} {K : PySem.W.Frag} {mg : Str → Option Value} {base : Heap}
/-! ### a drawn run -/
theorem Bag.sm {H H' : Hp} {p : Addr} (h : Bag H p) (e : Same H H') : Bag H' p := by
  obtain ⟨x, y, c, q⟩ := h
  exact ⟨x, y, c, e _ _ q⟩
theorem Dat.both {H : Hp} {p q : Addr} {v : V} {d : PyData} {o : HO} (h : Dat H p v d) : Dat H q v d → Dat (upd H p o) q v d := by
  induction h with
  | non => exact fun _ => .non
  | bl b => exact fun _ => .bl b
  | int i => exact fun _ => .int i
  | str x => exact fun _ => .str x
  | tup h1 h2 h3 h4 ih =>
    intro k
    cases k with
    | tup k1 k2 k3 k4 =>
      rw [h1] at k1
      cases k1
      exact .tup (by rw [upd_ne h2]; exact h1) k2 h3 fun i x d a b => ih i x d a b (k4 i x d a b)
  | lst h1 h2 h3 h4 ih =>
    intro k
    cases k with
    | lst k1 k2 k3 k4 =>
      rw [h1] at k1
      cases k1
      exact .lst (by rw [upd_ne h2]; exact h1) k2 h3 fun i x d a b => ih i x d a b (k4 i x d a b)
  | dct h1 h2 =>
    intro k
    cases k with
    | dct k1 k2 => exact .dct (by rw [upd_ne h2]; exact h1) k2
theorem Dat.fresh2 {H : Hp} {p q : Addr} {v : V} {d : PyData} (hq : H q = none) (h : Dat H p v d) : Dat H q v d := by
  induction h with
  | non => exact .non
  | bl b => exact .bl b
  | int i => exact .int i
  | str x => exact .str x
  | tup h1 h2 h3 h4 ih => exact .tup h1 (fun z => by rw [z, hq] at h1; cases h1) h3 ih
  | lst h1 h2 h3 h4 ih => exact .lst h1 (fun z => by rw [z, hq] at h1; cases h1) h3 ih
  | dct h1 h2 => exact .dct h1 (fun z => by rw [z, hq] at h1; cases h1)
theorem Dat.bothE {H H' : Hp} {p q : Addr} {v : V} {d : PyData} (e : Ext p H H') (h : Dat H p v d) : Dat H q v d → Dat H' q v d := by
  induction h with
  | non => exact fun _ => .non
  | bl b => exact fun _ => .bl b
  | int i => exact fun _ => .int i
  | str x => exact fun _ => .str x
  | tup h1 h2 h3 h4 ih =>
    intro k
    cases k with
    | tup k1 k2 k3 k4 =>
      rw [h1] at k1
      cases k1
      exact .tup (e _ _ h1 h2) k2 h3 fun i x d a b => ih i x d a b (k4 i x d a b)
  | lst h1 h2 h3 h4 ih =>
    intro k
    cases k with
    | lst k1 k2 k3 k4 =>
      rw [h1] at k1
      cases k1
      exact .lst (e _ _ h1 h2) k2 h3 fun i x d a b => ih i x d a b (k4 i x d a b)
  | dct h1 h2 =>
    intro k
    cases k with
    | dct k1 k2 => exact .dct (e _ _ h1 h2) k2
def SmallT (l : List (Nat × Nat × Nat)) : Prop := ∀ x ∈ l, x.1 < 10 ∧ x.2.1 < 10 ∧ x.2.2 < 10
def spDrawn : Sp := fun vs H Q _ => ∃ (p : Addr) (hv sv : V) (fs : List PyData) (m n : Nat) (rows : List (List Int)) (out : Int), vs = [.ref p, hv, sv] ∧ Bag H p ∧ Dat H p hv (.tuple fs) ∧ HouseN m n (.tuple fs) ∧ Dat H p sv (stD rows out) ∧ rows.length = n ∧ StOk m rows out ∧ (rows.map List.sum).sum ≤ 100 ∧
  ∀ (L : Addr) (ws : List V) (l : List (Nat × Nat × Nat)) (H' : Hp), Bag H' p → Ext p H H' → H' L = some (.lst ws) → L ≠ p → Dats H' p ws (l.map triD) → l.length ≤ 400 → SmallT l → Q (.ref L) H'
theorem ok_law_drawn (D : Df K mg "_law_drawn" s_law_drawn ["bag", "house", "standing"]) (T : Nms mg) (c_law_pick : CallOk P w K mg base CX0 1 "_law_pick" ["bag", "many"] spPick) (c_law_crowd : CallOk P w K mg base CX0 1 "_law_crowd" ["standing"] spCrowd) (c_law_pairs : CallOk P w K mg base CX0 1 "_law_pairs" ["crowd"] spPairs)
    (c_law_meet : CallOk P w K mg base CX0 1 "_law_meet" ["house", "crowd", "floor", "one", "other"] spMeet) : CallOk P w K mg base CX0 2 "_law_drawn" ["bag", "house", "standing"] spDrawn := by
  refine df_ok D sc_law_drawn (fun vs H Q E h => ?_) (fun f cdv A outer s H vs Q E hr h => ?_)
  · obtain ⟨p, hv, sv, fs, m, n, rows, out, rfl, _⟩ := h
    rfl
  · obtain ⟨p, hv, sv, fs, m, n, rows, out, rfl, hB, hD, hN, sD, hl, ok, h100, k⟩ := h
    have nd := sc_law_drawn.nd
    have hmn : 1 ≤ n ∧ n ≤ 4 ∧ 1 ≤ m ∧ m ≤ 6 := by
      obtain ⟨_, _, _, z1, z2, z3, z4, _⟩ := hN
      exact ⟨z1, z2, z3, z4⟩
    obtain ⟨u, hp⟩ := hB.here
    refine ⟨_, (pss_cons (ps_set (i := 3) nd rfl (Or.inl rfl) (pe_cc c_law_crowd (hr.mono (by omega)) (pa_cons (pv 2) pa_nil)))
      (pss_cons (ps_set (i := 4) nd rfl (Or.inl rfl) (pe_lst pa_nil))
      (pss_cons (ps_while PassesOwn.never (pt_cmpR (r := rNeD K) (op_neD hr.units) (pe_cc c_law_pairs (hr.mono (by omega)) (pa_cons (pv 3) pa_nil)) (pe_lst pa_nil) (nomark _)) (pss_cons (ps_set (i := 5) nd rfl (Or.inl rfl) (pe_cc c_law_pairs (hr.mono (by omega)) (pa_cons (pv 3) pa_nil)))
      (pss_cons (ps_asg (pe_ix (r := rIxL K) ix_list (pv 5) (pe_cc c_law_pick (hr.mono (by omega)) (pa_cons (pv 0) (pa_cons (pe_callB (r := rLenS K) call_lenS (by rfl) T.n_len (by decide +kernel) (pa_cons (pv 5) pa_nil)) pa_nil))) (fun _ _ => rfl)) (pg_tup rfl (pgs_cons (pg_name (i := 6) nd rfl (Or.inl rfl)) (pgs_cons (pg_name (i := 7) nd rfl (Or.inl rfl)) (pgs_cons (pg_name (i := 8) nd rfl (Or.inl rfl)) pgs_nil)))))
      (pss_cons (ps_par (i := 9) (j := 10) (by rfl) nd rfl rfl (by decide) rfl rfl (pa_cons (pe_ix (r := rIxL K) ix_list (pe_ix (r := rIxL K) ix_list (pe_ix (r := rIxT K) ix_tup (pv 3) pe_int (fun _ _ => rfl)) (pv 6) (fun _ _ => rfl)) (pv 7) (fun _ _ => rfl)) (pa_cons (pe_ix (r := rIxL K) ix_list (pe_ix (r := rIxL K) ix_list (pe_ix (r := rIxT K) ix_tup (pv 3) pe_int (fun _ _ => rfl)) (pv 6) (fun _ _ => rfl)) (pv 8) (fun _ _ => rfl)) pa_nil)) (by rfl))
      (pss_cons (ps_expr (pe_bm PySem.F.plainAttrs_list PySem.F.slot_list_append PySem.F.type_list_append mt_append (pv 4) (pa_cons (pe_tup (pa_cons (pv 6) (pa_cons (pe_callB (call_min2 rfl) (by rfl) T.n_min (by decide +kernel) (pa_cons (pv 9) (pa_cons (pv 10) pa_nil))) (pa_cons (pe_callB (call_max2 rfl) (by rfl) T.n_max (by decide +kernel) (pa_cons (pv 9) (pa_cons (pv 10) pa_nil))) pa_nil)))) pa_nil)))
      (pss_one (ps_set (i := 3) nd rfl (Or.inl rfl) (pe_cc c_law_meet (hr.mono (by omega)) (pa_cons (pv 1) (pa_cons (pv 3) (pa_cons (pv 6) (pa_cons (pv 7) (pa_cons (pv 8) pa_nil)))))))))))))
      (pss_one (ps_ret (pv 4)))))), ?_⟩
    walk_at "op"
    have hst : L2.start N_law_drawn [.ref p, hv, sv] = [some (.ref p), some hv, some sv, none, none, none, none, none, none, none, none] := rfl
    rw [hst]
    refine ⟨_, rfl, sv, p, u, rows, out, m, rfl, hp, sD, by omega, hmn.2.2.1, hmn.2.2.2, ok, fun r hr => ?_, fun cv G0 hC0 s0 => ?_⟩
    · refine Int.le_trans (le_sum (fun x hx => ?_) (List.mem_map_of_mem hr)) h100
      obtain ⟨r', hr', rfl⟩ := List.mem_map.mp hx
      exact sum_nn (ok.pos r' hr')
    try dsimp only [List.set]
    refine ⟨by show 0 ≤ sizeLine; decide, fun L hL => ?_⟩
    have sL := same_new (o := .lst []) hL
    have hLp : L ≠ p := ne_of_none' hL (s0 _ _ hp)
    have hLH := sameFree s0 hL
    have hL1 : upd G0 L (.lst []) L = some (.lst []) := upd_same
    have hC1 := hC0.same sL
    have hCL1 := (hC0.fresh2 hL).same sL
    have s1 := s0.trans sL
    generalize upd G0 L (.lst []) = G1 at *
    have hsum0 : (lensOf (rows.map fun c => rowOf c m)).sum ≤ 100 := by have := crowd_sum ok; omega
    have hbd : left_ (comeN 0 (lensOf (rows.map fun c => rowOf c m))) ≤ 400 := by
      have h1 := left_le 0 (lensOf (rows.map fun c => rowOf c m))
      have h2 : (lensOf (rows.map fun c => rowOf c m)).length = n := by unfold lensOf; rw [List.length_map, List.length_map, hl]
      rw [h2] at h1
      have h4 : n * (0 + (lensOf (rows.map fun c => rowOf c m)).sum) ≤ 4 * 100 := Nat.mul_le_mul hmn.2.1 (by omega)
      omega
    have hfl : (rows.map fun c => rowOf c m).length = n := by rw [List.length_map]; exact hl
    have hin : RowsIn m (rows.map fun c => rowOf c m) := rows_in rows
    generalize (rows.map fun c => rowOf c m) = fl at *
    try dsimp only [List.set]
    refine ⟨fun μ σ H1 => ∃ (fl1 : List (List Int)) (out1 : Int) (cv1 : V) (l : List (Nat × Nat × Nat)) (ws : List V) (u5 u6 u7 u8 u9 u10 : Option V), σ = [some (.ref p), some hv, some sv, some cv1, some (.ref L), u5, u6, u7, u8, u9, u10] ∧ Bag H1 p ∧ Ext p H H1 ∧ H1 L = some (.lst ws) ∧ Dats H1 p ws (l.map triD) ∧ Dat H1 p cv1 (crowdD fl1 out1) ∧ Dat H1 L cv1 (crowdD fl1 out1) ∧ fl1.length = n ∧ RowsIn m fl1 ∧ 0 ≤ out1 ∧ (lensOf fl1).sum ≤ 100 ∧
        left_ (comeN 0 (lensOf fl1)) = μ ∧ l.length + μ = left_ (comeN 0 (lensOf fl)) ∧ SmallT l,
      ⟨_, fl, out, cv, [], [], _, _, _, _, _, _, rfl, hB.sm s1, Same.ext s1 p, hL1, Dats.nil, hC1, hCL1, hfl, hin, ok.out, hsum0, rfl, by simp, fun x hx => by cases hx⟩, ?_⟩
    rintro μ σ H1 ⟨fl1, out1, cv1, l, ws, u5, u6, u7, u8, u9, u10, rfl, hB1, x1, hL1, hW1, hC1, hCL, hl1, hin1, ho1, hs1, hμ, hmany, hsmall⟩
    obtain ⟨u, hu⟩ := hB1.here
    have hl100 : ∀ l ∈ lensOf fl1, l ≤ 100 := fun l hl => Nat.le_trans (le_sumM hl) hs1
    walk_at "op"
    refine ⟨_, rfl, cv1, p, u, fl1, out1, rfl, hu, hC1, by omega, hl100, fun q ws' H2 hq hq2 hWs sm2 => ?_⟩
    have htups : ∀ d ∈ allP (lensOf fl1) fl1.length, ∃ f one other, d = tup3 f one other := fun d hd => by
      obtain ⟨f, one, other, e, _⟩ := allP_mem hd
      exact ⟨f, one, other, e⟩
    obtain ⟨hsh, hdi⟩ := shaped_tups htups
    have hqp : q ≠ p := fun z => by rw [z, hu] at hq; cases hq
    have dq : Dat H2 p (.ref q) (.list (allP (lensOf fl1) fl1.length)) := .lst hq2 hqp hWs.1 hWs.2
    refine ⟨by show 0 ≤ sizeLine; decide, fun t ht => ?_⟩
    refine ⟨_, .list [], (dq.off ht).dp hdi, .lst (SqL.of upd_same) .nil, hsh, (by decide), ?_⟩
    rw [eqv_nil]
    refine ⟨_, rfl, ?_⟩
    have sm3 : Same H1 (upd H2 t (.lst [])) := sm2.trans (same_new ht)
    have x3 : Ext p H (upd H2 t (.lst [])) := x1.trans (Same.ext sm3 p)
    have hB3 : Bag (upd H2 t (.lst [])) p := by
      obtain ⟨b1, b2, b3, e⟩ := hB1
      exact ⟨b1, b2, b3, sm3 _ _ e⟩
    have hC3 := hC1.same sm3
    have hCL3 := hCL.same sm3
    have hL3 := sm3 _ _ hL1
    have hW3 := hW1.same sm3
    generalize upd H2 t (.lst []) = H3 at *
    by_cases hrest : ∀ l ∈ lensOf fl1, l ≤ 1
    · have e0 : allP (lensOf fl1) fl1.length = [] := allP_none fun f hf => by
        rw [List.getD_eq_getElem?_getD]
        cases e : (lensOf fl1)[f]? with
        | none => exact Nat.zero_le _
        | some l => exact hrest l (List.mem_of_getElem? e)
      rw [e0]
      refine iteF ?_
      walk_at "op"
      exact ⟨_, rfl, k L ws l _ hB3 x3 hL3 hLp hW3 (by omega) hsmall⟩
    · have e0 : allP (lensOf fl1) fl1.length ≠ [] := by
        intro e
        refine hrest fun l hl => ?_
        obtain ⟨f, hf⟩ := List.getElem?_of_mem hl
        have hf' : f < fl1.length := by
          have := (List.getElem?_eq_some_iff.mp hf).1
          unfold lensOf at this
          rw [List.length_map] at this
          exact this
        have hgd : (lensOf fl1).getD f 0 = l := by rw [List.getD_eq_getElem?_getD, hf]; rfl
        by_cases h2 : 2 ≤ l
        · exact absurd e (allP_some hf' (by rw [hgd]; exact h2))
        · omega
      have e1 : (allP (lensOf fl1) fl1.length).isEmpty = false := by
        cases e : allP (lensOf fl1) fl1.length with
        | nil => exact absurd e e0
        | cons x r => rfl
      rw [e1]
      refine iteT ?_
      refine ⟨fun σ' H' => ∃ μ', μ' < μ ∧ ∃ (fl1 : List (List Int)) (out1 : Int) (cv1 : V) (l : List (Nat × Nat × Nat)) (ws : List V) (u5 u6 u7 u8 u9 u10 : Option V), σ' = [some (.ref p), some hv, some sv, some cv1, some (.ref L), u5, u6, u7, u8, u9, u10] ∧ Bag H' p ∧ Ext p H H' ∧ H' L = some (.lst ws) ∧ Dats H' p ws (l.map triD) ∧ Dat H' p cv1 (crowdD fl1 out1) ∧ Dat H' L cv1 (crowdD fl1 out1) ∧ fl1.length = n ∧ RowsIn m fl1 ∧ 0 ≤ out1 ∧ (lensOf fl1).sum ≤ 100 ∧
        left_ (comeN 0 (lensOf fl1)) = μ' ∧ l.length + μ' = left_ (comeN 0 (lensOf fl)) ∧ SmallT l, fun σ' H' h => h, ?_⟩
      obtain ⟨u3, hu3⟩ := hB3.here
      refine ⟨_, rfl, cv1, p, u3, fl1, out1, rfl, hu3, hC3, by omega, hl100, fun q' ws' H4 hq' hq2' hWs' sm4 => ?_⟩
      have hq'p : q' ≠ p := fun z => by rw [z, hu3] at hq'; cases hq'
      have hB4 := hB3.sm sm4
      have x4 := x3.trans (Same.ext sm4 p)
      try dsimp only [List.set]
      have wl : ws'.length ≤ 40000 := by
        have := allP_len hl100 fl1.length
        rw [hWs'.1]
        omega
      have wl0 : 0 < ws'.length := by
        rw [hWs'.1]
        exact List.length_pos_iff.mpr e0
      refine ⟨_, rfl, _, rfl, _, rfl, q', ws', rfl, .inl (SqL.of hq2'), ?_⟩
      refine ⟨p, ws'.length, rfl, by omega, (by have q := PySem.Flt.log2_lt_of (by decide : 0 < 17) (show ws'.length < 2 ^ 17 from Nat.lt_of_le_of_lt wl (by decide)); rw [Int.natAbs_natCast]; omega), hB4, fun i H5 i0 i1 hB5 x5 => ?_⟩
      have hq5 := x5 _ _ hq2' hq'p
      have hi : i.toNat < ws'.length := by omega
      have hi2 : i.toNat < (allP (lensOf fl1) fl1.length).length := by rw [← hWs'.1]; exact hi
      obtain ⟨f, one, other, ed, ef, eo, e1'⟩ := allP_mem (List.getElem_mem hi2)
      have hWi := hWs'.2 i.toNat _ _ (List.getElem?_eq_getElem hi) (List.getElem?_eq_getElem hi2)
      rw [ed] at hWi
      obtain ⟨r, ys, er, hr5, hrp, hys⟩ := (hWi.ext x5).isTup
      have hyl : ys.length = 3 := hys.1
      match ys, hyl with
      | [y1, y2, y3], _ =>
      obtain rfl := (hys.2 0 y1 _ rfl rfl).isInt
      obtain rfl := (hys.2 1 y2 _ rfl rfl).isInt
      obtain rfl := (hys.2 2 y3 _ rfl rfl).isInt
      have x05 := x4.trans x5
      refine ⟨q', ws', i, .ref r, rfl, rfl, SqL.of hq5, atI_of i0 (by rw [List.getElem?_eq_getElem hi, er]), ?_⟩
      refine ⟨r, _, rfl, SqT.of hr5, rfl, _, _, rfl, _, _, rfl, _, _, rfl, rfl, ?_⟩
      try dsimp only [List.set]
      have hC5 := (hC3.same sm4).ext x5
      have hCL5 := Dat.bothE x5 (hC3.same sm4) (hCL3.same sm4)
      have hL5 := x5 _ _ (sm4 _ _ hL3) hLp
      have hW5 := (hW3.same sm4).ext x5
      have h2 : 2 ≤ (lensOf fl1).getD f 0 := by omega
      obtain ⟨ac, F, ws0, rfl, hac, _, hF, _, hWW⟩ := crowd_parts hC5
      have hff : f < fl1.length := ef
      obtain ⟨xf, hxf, hdf⟩ := hWW.back (i := f) (d := rowL fl1[f]) (by rw [List.getElem?_map, List.getElem?_eq_getElem hff]; rfl)
      obtain ⟨R, rfl, hR, _⟩ := rowL_parts hdf
      have hcm : fl1[f] ∈ fl1 := List.getElem_mem _
      have hfg : fl1[f]? = some fl1[f] := List.getElem?_eq_getElem _
      have hcl : (lensOf fl1).getD f 0 = fl1[f].length := by
        unfold lensOf
        rw [List.getD_eq_getElem?_getD, List.getElem?_map, hfg]
        rfl
      generalize fl1[f] = c at *
      have cell : ∀ j, j < c.length → ∃ y : Nat, y < 10 ∧ (c.map V.int)[j]? = some (.int (y : Nat)) := fun j hj => by
        have := hin1 c hcm c[j] (List.getElem_mem hj)
        refine ⟨c[j].toNat, by omega, ?_⟩
        rw [List.getElem?_map, List.getElem?_eq_getElem hj, Int.toNat_of_nonneg this.1]
        rfl
      obtain ⟨ya, ya10, hya⟩ := cell one (by omega)
      obtain ⟨yb, yb10, hyb⟩ := cell other (by omega)
      refine ⟨_, rfl, ac, _, _, _, rfl, rfl, SqT.of hac, rfl, _, rfl, F, ws0, _, _, rfl, rfl, SqL.of hF, atI_nat hxf, _, rfl, R, _, _, _, rfl, rfl, SqL.of hR, atI_nat hya, ?_⟩
      refine ⟨_, rfl, ac, _, _, _, rfl, rfl, SqT.of hac, rfl, _, rfl, F, ws0, _, _, rfl, rfl, SqL.of hF, atI_nat hxf, _, rfl, R, _, _, _, rfl, rfl, SqL.of hR, atI_nat hyb, ?_⟩
      try dsimp only [List.set]
      refine ⟨_, _, rfl, _, rfl, .inl ⟨rfl, _, SqL.of hL5⟩, _, rfl, _, rfl, _, rfl, _, _, rfl, _, rfl, _, rfl, _, _, rfl, by show 3 ≤ sizeLine; decide, fun t1 ht1 => ?_⟩
      have em : (if ((yb : Nat) : Int) < ((ya : Nat) : Int) then ((yb : Nat) : Int) else ((ya : Nat) : Int)) = ((min ya yb : Nat) : Int) := by
        split <;> omega
      have ex : (if ((yb : Nat) : Int) > ((ya : Nat) : Int) then ((yb : Nat) : Int) else ((ya : Nat) : Int)) = ((max ya yb : Nat) : Int) := by
        split <;> omega
      rw [em, ex]
      have nL1 : L ≠ t1 := ne_of_none hL5 ht1
      have st1 := same_new (o := .tup [V.int (f : Nat), V.int (min ya yb : Nat), V.int (max ya yb : Nat)]) ht1
      obtain ⟨u5', hu5⟩ := hB5.here
      have htd : Dat (upd H5 t1 (.tup [V.int (f : Nat), V.int (min ya yb : Nat), V.int (max ya yb : Nat)])) p (.ref t1) (triD (f, min ya yb, max ya yb)) := by
        have e3 : triD (f, min ya yb, max ya yb) = .tuple ([((f : Nat) : Int), ((min ya yb : Nat) : Int), ((max ya yb : Nat) : Int)].map PyData.int) := rfl
        rw [e3]
        exact .tup upd_same (ne_of_none' ht1 hu5) rfl fun i x d e1 e2 => (Dats.ints (p := p) [_, _, _]).2 i x d e1 e2
      have hB6 := hB5.sm st1
      have x6 := x05.trans (Same.ext st1 p)
      have hL6 := st1 _ _ hL5
      have hW6 := hW5.same st1
      have hC6 := hC5.same st1
      have hCL6 := hCL5.same st1
      generalize upd H5 t1 (.tup [V.int (f : Nat), V.int (min ya yb : Nat), V.int (max ya yb : Nat)]) = H6 at *
      have hlen : ws.length = l.length := by rw [hW6.1, List.length_map]
      refine ⟨L, ws, _, rfl, rfl, hL6, small1000 (by omega), ?_⟩
      have hC7 : Dat (upd H6 L (.lst (ws ++ [.ref t1]))) p (.ref ac) (crowdD fl1 out1) := Dat.both hCL6 hC6
      have hL7 : upd H6 L (.lst (ws ++ [.ref t1])) L = some (.lst (ws ++ [.ref t1])) := upd_same
      have hW7 : Dats (upd H6 L (.lst (ws ++ [.ref t1]))) p (ws ++ [.ref t1]) ((l ++ [(f, min ya yb, max ya yb)]).map triD) := by
        rw [List.map_append]
        exact (hW6.setL hL6 (mtri_no _)).snoc (htd.setL hL6 (mtri_no [_] _ (List.mem_singleton.mpr rfl)))
      have hB7 := hB6.up (o := .lst (ws ++ [.ref t1])) hLp.symm
      have x7 : Ext p H (upd H6 L (.lst (ws ++ [.ref t1]))) := x6.off hLH
      generalize upd H6 L (.lst (ws ++ [.ref t1])) = H7 at *
      obtain ⟨u7', hu7⟩ := hB7.here
      refine ⟨_, rfl, _, rfl, _, rfl, _, rfl, _, rfl, ?_⟩
      refine ⟨hv, .ref ac, p, p, u7', fs, m, n, f, one, other, fl1, out1, rfl, hu7, hD.ext x7, hN, hC7, hl1, hin1, ho1, hl100, by omega, by omega, e1', by omega, fun v' H8 fl' out' hC8 sm8 _ hany hls hin8 hl8 ho8 _ => ?_⟩
      obtain ⟨st1, st2⟩ := step_come f 0 (lensOf fl1) h2
      refine ⟨left_ (comeN 0 (lensOf fl')), by rw [hls]; omega, fl', out', v', l ++ [(f, min ya yb, max ya yb)], ws ++ [.ref t1], _, _, _, _, _, _, rfl, hB7.sm sm8, x7.trans (Same.ext sm8 p), sm8 _ _ hL7, hW7.same sm8, hC8, hany L _ hL7, hl8, hin8, ho8, by rw [hls]; exact Nat.le_trans (step_sum f (lensOf fl1) (by omega)) hs1, rfl, by rw [hls, List.length_append, List.length_singleton]; omega, fun x hx => ?_⟩
      rcases List.mem_append.mp hx with hx | hx
      · exact hsmall x hx
      · rw [List.mem_singleton.mp hx]
        exact ⟨by show f < 10; omega, by show min ya yb < 10; omega, by show max ya yb < 10; omega⟩

end
end Fm
end FDRW
section FUNI
set_option Elab.async false
set_option linter.all false
set_option maxRecDepth 100000
set_option maxHeartbeats 4000000
local macro_rules | `(tactic| walk_at "ne") => `(tactic| first | assumption | (apply Ne.symm; assumption) | exact L2.ne_of_none (by assumption) (by assumption) | exact Ne.symm (L2.ne_of_none (by assumption) (by assumption)))
local macro_rules | `(tactic| walk_at "hl") => `(tactic| first | assumption | exact L2.upd_same | (refine Eq.trans (L2.upd_ne (by walk_at "ne")) ?_; walk_at "hl"))
local macro_rules | `(tactic| walk_at "sd") => `(tactic| first | (with_reducible show (_ : Int) < _; omega) | (with_reducible show (_ : Int) ≤ _; omega) | assumption | decide | exact ⟨by assumption, by assumption⟩ | exact ⟨by decide, by decide⟩ | exact Or.inr ⟨by decide, by decide⟩ | exact Or.inl ⟨by omega, by omega⟩ | rfl)
local macro_rules | `(tactic| walk_at "st1") => `(tactic| first
  | refine ⟨_, rfl, ?_⟩
  | refine ⟨_, _, rfl, rfl, ?_⟩
  | refine ⟨_, _, rfl, ?_⟩
  | (refine ⟨_, _, _, _, rfl, rfl, L2.SqL.of (by walk_at "hl"), rfl, ?_⟩)
  | (refine ⟨_, _, _, _, rfl, rfl, L2.SqT.of (by walk_at "hl"), rfl, ?_⟩)
  | (refine ⟨_, _, _, _, rfl, rfl, (by walk_at "hl"), rfl, ?_⟩)
  | (refine And.intro (by walk_at "sd") ?_)
  )
local macro_rules | `(tactic| walk_at "st") => `(tactic| repeat walk_at "st1")
local macro_rules | `(tactic| walk_at "op") => `(tactic| try dsimp only [L2.tSeq, L2.tAsg, L2.tOp, L2.tVar, L2.tC, L2.gSub, L2.rI, L2.rI0, L2.rIxL, L2.rIxT, L2.rSetL, L2.tIfS, L2.tTest, L2.tRet, L2.gName, L2.tNext, L2.tAnd, L2.tOr, L2.tNot, L2.tAndV, L2.tOrV, L2.tNotV, L2.tB, L2.tCB, L2.tCons, L2.tNil, L2.tCall, L2.tTup, L2.tLst, L2.tChain, L2.tUn, L2.tPar, L2.tDrop, L2.tIf, L2.tBM, L2.tBM0, L2.rAppend, L2.rCat, L2.rIsi, L2.rIsiT, L2.gTup, L2.gCons, L2.gNil, Fm.tFor_eq, Fm.tLc_eq, Fm.tLc2_eq, L2.iTup, L2.iList, L2.iRng1, L2.iRng2, L2.tSl, L2.tPart, L2.tNoPart, L2.rSlL, L2.rEq, L2.rNe, L2.rU, L2.rEqD, L2.rNeD, Fm.tRevT, Fm.rLenS, Fm.rTupOf, Fm.rLstOf, L2.tDNewK, L2.tCallS, L2.WE, Fm.wKeep, Fm.rIsK, Fm.rIsKT, List.cons_append, List.nil_append, L2.tYes])
namespace Fm
open PySem PySem.Spec PyProof.Rows L2
section
variable {P : Program} {w : World} {K : PySem.W.Frag} {mg : Str → Option Value} {base : Heap}
/-! ### how far a row goes is one answer -/
theorem map_tri : ∀ {l l' : List (Nat × Nat × Nat)}, l.map triD = l'.map triD → l = l'
  | [], [], _ => rfl
  | [], _ :: _, h => by cases h
  | _ :: _, [], h => by cases h
  | x :: l, y :: l', h => by
    rw [List.map_cons, List.map_cons] at h
    injection h with h1 h2
    rw [triD_inj h1, map_tri h2]
theorem RunM.det {fs : List PyData} {m : Nat} {rows r : List (List Int)} {out o : Int} {l : List (Nat × Nat × Nat)} (h : RunM fs m rows out l r o) : ∀ {r' o'}, RunM fs m rows out l r' o' → r = r' ∧ o = o' := by
  induction h with
  | nil =>
    intro r' o' h'
    cases h'
    exact ⟨rfl, rfl⟩
  | cons _ _ ih =>
    intro r' o' h'
    cases h' with
    | cons _ h2 => exact ih h2
theorem RunM.split {fs : List PyData} {m : Nat} {r' : List (List Int)} {o' : Int} {f a b : Nat} {l2 : List (Nat × Nat × Nat)} : ∀ {l1 : List (Nat × Nat × Nat)} {rows : List (List Int)} {out : Int}, RunM fs m rows out (l1 ++ (f, a, b) :: l2) r' o' → ∃ r1 o1, RunM fs m rows out l1 r1 o1 ∧ Meets3 m r1 f a b
  | [], rows, out, h => by
    cases h with
    | cons hm _ => exact ⟨_, _, .nil _ _, hm⟩
  | (f1, a1, b1) :: l1, rows, out, h => by
    cases h with
    | cons hm h2 =>
      obtain ⟨r1, o1, k1, k2⟩ := RunM.split h2
      exact ⟨r1, o1, .cons hm k1, k2⟩
theorem GoneTo.le_of {fs : List PyData} {m : Nat} {ds : List PyData} {rows r r' : List (List Int)} {out o o' : Int} {k k' : Nat} (h : GoneTo fs m ds rows out k r o) (h' : GoneTo fs m ds rows out k' r' o') : k' ≤ k := by
  refine Nat.le_of_not_lt fun q => ?_
  obtain ⟨l, e, hr⟩ := h.went
  obtain ⟨l', e', hr'⟩ := h'.went
  have hk : k < ds.length := Nat.lt_of_lt_of_le q h'.le
  have hlen : l'.length = k' := by
    have := congrArg List.length e'
    rw [List.length_take, List.length_map] at this
    have := h'.le
    omega
  have hkl : k < l'.length := by omega
  have e2 : l'.take k = l := map_tri (by rw [← e, List.map_take, ← e', List.take_take, Nat.min_eq_left (Nat.le_of_lt q)])
  have hd : ds[k]? = some (triD l'[k]) := by
    have h1 : (ds.take k')[k]? = ds[k]? := by rw [List.getElem?_take, if_pos q]
    rw [← h1, e', List.getElem?_map, List.getElem?_eq_getElem hkl]
    rfl
  have sp : l' = l ++ l'[k] :: l'.drop (k + 1) := by
    rw [← e2, ← List.drop_eq_getElem_cons hkl, List.take_append_drop]
  rw [sp] at hr'
  obtain ⟨r1, o1, k1, k2⟩ := RunM.split (f := l'[k].1) (a := l'[k].2.1) (b := l'[k].2.2) hr'
  obtain ⟨q1, _⟩ := hr.det k1
  subst q1
  exact h.stop _ hd ⟨l'[k], rfl, k2⟩
theorem GoneTo.one {fs : List PyData} {m : Nat} {ds : List PyData} {rows r r' : List (List Int)} {out o o' : Int} {k k' : Nat} (h : GoneTo fs m ds rows out k r o) (h' : GoneTo fs m ds rows out k' r' o') : k = k' ∧ r = r' ∧ o = o' := by
  have hk : k = k' := Nat.le_antisymm (h'.le_of h) (h.le_of h')
  subst hk
  obtain ⟨l, e, hr⟩ := h.went
  obtain ⟨l', e', hr'⟩ := h'.went
  have := map_tri (e.symm.trans e')
  subst this
  exact ⟨rfl, hr.det hr'⟩

end
end Fm
end FUNI
section FLSP
set_option Elab.async false
set_option linter.all false
set_option maxRecDepth 100000
set_option maxHeartbeats 4000000
local macro_rules | `(tactic| walk_at "ne") => `(tactic| first | assumption | (apply Ne.symm; assumption) | exact L2.ne_of_none (by assumption) (by assumption) | exact Ne.symm (L2.ne_of_none (by assumption) (by assumption)))
local macro_rules | `(tactic| walk_at "hl") => `(tactic| first | assumption | exact L2.upd_same | (refine Eq.trans (L2.upd_ne (by walk_at "ne")) ?_; walk_at "hl"))
local macro_rules | `(tactic| walk_at "sd") => `(tactic| first | (with_reducible show (_ : Int) < _; omega) | (with_reducible show (_ : Int) ≤ _; omega) | assumption | decide | exact ⟨by assumption, by assumption⟩ | exact ⟨by decide, by decide⟩ | exact Or.inr ⟨by decide, by decide⟩ | exact Or.inl ⟨by omega, by omega⟩ | rfl)
local macro_rules | `(tactic| walk_at "st1") => `(tactic| first
  | refine ⟨_, rfl, ?_⟩
  | refine ⟨_, _, rfl, rfl, ?_⟩
  | refine ⟨_, _, rfl, ?_⟩
  | (refine ⟨_, _, _, _, rfl, rfl, L2.SqL.of (by walk_at "hl"), rfl, ?_⟩)
  | (refine ⟨_, _, _, _, rfl, rfl, L2.SqT.of (by walk_at "hl"), rfl, ?_⟩)
  | (refine ⟨_, _, _, _, rfl, rfl, (by walk_at "hl"), rfl, ?_⟩)
  | (refine And.intro (by walk_at "sd") ?_)
  )
local macro_rules | `(tactic| walk_at "st") => `(tactic| repeat walk_at "st1")
local macro_rules | `(tactic| walk_at "op") => `(tactic| try dsimp only [L2.tSeq, L2.tAsg, L2.tOp, L2.tVar, L2.tC, L2.gSub, L2.rI, L2.rI0, L2.rIxL, L2.rIxT, L2.rSetL, L2.tIfS, L2.tTest, L2.tRet, L2.gName, L2.tNext, L2.tAnd, L2.tOr, L2.tNot, L2.tAndV, L2.tOrV, L2.tNotV, L2.tB, L2.tCB, L2.tCons, L2.tNil, L2.tCall, L2.tTup, L2.tLst, L2.tChain, L2.tUn, L2.tPar, L2.tDrop, L2.tIf, L2.tBM, L2.tBM0, L2.rAppend, L2.rCat, L2.rIsi, L2.rIsiT, L2.gTup, L2.gCons, L2.gNil, Fm.tFor_eq, Fm.tLc_eq, Fm.tLc2_eq, L2.iTup, L2.iList, L2.iRng1, L2.iRng2, L2.tSl, L2.tPart, L2.tNoPart, L2.rSlL, L2.rEq, L2.rNe, L2.rU, L2.rEqD, L2.rNeD, Fm.tRevT, Fm.rLenS, Fm.rTupOf, Fm.rLstOf, L2.tDNewK, L2.tCallS, L2.WE, Fm.wKeep, Fm.rIsK, Fm.rIsKT, List.cons_append, List.nil_append, L2.tYes])
namespace Fm
open PySem PySem.Spec PyProof.Rows L2
section
variable {P : Program} {w : World} {K : PySem.W.Frag} {mg : Str → Option Value} {base : Heap}
/-! ### the head of the pairs -/
theorem hereN_filter (c : List Int) (n : Nat) : hereN c n = (List.range n).filter fun a => c.getD a 0 != 0 := rfl
theorem prs_head {c : List Int} {x y : Nat} (hx : x < c.length) (x1 : c.getD x 0 ≠ 0) (x2 : ∀ a, a < x → c.getD a 0 = 0) (hy : y < c.length) (y1 : c.getD y 0 ≠ 0) (y2 : okP c x y = true) (y3 : ∀ b, b < y → c.getD b 0 ≠ 0 → okP c x b = false) : (prs c).head? = some (x, y) := by
  have h0 : (hereN c c.length).head? = some x := by
    rw [hereN_filter, List.head?_filter, List.find?_range_eq_some]
    exact ⟨bne_iff_ne.mpr x1, List.mem_range.mpr hx, fun j hj => by rw [x2 j hj]; rfl⟩
  obtain ⟨t, ht⟩ : ∃ t, hereN c c.length = x :: t := by
    cases e : hereN c c.length with
    | nil => rw [e] at h0; cases h0
    | cons z t =>
      rw [e] at h0
      cases h0
      exact ⟨t, rfl⟩
  have hr : (rowOfP c (hereN c c.length) x).head? = some (x, y) := by
    unfold rowOfP
    rw [List.head?_map, List.head?_filter, hereN_filter, List.find?_filter]
    have : (List.range c.length).find? (fun a => (c.getD a 0 != 0) && okP c x a) = some y := by
      rw [List.find?_range_eq_some]
      refine ⟨by rw [y2, bne_iff_ne.mpr y1]; rfl, List.mem_range.mpr hy, fun j hj => ?_⟩
      by_cases z : c.getD j 0 = 0
      · rw [z]; rfl
      · rw [y3 j hj z, Bool.and_false]; rfl
    have e : (fun a => decide ((c.getD a 0 != 0) = true ∧ okP c x a = true)) = fun a => (c.getD a 0 != 0) && okP c x a := by
      funext a
      cases (c.getD a 0 != 0) <;> cases okP c x a <;> rfl
    rw [e, this]
    rfl
  unfold prs allOfP
  rw [List.head?_flatMap]
  rw [ht] at hr ⊢
  rw [List.findSome?_cons, hr]
/-- the two least of a crowd's row -/
theorem two_least {row s : List Int} {c : List Int} {x y : Int} {t : List Int} (hp : s.Perm row) (hs : s = x :: y :: t) (hsort : s.Pairwise (· ≤ ·)) (hin : ∀ e ∈ row, 0 ≤ e ∧ e < (c.length : Int)) (hc : ∀ a : Nat, c.getD a 0 = ((row.count ((a : Nat) : Int) : Nat) : Int)) : (prs c).head? = some (x.toNat, y.toNat) := by
  subst hs
  have hc' : ∀ a : Nat, c.getD a 0 = (((x :: y :: t).count ((a : Nat) : Int) : Nat) : Int) := fun a => by rw [hc, hp.count_eq]
  have hx := hin x (hp.mem_iff.mp List.mem_cons_self)
  have hy := hin y (hp.mem_iff.mp (List.mem_cons_of_mem _ List.mem_cons_self))
  have hxs : ∀ e ∈ y :: t, x ≤ e := (List.pairwise_cons.mp hsort).1
  have hys : ∀ e ∈ t, y ≤ e := (List.pairwise_cons.mp (List.pairwise_cons.mp hsort).2).1
  have hxy := hxs y List.mem_cons_self
  have pos : ∀ e ∈ x :: y :: t, c.getD e.toNat 0 ≠ 0 := fun e he => by
    have h0 := hin e (hp.mem_iff.mp he)
    rw [hc', Int.toNat_of_nonneg h0.1]
    have := List.count_pos_iff.mpr he
    omega
  have zero : ∀ a : Nat, ((a : Nat) : Int) ∉ x :: y :: t → c.getD a 0 = 0 := fun a ha => by
    rw [hc', List.count_eq_zero.mpr ha]
    rfl
  refine prs_head (by omega) (pos x List.mem_cons_self) (fun a ha => zero a fun q => ?_) (by omega) (pos y (List.mem_cons_of_mem _ List.mem_cons_self)) ?_ fun b hb hb0 => ?_
  · rcases List.mem_cons.mp q with q | q
    · omega
    · have := hxs _ q
      omega
  · unfold okP
    by_cases e : x = y
    · subst e
      have h2 : 2 ≤ (x :: x :: t).count x := by
        rw [List.count_cons_self, List.count_cons_self]
        omega
      have h3 : c.getD x.toNat 0 > 1 := by
        rw [hc', Int.toNat_of_nonneg hx.1]
        omega
      rw [decide_eq_true h3, decide_eq_true (rfl : x.toNat = x.toNat), Bool.and_self, Bool.or_true]
    · rw [decide_eq_true (show x.toNat < y.toNat by omega)]
      rfl
  · have hm : ((b : Nat) : Int) ∈ x :: y :: t := by
      refine Classical.byContradiction fun q => hb0 (zero b q)
    have hbx : ((b : Nat) : Int) = x := by
      rcases List.mem_cons.mp hm with q | q
      · exact q
      · rcases List.mem_cons.mp q with q | q
        · omega
        · have := hys _ q
          omega
    have hne : x < y := by omega
    have h1 : (x :: y :: t).count x = 1 := by
      rw [List.count_cons_self, List.count_eq_zero.mpr fun q => ?_]
      rcases List.mem_cons.mp q with q | q
      · omega
      · have := hys _ q
        omega
    unfold okP
    have h3 : ¬ c.getD x.toNat 0 > 1 := by
      rw [hc', Int.toNat_of_nonneg hx.1, h1]
      decide
    rw [decide_eq_false h3, Bool.and_false, decide_eq_false (show ¬ x.toNat < b by omega)]
    rfl

end
end Fm
end FLSP
section FLST
set_option Elab.async false
set_option linter.all false
set_option maxRecDepth 100000
set_option maxHeartbeats 4000000
local macro_rules | `(tactic| walk_at "ne") => `(tactic| first | assumption | (apply Ne.symm; assumption) | exact L2.ne_of_none (by assumption) (by assumption) | exact Ne.symm (L2.ne_of_none (by assumption) (by assumption)))
local macro_rules | `(tactic| walk_at "hl") => `(tactic| first | assumption | exact L2.upd_same | (refine Eq.trans (L2.upd_ne (by walk_at "ne")) ?_; walk_at "hl"))
local macro_rules | `(tactic| walk_at "sd") => `(tactic| first | (with_reducible show (_ : Int) < _; omega) | (with_reducible show (_ : Int) ≤ _; omega) | assumption | decide | exact ⟨by assumption, by assumption⟩ | exact ⟨by decide, by decide⟩ | exact Or.inr ⟨by decide, by decide⟩ | exact Or.inl ⟨by omega, by omega⟩ | rfl)
local macro_rules | `(tactic| walk_at "st1") => `(tactic| first
  | refine ⟨_, rfl, ?_⟩
  | refine ⟨_, _, rfl, rfl, ?_⟩
  | refine ⟨_, _, rfl, ?_⟩
  | (refine ⟨_, _, _, _, rfl, rfl, L2.SqL.of (by walk_at "hl"), rfl, ?_⟩)
  | (refine ⟨_, _, _, _, rfl, rfl, L2.SqT.of (by walk_at "hl"), rfl, ?_⟩)
  | (refine ⟨_, _, _, _, rfl, rfl, (by walk_at "hl"), rfl, ?_⟩)
  | (refine And.intro (by walk_at "sd") ?_)
  )
local macro_rules | `(tactic| walk_at "st") => `(tactic| repeat walk_at "st1")
local macro_rules | `(tactic| walk_at "op") => `(tactic| try dsimp only [L2.tSeq, L2.tAsg, L2.tOp, L2.tVar, L2.tC, L2.gSub, L2.rI, L2.rI0, L2.rIxL, L2.rIxT, L2.rSetL, L2.tIfS, L2.tTest, L2.tRet, L2.gName, L2.tNext, L2.tAnd, L2.tOr, L2.tNot, L2.tAndV, L2.tOrV, L2.tNotV, L2.tB, L2.tCB, L2.tCons, L2.tNil, L2.tCall, L2.tTup, L2.tLst, L2.tChain, L2.tUn, L2.tPar, L2.tDrop, L2.tIf, L2.tBM, L2.tBM0, L2.rAppend, L2.rCat, L2.rIsi, L2.rIsiT, L2.gTup, L2.gCons, L2.gNil, Fm.tFor_eq, Fm.tLc_eq, Fm.tLc2_eq, L2.iTup, L2.iList, L2.iRng1, L2.iRng2, L2.tSl, L2.tPart, L2.tNoPart, L2.rSlL, L2.rEq, L2.rNe, L2.rU, L2.rEqD, L2.rNeD, Fm.tRevT, Fm.rLenS, Fm.rTupOf, Fm.rLstOf, L2.tDNewK, L2.tCallS, L2.WE, Fm.wKeep, Fm.rIsK, Fm.rIsKT, List.cons_append, List.nil_append, L2.tYes])
namespace Fm
open PySem PySem.Spec PyProof.Rows L2
abbrev s_law_least : Stmt := top 50
abbrev N_law_least : List Str := ["house", "standing", "crowd", "found", "rows", "floor", "row", "a", "b"]
theorem sc_law_least : FnScope N_law_least ["house", "standing"] (defScope s_law_least) := ⟨rfl, rfl, rfl, by decide +kernel, rfl, by decide +kernel, by decide +kernel⟩
section
variable {P : Program} {w : World} {K : PySem.W.Frag} {mg : Str → Option Value} {base : Heap}
/-! ### the run of the least meetings, by people told apart -/
/-- the first row of more than one, and its two least -/
def FirstAt (fl : List (List Int)) (G : Hp) (R : Addr) (v0 : V) : Prop := ∃ (t l2 : Addr) (f : Nat) (x y : Int) (s tl : List Int), v0 = .ref t ∧ G t = some (.tup [.int (f : Nat), .ref l2]) ∧ G l2 = some (.lst [.int x, .int y]) ∧ t ≠ R ∧ l2 ≠ R ∧ f < fl.length ∧ (∀ g, g < f → (lensOf fl).getD g 0 ≤ 1) ∧ s.Perm (fl.getD f []) ∧ s.Pairwise (· ≤ ·) ∧ s = x :: y :: tl
theorem FirstAt.same {fl : List (List Int)} {G G' : Hp} {R : Addr} {v0 : V} (h : FirstAt fl G R v0) (e : Same G G') : FirstAt fl G' R v0 := by
  obtain ⟨t, l2, f, x, y, s, tl, h1, h2, h3, h4⟩ := h
  exact ⟨t, l2, f, x, y, s, tl, h1, e _ _ h2, e _ _ h3, h4⟩
theorem FirstAt.up {fl : List (List Int)} {G : Hp} {R : Addr} {v0 : V} {o : HO} (h : FirstAt fl G R v0) : FirstAt fl (upd G R o) R v0 := by
  obtain ⟨t, l2, f, x, y, s, tl, h1, h2, h3, h4, h5, h6⟩ := h
  exact ⟨t, l2, f, x, y, s, tl, h1, by rw [upd_ne h4]; exact h2, by rw [upd_ne h5]; exact h3, h4, h5, h6⟩
def spLeastL : Sp := fun vs H Q _ => ∃ (hv sv : V) (p ph : Addr) (u : HO) (fs : List PyData) (m n : Nat) (rows : List (List Int)) (out : Int), vs = [hv, sv] ∧ H p = some u ∧ Dat H ph hv (.tuple fs) ∧ HouseN m n (.tuple fs) ∧ Dat H p sv (stD rows out) ∧ rows.length = n ∧ StOk m rows out ∧ (rows.map List.sum).sum ≤ 100 ∧
  ∀ (L : Addr) (ws : List V) (l : List (Nat × Nat × Nat)) (r : List (List Int)) (o : Int) (H' : Hp), RunL fs m rows out l r o → (∀ c ∈ r, c.sum ≤ 1) → Same H H' → H' L = some (.lst ws) → Dats H' p ws (l.map triD) → Q (.ref L) H'
theorem ok_law_least (D : Df K mg "_law_least" s_law_least ["house", "standing"]) (T : Nms mg) (n_sorted : mg "sorted" = none) (c_law_crowd : CallOk P w K mg base CX0 1 "_law_crowd" ["standing"] spCrowd) (c_law_pairs : CallOk P w K mg base CX0 1 "_law_pairs" ["crowd"] spPairs)
    (c_law_done : CallOk P w K mg base CX0 2 "_law_done" ["house", "crowd", "meeting"] spDone) : CallOk P w K mg base CX0 3 "_law_least" ["house", "standing"] spLeastL := by
  refine df_ok D sc_law_least (fun vs H Q E h => ?_) (fun f cdv A outer s H vs Q E hr h => ?_)
  · obtain ⟨hv, sv, p, ph, u, fs, m, n, rows, out, rfl, _⟩ := h
    rfl
  · obtain ⟨hv, sv, p, ph, u, fs, m, n, rows, out, rfl, hp, hD, hN, sD, hl, ok, h100, k⟩ := h
    have nd := sc_law_least.nd
    have hgo := goLt_of hD hN
    have hmn : 1 ≤ n ∧ n ≤ 4 ∧ 1 ≤ m ∧ m ≤ 6 := by
      obtain ⟨_, _, _, z1, z2, z3, z4, _⟩ := hN
      exact ⟨z1, z2, z3, z4⟩
    refine ⟨_, (pss_cons (ps_set (i := 2) nd rfl (Or.inl rfl) (pe_cc c_law_crowd (hr.mono (by omega)) (pa_cons (pv 1) pa_nil)))
      (pss_cons (ps_set (i := 3) nd rfl (Or.inl rfl) (pe_lst pa_nil))
      (pss_cons (ps_while PassesOwn.never (pt_cmpR (r := rNeD K) (op_neD hr.units) (pe_cc c_law_pairs (hr.mono (by omega)) (pa_cons (pv 2) pa_nil)) (pe_lst pa_nil) (nomark _)) (pss_cons (ps_setLc (i := 4) (own := [("floor", 5), ("row", 6)]) (g := (gTup K 2 (gCons (gName 5) (gCons (gName 6) gNil)))) (by rfl) nd rfl rfl (sw_true rfl rfl rfl (by decide +kernel)) (pi_enum (by rfl) T.n_enumerate (pa_cons (pe_ix (r := rIxT K) ix_tup (pv 2) pe_int (fun _ _ => rfl)) pa_nil)) (blkOk_by (own := [("floor", 5), ("row", 6)]) (N := N_law_least) (sc := defScope s_law_least) (by decide +kernel)) (fun _ _ _ _ _ => (pg_tup rfl (pgs_cons (pg_name (i := 5) nd rfl (Or.inl rfl)) (pgs_cons (pg_name (i := 6) nd rfl (Or.inl rfl)) pgs_nil)))) (fun _ _ _ _ _ => (pts_one (pt_cmpR op_gt (pe_callB (r := rLenS K) call_lenS (by rfl) T.n_len (by decide +kernel) (pa_cons (pv 6) pa_nil)) pe_int (nomark _)))) (fun _ _ _ _ _ => (pe_tup (pa_cons (pv 5) (pa_cons (pe_slice (r := rSlL K) sl_list (pe_callB (r := rSortedI K) cr_sortedI (by rfl) n_sorted (by decide +kernel) (pa_cons (pv 6) pa_nil)) po_none (po_some pe_int)) pa_nil)))))
      (pss_cons (ps_asg (pe_ix (r := rIxL K) ix_list (pv 4) pe_int (fun _ _ => rfl)) (pg_tup rfl (pgs_cons (pg_name (i := 5) nd rfl (Or.inl rfl)) (pgs_cons (pg_lst rfl (pgs_cons (pg_name (i := 7) nd rfl (Or.inl rfl)) (pgs_cons (pg_name (i := 8) nd rfl (Or.inl rfl)) pgs_nil))) pgs_nil))))
      (pss_cons (ps_expr (pe_bm PySem.F.plainAttrs_list PySem.F.slot_list_append PySem.F.type_list_append mt_append (pv 3) (pa_cons (pe_tup (pa_cons (pv 5) (pa_cons (pv 7) (pa_cons (pv 8) pa_nil)))) pa_nil)))
      (pss_one (ps_set (i := 2) nd rfl (Or.inl rfl) (pe_cc c_law_done (hr.mono (by omega)) (pa_cons (pv 0) (pa_cons (pv 2) (pa_cons (pe_tup (pa_cons (pv 5) (pa_cons (pv 7) (pa_cons (pv 8) pa_nil)))) pa_nil))))))))))
      (pss_one (ps_ret (pv 3)))))), ?_⟩
    walk_at "op"
    have hst : L2.start N_law_least [hv, sv] = [some hv, some sv, none, none, none, none, none, none, none] := rfl
    rw [hst]
    refine ⟨_, rfl, sv, p, u, rows, out, m, rfl, hp, sD, by omega, hmn.2.2.1, hmn.2.2.2, ok, fun r hr => ?_, fun cv G0 hC0 s0 => ?_⟩
    · refine Int.le_trans (le_sum (fun x hx => ?_) (List.mem_map_of_mem hr)) h100
      obtain ⟨r', hr', rfl⟩ := List.mem_map.mp hx
      exact sum_nn (ok.pos r' hr')
    try dsimp only [List.set]
    refine ⟨by show 0 ≤ sizeLine; decide, fun L hL => ?_⟩
    have sL := same_new (o := .lst []) hL
    have hLp : L ≠ p := ne_of_none' hL (s0 _ _ hp)
    have hLH := sameFree s0 hL
    have hL1 : upd G0 L (.lst []) L = some (.lst []) := upd_same
    have hC1 := hC0.same sL
    have hCL1 := (hC0.fresh2 hL).same sL
    have s1 := s0.trans sL
    generalize upd G0 L (.lst []) = G1 at *
    have hsum0 : (lensOf (rows.map fun c => rowOf c m)).sum ≤ 100 := by have := crowd_sum ok; omega
    have hbd : left_ (comeN 0 (lensOf (rows.map fun c => rowOf c m))) ≤ 400 := by
      have h1 := left_le 0 (lensOf (rows.map fun c => rowOf c m))
      have h2 : (lensOf (rows.map fun c => rowOf c m)).length = n := by unfold lensOf; rw [List.length_map, List.length_map, hl]
      rw [h2] at h1
      have h4 : n * (0 + (lensOf (rows.map fun c => rowOf c m)).sum) ≤ 4 * 100 := Nat.mul_le_mul hmn.2.1 (by omega)
      omega
    have hfl : (rows.map fun c => rowOf c m).length = n := by rw [List.length_map]; exact hl
    have hin : RowsIn m (rows.map fun c => rowOf c m) := rows_in rows
    have hfs : flSt n (rows.map fun c => rowOf c m) out = FmC.stSt n rows out := crowd_st hl ok
    generalize (rows.map fun c => rowOf c m) = fl at *
    try dsimp only [List.set]
    refine ⟨fun μ σ H1 => ∃ (fl1 ri : List (List Int)) (out1 : Int) (cv1 : V) (l : List (Nat × Nat × Nat)) (ws : List V) (u4 u5 u6 u7 u8 : Option V), σ = [some hv, some sv, some cv1, some (.ref L), u4, u5, u6, u7, u8] ∧ Same H H1 ∧ H1 L = some (.lst ws) ∧ Dats H1 p ws (l.map triD) ∧ Dat H1 p cv1 (crowdD fl1 out1) ∧ Dat H1 L cv1 (crowdD fl1 out1) ∧ fl1.length = n ∧ RowsIn m fl1 ∧ (lensOf fl1).sum ≤ 100 ∧
        flSt n fl1 out1 = FmC.stSt n ri out1 ∧ ri.length = n ∧ StOk m ri out1 ∧ RunL fs m rows out l ri out1 ∧ left_ (comeN 0 (lensOf fl1)) = μ ∧ l.length + μ = left_ (comeN 0 (lensOf fl)),
      ⟨_, fl, rows, out, cv, [], [], _, _, _, _, _, rfl, s1, hL1, Dats.nil, hC1, hCL1, hfl, hin, hsum0, hfs, hl, ok, .nil _ _, rfl, by simp⟩, ?_⟩
    rintro μ σ H1 ⟨fl1, ri, out1, cv1, l, ws, u4, u5, u6, u7, u8, rfl, s1', hL1, hW1, hC1, hCL, hl1, hin1, hs1, he1, hri, oki, hRun, hμ, hmany⟩
    have hu := s1' _ _ hp
    have hl100 : ∀ l ∈ lensOf fl1, l ≤ 100 := fun l hl => Nat.le_trans (le_sumM hl) hs1
    walk_at "op"
    refine ⟨_, rfl, cv1, p, u, fl1, out1, rfl, hu, hC1, by omega, hl100, fun q ws' H2 hq hq2 hWs sm2 => ?_⟩
    have htups : ∀ d ∈ allP (lensOf fl1) fl1.length, ∃ f one other, d = tup3 f one other := fun d hd => by
      obtain ⟨f, one, other, e, _⟩ := allP_mem hd
      exact ⟨f, one, other, e⟩
    obtain ⟨hsh, hdi⟩ := shaped_tups htups
    have hqp : q ≠ p := fun z => by rw [z, hu] at hq; cases hq
    have dq : Dat H2 p (.ref q) (.list (allP (lensOf fl1) fl1.length)) := .lst hq2 hqp hWs.1 hWs.2
    refine ⟨by show 0 ≤ sizeLine; decide, fun t ht => ?_⟩
    refine ⟨_, .list [], (dq.off ht).dp hdi, .lst (SqL.of upd_same) .nil, hsh, (by decide), ?_⟩
    rw [eqv_nil]
    refine ⟨_, rfl, ?_⟩
    have sm3 : Same H1 (upd H2 t (.lst [])) := sm2.trans (same_new ht)
    have s3 : Same H (upd H2 t (.lst [])) := s1'.trans sm3
    have hC3 := hC1.same sm3
    have hCL3 := hCL.same sm3
    have hL3 := sm3 _ _ hL1
    have hW3 := hW1.same sm3
    generalize upd H2 t (.lst []) = H3 at *
    by_cases hrest : ∀ l ∈ lensOf fl1, l ≤ 1
    · have e0 : allP (lensOf fl1) fl1.length = [] := allP_none fun f hf => by
        rw [List.getD_eq_getElem?_getD]
        cases e : (lensOf fl1)[f]? with
        | none => exact Nat.zero_le _
        | some l => exact hrest l (List.mem_of_getElem? e)
      rw [e0]
      refine iteF ?_
      walk_at "op"
      refine ⟨_, rfl, k L ws l ri out1 _ hRun (fun c hc => ?_) s3 hL3 hW3⟩
      rw [← cnt_rows he1 hri oki hl1] at hc
      obtain ⟨r, hr, rfl⟩ := List.mem_map.mp hc
      rw [cntR_sum (hin1 r hr)]
      have := hrest _ (List.mem_map_of_mem hr)
      omega
    · have e0 : allP (lensOf fl1) fl1.length ≠ [] := by
        intro e
        refine hrest fun l hl => ?_
        obtain ⟨f, hf⟩ := List.getElem?_of_mem hl
        have hf' : f < fl1.length := by
          have := (List.getElem?_eq_some_iff.mp hf).1
          unfold lensOf at this
          rw [List.length_map] at this
          exact this
        have hgd : (lensOf fl1).getD f 0 = l := by rw [List.getD_eq_getElem?_getD, hf]; rfl
        by_cases h2 : 2 ≤ l
        · exact absurd e (allP_some hf' (by rw [hgd]; exact h2))
        · omega
      have e1 : (allP (lensOf fl1) fl1.length).isEmpty = false := by
        cases e : allP (lensOf fl1) fl1.length with
        | nil => exact absurd e e0
        | cons x r => rfl
      rw [e1]
      refine iteT ?_
      refine ⟨fun σ' H' => ∃ μ', μ' < μ ∧ ∃ (fl1 ri : List (List Int)) (out1 : Int) (cv1 : V) (l : List (Nat × Nat × Nat)) (ws : List V) (u4 u5 u6 u7 u8 : Option V), σ' = [some hv, some sv, some cv1, some (.ref L), u4, u5, u6, u7, u8] ∧ Same H H' ∧ H' L = some (.lst ws) ∧ Dats H' p ws (l.map triD) ∧ Dat H' p cv1 (crowdD fl1 out1) ∧ Dat H' L cv1 (crowdD fl1 out1) ∧ fl1.length = n ∧ RowsIn m fl1 ∧ (lensOf fl1).sum ≤ 100 ∧
        flSt n fl1 out1 = FmC.stSt n ri out1 ∧ ri.length = n ∧ StOk m ri out1 ∧ RunL fs m rows out l ri out1 ∧ left_ (comeN 0 (lensOf fl1)) = μ' ∧ l.length + μ' = left_ (comeN 0 (lensOf fl)), fun σ' H' h => h, ?_⟩
      obtain ⟨ac, F, ws0, rfl, hac, _, hF, _, hWW⟩ := crowd_parts hC3
      have hw0l : ws0.length = fl1.length := by rw [hWW.1, List.length_map]
      refine ⟨_, rfl, ac, _, _, _, rfl, rfl, SqT.of hac, rfl, F, ws0, rfl, SqL.of hF, fun R hR => ?_⟩
      refine lI walk_enum (fun i G => Same H3 G ∧ ∃ ws1, G R = some (.lst ws1) ∧ ws1.length ≤ i ∧ (ws1 = [] → ∀ g, g < i → (lensOf fl1).getD g 0 ≤ 1) ∧ ∀ v0 rest, ws1 = v0 :: rest → FirstAt fl1 G R v0)
        ⟨same_new hR, [], upd_same, Nat.le_refl _, fun _ g hg => absurd hg (Nat.not_lt_zero _), fun v0 rest e => (by cases e)⟩ (fun i G _ ⟨e, _⟩ => SqL.of (e _ _ hF)) ?_ ?_
      · rintro i v G _ hi ⟨sG, ws1, hR1, hwl, hnil, hfst⟩ ⟨t9, x, y, rfl, ht9, rfl, hxi, hyi⟩
        dsimp only at hxi hyi
        cases hxi
        have hil : i < fl1.length := by omega
        have hyd := hWW.2 i y (rowL fl1[i]) hyi (by rw [List.getElem?_map, List.getElem?_eq_getElem hil]; rfl)
        obtain ⟨b, rfl, hb, _⟩ := rowL_parts hyd
        have hcl : (lensOf fl1).getD i 0 = fl1[i].length := by
          unfold lensOf
          rw [List.getD_eq_getElem?_getD, List.getElem?_map, List.getElem?_eq_getElem hil]
          rfl
        have hgd : fl1.getD i [] = fl1[i] := by rw [List.getD_eq_getElem?_getD, List.getElem?_eq_getElem hil]; rfl
        generalize fl1[i] = c at *
        have nRt : R ≠ t9 := ne_of_none hR1 ht9
        have st9 := same_new (o := .tup [V.int (i : Nat), V.ref b]) ht9
        have htt : upd G t9 (.tup [V.int (i : Nat), V.ref b]) t9 = some (.tup [V.int (i : Nat), V.ref b]) := upd_same
        have sG1 := sG.trans st9
        have hR2 := st9 _ _ hR1
        have hfst1 := fun v0 rest e => (hfst v0 rest e).same st9
        generalize upd G t9 (.tup [V.int (i : Nat), V.ref b]) = G1 at *
        walk_at "op"
        refine ⟨t9, _, rfl, SqT.of htt, rfl, _, _, rfl, _, _, rfl, rfl, ?_⟩
        refine ⟨rfl, ?_⟩
        refine ⟨_, rfl, b, _, rfl, .inl (SqL.of (sG1 _ _ hb)), _, _, rfl, rfl, _, rfl, ?_⟩
        rw [List.length_map]
        by_cases h2 : 1 < c.length
        · rw [decide_eq_true (show ((c.length : Nat) : Int) > 1 by omega)]
          refine iteT ?_
          refine ⟨_, rfl, _, rfl, b, c, rfl, SqL.of (sG1 _ _ hb), fun s' q1 hperm hsort hq1 => ?_⟩
          have hsl : 2 ≤ s'.length := by rw [hperm.length_eq]; exact h2
          match s', hsl with
          | x :: y :: tl, _ =>
          have sq1 := same_new (o := .lst ((x :: y :: tl).map V.int)) hq1
          have hq1' : upd G1 q1 (.lst ((x :: y :: tl).map V.int)) q1 = some (.lst ((x :: y :: tl).map V.int)) := upd_same
          have sG2 := sG1.trans sq1
          have hR3 := sq1 _ _ hR2
          have hfst2 := fun v0 rest e => (hfst1 v0 rest e).same sq1
          generalize upd G1 q1 (.lst ((x :: y :: tl).map V.int)) = G2 at *
          refine ⟨_, rfl, q1, _, rfl, SqL.of hq1', fun q2 hq2 => ?_⟩
          have ecut : cutV ((x :: y :: tl).map V.int) none (some 2) = [V.int x, V.int y] := by
            unfold cutV
            rw [show (2 : Int) = ((2 : Nat) : Int) from rfl, HT.sIx_nat]
            show ((V.int x :: V.int y :: tl.map V.int).drop 0).take (min 2 _ - 0) = _
            rw [List.drop_zero, Nat.sub_zero, Nat.min_eq_left (by simp)]
            rfl
          rw [ecut]
          have sq2 := same_new (o := .lst [V.int x, V.int y]) hq2
          have hq2' : upd G2 q2 (.lst [V.int x, V.int y]) q2 = some (.lst [V.int x, V.int y]) := upd_same
          have nRq2 : R ≠ q2 := ne_of_none hR3 hq2
          have sG3 := sG2.trans sq2
          have hR4 := sq2 _ _ hR3
          have hfst3 := fun v0 rest e => (hfst2 v0 rest e).same sq2
          generalize upd G2 q2 (.lst [V.int x, V.int y]) = G3 at *
          refine ⟨by show 2 ≤ sizeLine; decide, fun q3 hq3 => ?_⟩
          have sq3 := same_new (o := .tup [V.int (i : Nat), V.ref q2]) hq3
          have hq3' : upd G3 q3 (.tup [V.int (i : Nat), V.ref q2]) q3 = some (.tup [V.int (i : Nat), V.ref q2]) := upd_same
          have nRq3 : R ≠ q3 := ne_of_none hR4 hq3
          have sG4 := sG3.trans sq3
          have hR5 := sq3 _ _ hR4
          have hfst4 := fun v0 rest e => (hfst3 v0 rest e).same sq3
          have hq2'' := sq3 _ _ hq2'
          generalize upd G3 q3 (.tup [V.int (i : Nat), V.ref q2]) = G4 at *
          refine ⟨ws1, hR5, small1000 (by omega), sameOff sG4 hR, ws1 ++ [.ref q3], upd_same, by rw [List.length_append]; show _ + 1 ≤ _; omega, fun e => (by simp at e), fun v0 rest e => ?_⟩
          refine FirstAt.up ?_
          cases ws1 with
          | nil =>
            cases e
            exact ⟨q3, q2, i, x, y, _, tl, rfl, hq3', hq2'', nRq3.symm, nRq2.symm, hil, hnil rfl, by rw [hgd]; exact hperm, hsort, rfl⟩
          | cons v1 r1 =>
            cases e
            exact hfst4 _ _ rfl
        · rw [decide_eq_false (show ¬ ((c.length : Nat) : Int) > 1 by omega)]
          refine iteF ⟨sG1, ws1, hR2, by omega, fun e g hg => ?_, hfst1⟩
          by_cases q : g = i
          · rw [q, hcl]; omega
          · exact hnil e g (by omega)
      · rintro G ⟨sG, ws1, hR1, hwl, hnil, hfst⟩
        have hne : ws1 ≠ [] := fun z => hrest fun l hl => by
          obtain ⟨g, hg⟩ := List.getElem?_of_mem hl
          have hgl : g < fl1.length := by
            have := (List.getElem?_eq_some_iff.mp hg).1
            unfold lensOf at this
            rwa [List.length_map] at this
          have := hnil z g (by omega)
          rw [List.getD_eq_getElem?_getD, hg] at this
          exact this
        cases ws1 with
        | nil => exact absurd rfl hne
        | cons v0 rest =>
        obtain ⟨t, l2, f, x, y, s', tl, rfl, ht, hl2, _, _, hf, hlow, hperm, hsort, hs'⟩ := hfst v0 rest rfl
        have hfn : f < n := by omega
        have hfg : fl1[f]? = some (fl1.getD f []) := by rw [List.getD_eq_getElem?_getD, List.getElem?_eq_getElem hf]; rfl
        have hcm := List.mem_of_getElem? hfg
        have hlenf : (lensOf fl1).getD f 0 = (fl1.getD f []).length := by
          unfold lensOf
          rw [List.getD_eq_getElem?_getD, List.getElem?_map, hfg]
          rfl
        have h2f : 2 ≤ (fl1.getD f []).length := by
          rw [← hperm.length_eq, hs']
          simp
        have sumOf : ∀ g, g < n → (ri.getD g []).sum = (((lensOf fl1).getD g 0 : Nat) : Int) := fun g hg => by
          have e1 : fl1[g]? = some (fl1.getD g []) := by rw [List.getD_eq_getElem?_getD, List.getElem?_eq_getElem (by omega)]; rfl
          have e2 : ri.getD g [] = cntR m (fl1.getD g []) := by
            rw [← cnt_rows he1 hri oki hl1, List.getD_eq_getElem?_getD, List.getElem?_map, e1]
            rfl
          rw [e2, cntR_sum (hin1 _ (List.mem_of_getElem? e1))]
          unfold lensOf
          rw [List.getD_eq_getElem?_getD (l := fl1.map List.length), List.getElem?_map, e1]
          rfl
        have hclen := oki.len _ (List.mem_of_getElem? (rows_at (show f < ri.length by omega)))
        have hhd := two_least hperm hs' hsort (c := ri.getD f []) (fun e he => by rw [hclen]; exact hin1 _ hcm e he) (fun a => (cnt_cell he1 hri oki (a := a) hfn).symm)
        have hLe : LeastM ri f x.toNat y.toNat := ⟨by omega, by rw [sumOf f hfn, hlenf]; omega, fun g hg => by
          have := sumOf g (by omega)
          have := hlow g hg
          omega, hhd⟩
        have hM3 := prs_meets oki (show f < ri.length by omega) (List.mem_of_mem_head? hhd)
        have hx0 := hin1 _ hcm x (hperm.mem_iff.mp (by rw [hs']; exact List.mem_cons_self))
        have hy0 := hin1 _ hcm y (hperm.mem_iff.mp (by rw [hs']; exact List.mem_cons_of_mem _ List.mem_cons_self))
        try dsimp only [List.set]
        refine ⟨_, rfl, R, _, _, _, rfl, rfl, SqL.of hR1, atI_nat (j := 0) rfl, t, _, rfl, SqT.of ht, rfl, _, _, rfl, _, _, rfl, l2, _, rfl, SqL.of hl2, rfl, _, _, rfl, _, _, rfl, rfl, rfl, ?_⟩
        obtain ⟨X, rfl⟩ : ∃ X : Nat, x = (X : Int) := ⟨x.toNat, by omega⟩
        obtain ⟨Y, rfl⟩ : ∃ Y : Nat, y = (Y : Int) := ⟨y.toNat, by omega⟩
        rw [Int.toNat_natCast, Int.toNat_natCast] at hLe
        rw [Int.toNat_natCast, Int.toNat_natCast] at hM3
        have hLG := sG _ _ hL3
        have hWG := hW3.same sG
        have hCG := hC3.same sG
        have hCLG := hCL3.same sG
        have s0G := s3.trans sG
        clear ht hl2 hR1 hfst hnil hwl
        try dsimp only [List.set]
        refine ⟨_, rfl, .inl ⟨rfl, _, SqL.of hLG⟩, _, rfl, _, rfl, _, rfl, by show 3 ≤ sizeLine; decide, fun t1 ht1 => ?_⟩
        have st1 := same_new (o := .tup [V.int (f : Nat), V.int (X : Nat), V.int (Y : Nat)]) ht1
        have hpG := s0G _ _ hp
        have e3 : triD (f, X, Y) = .tuple ([((f : Nat) : Int), ((X : Nat) : Int), ((Y : Nat) : Int)].map PyData.int) := rfl
        have htd : Dat (upd G t1 (.tup [V.int (f : Nat), V.int (X : Nat), V.int (Y : Nat)])) p (.ref t1) (triD (f, X, Y)) := by
          rw [e3]
          exact .tup upd_same (ne_of_none' ht1 hpG) rfl fun i x d e1 e2 => (Dats.ints (p := p) [_, _, _]).2 i x d e1 e2
        have hL6 := st1 _ _ hLG
        have hW6 := hWG.same st1
        have hC6 := hCG.same st1
        have hCL6 := hCLG.same st1
        have s6 := s0G.trans st1
        generalize upd G t1 (.tup [V.int (f : Nat), V.int (X : Nat), V.int (Y : Nat)]) = H6 at *
        have hlen : ws.length = l.length := by rw [hW6.1, List.length_map]
        refine ⟨L, ws, _, rfl, rfl, hL6, small1000 (by omega), ?_⟩
        have hC7 : Dat (upd H6 L (.lst (ws ++ [.ref t1]))) p (.ref ac) (crowdD fl1 out1) := Dat.both hCL6 hC6
        have hL7 : upd H6 L (.lst (ws ++ [.ref t1])) L = some (.lst (ws ++ [.ref t1])) := upd_same
        have hW7 : Dats (upd H6 L (.lst (ws ++ [.ref t1]))) p (ws ++ [.ref t1]) ((l ++ [(f, X, Y)]).map triD) := by
          rw [List.map_append]
          exact (hW6.setL hL6 (mtri_no _)).snoc (htd.setL hL6 (mtri_no [_] _ (List.mem_singleton.mpr rfl)))
        have s7 : Same H (upd H6 L (.lst (ws ++ [.ref t1]))) := sameOff s6 hLH
        generalize upd H6 L (.lst (ws ++ [.ref t1])) = H7 at *
        refine ⟨_, rfl, _, rfl, _, rfl, _, rfl, _, rfl, by show 3 ≤ sizeLine; decide, fun t2 ht2 => ?_⟩
        have hp7 := s7 _ _ hp
        have st2 := same_new (o := .tup [V.int (f : Nat), V.int (X : Nat), V.int (Y : Nat)]) ht2
        have htd2 : Dat (upd H7 t2 (.tup [V.int (f : Nat), V.int (X : Nat), V.int (Y : Nat)])) p (.ref t2) (triD (f, X, Y)) := by
          rw [e3]
          exact .tup upd_same (ne_of_none' ht2 hp7) rfl fun i x d e1 e2 => (Dats.ints (p := p) [_, _, _]).2 i x d e1 e2
        have hL8 := st2 _ _ hL7
        have hW8 := hW7.same st2
        have hC8 := hC7.same st2
        have s8 := s7.trans st2
        generalize upd H7 t2 (.tup [V.int (f : Nat), V.int (X : Nat), V.int (Y : Nat)]) = H8 at *
        refine ⟨hv, .ref ac, .ref t2, p, ph, p, u, fs, m, n, fl1, ri, out1, _, rfl, s8 _ _ hp, hD.same s8, hN, hC8, htd2, .inr ⟨_, rfl⟩, hl1, hin1, oki.out, hs1, hri, oki, he1, fun hno => absurd ⟨_, rfl, hM3⟩ hno, fun f' a' b' e hm v' H9 fl' out' hv' s9 hls h2 hin' hln' ho' he' hany => ?_⟩
        have e4 := triD_inj e
        cases e4
        subst ho'
        obtain ⟨q1, q2⟩ := step_come f 0 (lensOf fl1) h2
        exact ⟨left_ (comeN 0 (lensOf fl')), by rw [hls]; omega, fl', _, _, v', l ++ [(f, X, Y)], ws ++ [.ref t1], _, _, _, _, _, rfl, s8.trans s9, s9 _ _ hL8, hW8.same s9, hv', hany L _ hL8, hln', hin', by rw [hls]; exact Nat.le_trans (step_sum f (lensOf fl1) (by omega)) hs1, he', metRows_len hri, met_ok oki hri hgo hm, hRun.snoc hLe, rfl, by rw [hls, List.length_append, List.length_singleton]; omega⟩

end
end Fm
end FLST
section FFmKept
set_option Elab.async false
set_option linter.all false
set_option maxRecDepth 100000
set_option maxHeartbeats 2000000
namespace Fm
open PySem PySem.Spec PyProof.Rows L2
/-- isinstance(e, c), e a kept error with fields -/
def rIsKd (K : PySem.W.Frag) (D : Addr) : List V → Hp → VK → Prop := fun xs H Q => ∃ (a dd : Addr) (fs : List (Str × V)) (c : V) (u : Value) (b : Bool), xs = [.ref a, c] ∧ H a = some (ExK (.ref D) (some dd) a) ∧ H dd = some (.xd fs) ∧ ClsV c u ∧ PySem.W.kitOne K (.ref D) u = some b ∧ Q (.bl b) H
def rIsKTd (K : PySem.W.Frag) (D : Addr) : List V → Hp → VK → Prop := fun xs H Q => ∃ (a dd tp : Addr) (fs : List (Str × V)) (cs : List V) (us : List Value) (b : Bool), xs = [.ref a, .ref tp] ∧ H a = some (ExK (.ref D) (some dd) a) ∧ H dd = some (.xd fs) ∧ H tp = some (.tup cs) ∧ Paired ClsV cs us ∧ PySem.W.kitAny K (.ref D) us = some b ∧ Q (.bl b) H
section
variable {X : Cx} {D : Addr}
theorem kept_instD {pins : List (Addr × Obj)} {σ : L2.St} {H : Hp} {s : Shared} {a dd : Addr} {fs : List (Str × V)} (I : Inv X pins σ H s) (h : H a = some (ExK (.ref D) (some dd) a)) (hd : H dd = some (.xd fs)) : ∃ oe od, PySem.W.InstAt s.heap a oe D (some od) ∧ s.heap.get? dd = some od := by
  obtain ⟨⟨oe, vs, hg, hz, hv⟩, _, _⟩ := I.hok a _ h
  obtain ⟨oc, od, oda, osl⟩ := oe
  obtain ⟨h1, h2⟩ := hz
  dsimp only at h1 h2 hv
  subst h1 h2 hv
  have hx : ObjOk X.prog X.w H s.heap dd (.xd fs) := I.hok dd _ hd
  obtain ⟨mA, hns, hr⟩ := hx
  obtain ⟨od, ho, hl⟩ := lookIn_ns hns
  exact ⟨_, od, ⟨hg, rfl, rfl, ho⟩, ho⟩
theorem kit_of (C : ExcC X.K D) {x : Addr} {ox : Obj} {od : Option Obj} : PySem.W.KitX X.K (.ref x) (.ref D) (fun h => PySem.W.InstAt h x ox D od) :=
  PySem.W.kitx_exc (by obtain ⟨cd, hc, _⟩ := PySem.W.any_some C.hd; rw [hc]; rfl) C.hg C.hk C.hs C.ha C.hn C.ht C.hm
theorem call_isKd (C : ExcC X.K D) : CallR X (.builtin "isinstance") (rIsKd X.K D) := by
  intro pins s σ H xs us Q I r h
  obtain ⟨a, dd, fs, c, u, b, rfl, ha, hd, hc, e, q⟩ := h
  obtain ⟨u1, u2, rfl, r1, r2⟩ := vals2 r
  cases r1
  have e2 := hc.eq r2
  subst e2
  obtain ⟨oe, od, J, _⟩ := kept_instD I ha hd
  exact PySem.W.kia_one (kit_of C) I.kIn J e (fun z => nomatch z) fun tk => ⟨.bl b, H, I.tok tk, rfl, q⟩
theorem call_isKTd (C : ExcC X.K D) : CallR X (.builtin "isinstance") (rIsKTd X.K D) := by
  intro pins s σ H xs us Q I r h
  obtain ⟨a, dd, tp, fs, cs, ws, b, rfl, ha, hd, hT, hc, e, q⟩ := h
  obtain ⟨u1, u2, rfl, r1, r2⟩ := vals2 r
  cases r1
  cases (show u2 = Value.ref tp from r2)
  obtain ⟨oe, od, J, _⟩ := kept_instD I ha hd
  obtain ⟨_, its, rv, o, h1, h2, n, h3⟩ := (show ObjOk X.prog X.w H s.heap tp (.tup cs) from I.hok tp _ hT)
  have e3 := ClsV.all hc rv
  subst e3
  obtain ⟨oc, od, dt, sl⟩ := o
  simp only at h2 h3
  subst h2 h3
  exact PySem.W.kia_tup (kit_of C) I.kIn J h1 e (fun z => nomatch z) fun tk => ⟨.bl b, H, I.tok tk, rfl, q⟩
/-- e.n, e a kept error with fields -/
def tXk (K : PySem.W.Frag) (C : Addr) (n : Str) (te : TE) : TE := fun σ H Q => te σ H fun x H1 => ∃ (a dd : Addr) (fs : List (Str × V)) (v : V), x = .ref a ∧ H1 a = some (ExK (.ref C) (some dd) a) ∧ H1 dd = some (.xd fs) ∧ fs.lookup n = some v ∧ Q v H1
theorem pe_xk {C : Addr} {e : Expr} {te : TE} {pos : Pos} {n : Str} (T : XfC X.K C) (hno : PySem.W.findIn X.K (.ref C) n = some none) (he : PE X e te) (hb : attributeBase e n X.env (eval e X.env) = eval e X.env := by rfl) :
    PE X (.Attribute e n pos) (tXk X.K C n te) := by
  refine ⟨fun pins s σ H Q I h => ?_⟩
  refine attr_of hb (thn (he.run pins s σ H _ I h) fun u s1 hh => ?_)
  obtain ⟨x, H1, I1, rx, a, dd, fs, v, ex, ea, ed, l, q⟩ := hh
  subst ex
  obtain rfl : u = Value.ref a := rx
  obtain ⟨⟨oe, vs, hg, hz, hv⟩, _, _⟩ := I1.hok a _ ea
  have hx : ObjOk X.prog X.w H1 s1.heap dd (.xd fs) := I1.hok dd _ ed
  obtain ⟨mA, hns, hr⟩ := hx
  obtain ⟨od, ho, hl⟩ := lookIn_ns hns
  obtain ⟨u, hu, ru⟩ := RelO.some_of (v := v) (o := mA n) (by rw [← l]; exact hr n)
  have J : PySem.W.InstAt s1.heap a oe C (some od) := ⟨hg, hz.1, by unfold PySem.W.notCls; rw [hv] <;> rfl, by rw [hz.2]; exact ho⟩
  exact HandSPX.exc_get I1.kIn J T.ga T.gg T.exC (PySem.W.findObj_own T.hdC hno rfl (by rw [hl, hu])) (handed_of ru) ⟨v, H1, I1.tok _, ru, q⟩
end
end Fm
end FFmKept
section FTLD
set_option Elab.async false
set_option linter.all false
set_option maxRecDepth 100000
set_option maxHeartbeats 4000000
local macro_rules | `(tactic| walk_at "ne") => `(tactic| first | assumption | (apply Ne.symm; assumption) | exact L2.ne_of_none (by assumption) (by assumption) | exact Ne.symm (L2.ne_of_none (by assumption) (by assumption)))
local macro_rules | `(tactic| walk_at "hl") => `(tactic| first | assumption | exact L2.upd_same | (refine Eq.trans (L2.upd_ne (by walk_at "ne")) ?_; walk_at "hl"))
local macro_rules | `(tactic| walk_at "sd") => `(tactic| first | (with_reducible show (_ : Int) < _; omega) | (with_reducible show (_ : Int) ≤ _; omega) | assumption | decide | exact ⟨by assumption, by assumption⟩ | exact ⟨by decide, by decide⟩ | exact Or.inr ⟨by decide, by decide⟩ | exact Or.inl ⟨by omega, by omega⟩ | rfl)
local macro_rules | `(tactic| walk_at "st1") => `(tactic| first
  | refine ⟨_, rfl, ?_⟩
  | refine ⟨_, _, rfl, rfl, ?_⟩
  | refine ⟨_, _, rfl, ?_⟩
  | (refine ⟨_, _, _, _, rfl, rfl, L2.SqL.of (by walk_at "hl"), rfl, ?_⟩)
  | (refine ⟨_, _, _, _, rfl, rfl, L2.SqT.of (by walk_at "hl"), rfl, ?_⟩)
  | (refine ⟨_, _, _, _, rfl, rfl, (by walk_at "hl"), rfl, ?_⟩)
  | (refine And.intro (by walk_at "sd") ?_)
  )
local macro_rules | `(tactic| walk_at "st") => `(tactic| repeat walk_at "st1")
local macro_rules | `(tactic| walk_at "op") => `(tactic| try dsimp only [L2.tSeq, L2.tAsg, L2.tOp, L2.tVar, L2.tC, L2.gSub, L2.rI, L2.rI0, L2.rIxL, L2.rIxT, L2.rSetL, L2.tIfS, L2.tTest, L2.tRet, L2.gName, L2.tNext, L2.tAnd, L2.tOr, L2.tNot, L2.tAndV, L2.tOrV, L2.tNotV, L2.tB, L2.tCB, L2.tCons, L2.tNil, L2.tCall, L2.tTup, L2.tLst, L2.tChain, L2.tUn, L2.tPar, L2.tDrop, L2.tIf, L2.tBM, L2.tBM0, L2.rAppend, L2.rCat, L2.rIsi, L2.rIsiT, L2.gTup, L2.gCons, L2.gNil, Fm.tFor_eq, Fm.tLc_eq, Fm.tLc2_eq, L2.iTup, L2.iList, L2.iRng1, L2.iRng2, L2.tSl, L2.tPart, L2.tNoPart, L2.rSlL, L2.rEq, L2.rNe, L2.rU, L2.rEqD, L2.rNeD, Fm.tRevT, Fm.rLenS, Fm.rTupOf, Fm.rLstOf, L2.tDNewK, L2.tCallS, L2.WE, Fm.wKeep, Fm.rIsK, Fm.rIsKT, List.cons_append, List.nil_append, L2.tYes])
namespace Fm
open PySem PySem.Spec PyProof.Rows L2
abbrev s_law_told : Stmt := top 51
abbrev N_law_told : List Str := ["way", "house", "standing", "row", "caught", "told", "e"]
theorem sc_law_told : FnScope N_law_told ["way", "house", "standing", "row"] (defScope s_law_told) := ⟨rfl, rfl, rfl, by decide +kernel, rfl, by decide +kernel, by decide +kernel⟩
section
variable {P : Program} {w : World} {K : PySem.W.Frag} {mg : Str → Option Value} {base : Heap}
/-! ### what run and first_run told -/
def rIsK2 (K : PySem.W.Frag) (D1 D2 : Addr) : List V → Hp → VK → Prop := fun xs H Q => rIsKd K D1 xs H Q ∨ rIsKd K D2 xs H Q
theorem call_isK2 {X : Cx} {D1 D2 : Addr} (C1 : ExcC X.K D1) (C2 : ExcC X.K D2) : CallR X (.builtin "isinstance") (rIsK2 X.K D1 D2) := by
  intro pins s σ H xs us Q I r h
  rcases h with h | h
  · exact call_isKd C1 pins s σ H xs us Q I r h
  · exact call_isKd C2 pins s σ H xs us Q I r h
def spTold : Sp := fun vs H Q _ => ∃ (way : Nat) (hv sv rv : V) (p ph pm : Addr) (u : HO) (fs : List PyData) (m n : Nat) (rows : List (List Int)) (out : Int), vs = [.int (way : Nat), hv, sv, rv] ∧ H p = some u ∧ Dat H ph hv (.tuple fs) ∧ HouseN m n (.tuple fs) ∧ Dat H p sv (stD rows out) ∧ rows.length = n ∧ StOk m rows out ∧
  ((way = 0 ∧ ∃ (L : Addr) (xs : List V) (ds : List PyData), rv = .ref L ∧ H L = some (.lst xs) ∧ Dats H pm xs ds ∧ (∀ w r o H', GoneTo fs m ds rows out ds.length r o → Dat H' p w (stD r o) → Same H H' → Q w H') ∧ (∀ k r o H', GoneTo fs m ds rows out k r o → k < ds.length → Same H H' → Q (.int (k : Nat)) H')) ∨
   (way = 1 ∧ ((rows.map List.sum).sum ≤ 60 → ∀ q ws H' l r o, RunL fs m rows out l r o → (∀ c ∈ r, c.sum ≤ 1) → H' q = some (.lst ws) → Dats H' p ws (l.map triD) → Same H H' → Q (.ref q) H') ∧
     (60 < (rows.map List.sum).sum → ∀ t H', H' t = some (.lst [.str "many", .int (rows.map List.sum).sum]) → Same H H' → Q (.ref t) H')))
theorem ok_law_told (D : Df K mg "_law_told" s_law_told ["way", "house", "standing", "row"]) (T : Nms mg) {C1 C2 M : Addr} (EXc1 : ExcC K C1) (EXc2 : ExcC K C2) (XF1 : XfC K C1) (XF2 : XfC K C2) (hno1 : PySem.W.findIn K (.ref C1) "at" = some none) (hno2 : PySem.W.findIn K (.ref C2) "many" = some none)
    (exm1 : PySem.W.exmOne K (.ref C1) (.ref M) = some true) (exm2 : PySem.W.exmOne K (.ref C2) (.ref M) = some true) (g_MeetError : mg "MeetError" = some (.ref M)) (g_NoMeeting : mg "NoMeeting" = some (.ref C1)) (g_TooMany : mg "TooMany" = some (.ref C2))
    (z11 : PySem.W.kitOne K (.ref C1) (.ref C1) = some true) (z12 : PySem.W.kitOne K (.ref C1) (.ref C2) = some false) (z21 : PySem.W.kitOne K (.ref C2) (.ref C1) = some false) (z22 : PySem.W.kitOne K (.ref C2) (.ref C2) = some true)
    (c_run : CallOk P w K mg base (L2.CX P w) 8 "run" ["house", "standing", "row"] (spRun C1)) (c_first_run : CallOk P w K mg base (L2.CX P w) 9 "first_run" ["house", "standing"] (spFirst C2)) : CallOk P w K mg base CX0 10 "_law_told" ["way", "house", "standing", "row"] spTold := by
  refine df_ok D sc_law_told (fun vs H Q E h => ?_) (fun f cdv A outer s H vs Q E hr h => ?_)
  · obtain ⟨way, hv, sv, rv, p, ph, pm, u, fs, m, n, rows, out, rfl, _⟩ := h
    rfl
  · obtain ⟨way, hv, sv, rv, p, ph, pm, u, fs, m, n, rows, out, rfl, hp, hD, hN, sD, hl, ok, k⟩ := h
    have nd := sc_law_told.nd
    let a_NoMeeting := C1
    let a_TooMany := C2
    refine ⟨_, (pss_cons (ps_set (i := 4) nd rfl (Or.inl rfl) pe_non)
      (pss_cons (ps_set (i := 5) nd rfl (Or.inl rfl) pe_non)
      (pss_cons (ps_try_keep (i := 6) (j := 4) rfl rfl rfl nd rfl rfl rfl rfl ⟨rfl, by decide, .inl g_MeetError⟩ (by decide) (by decide) (by rfl) (by show 6 < List.length N_law_told; decide) (fun W pn xe tk _ => (pss_one (ps_set (i := 5) nd rfl (Or.inl rfl) (pe_ifExp (pt_cmpR op_eq (pv 0) pe_int (nomark _)) (pe_cs c_run tk (hr.mono (by omega)) (pa_cons (pv 1) (pa_cons (pv 2) (pa_cons (pv 3) pa_nil)))) (pe_cs c_first_run tk (hr.mono (by omega)) (pa_cons (pv 1) (pa_cons (pv 2) pa_nil))))))))
      (pss_cons (ps_if (pt_cmpR op_isN (pv 4) pe_non (nomark _)) (pss_one (ps_ret (pv 5))) pss_nil)
      (pss_cons (ps_if (PW.pt (pw_and (pt_val (pe_callB (call_isK2 EXc1 EXc2) (by rfl) T.n_isinstance (by decide +kernel) (pa_cons (pv 4) (pa_cons (pe_glob (v := .ref a_NoMeeting) rfl g_NoMeeting rfl) pa_nil)))) (pw_and1 (pt_not (pt_val (pe_callB (call_isK2 EXc1 EXc2) (by rfl) T.n_isinstance (by decide +kernel) (pa_cons (pv 4) (pa_cons (pe_glob (v := .ref a_TooMany) rfl g_TooMany rfl) pa_nil)))))))) (pss_one (ps_ret (pe_xk XF1 hno1 (pv 4)))) pss_nil)
      (pss_one (ps_ret (pe_ifExp (pt_val (pe_callB (call_isK2 EXc1 EXc2) (by rfl) T.n_isinstance (by decide +kernel) (pa_cons (pv 4) (pa_cons (pe_glob (v := .ref a_TooMany) rfl g_TooMany rfl) pa_nil)))) (pe_lst (pa_cons pe_str (pa_cons (pe_xk XF2 hno2 (pv 4)) pa_nil))) pe_str)))))))), ?_⟩
    walk_at "op"
    rcases k with ⟨rfl, L, xs, ds, rfl, hL, hds, k1, k2⟩ | ⟨rfl, k1, k2⟩
    · refine ⟨_, rfl, rfl, true, by rw [decide_eq_true (show V.int ((0 : Nat) : Int) = V.int 0 from rfl)], ?_⟩
      rw [if_pos rfl]
      refine ⟨_, rfl, _, rfl, _, rfl, hv, sv, L, p, ph, pm, u, fs, m, n, rows, out, xs, ds, rfl, hp, hD, hN, sD, hl, ok, hL, hds, fun w kk r o H' hG hk hw s1 => ?_, fun kk r o H1 dx hG hk s1 hdx => ?_⟩
      · refine ⟨_, rfl, rfl, true, by rw [decide_eq_true rfl], ?_⟩
        rw [if_pos rfl]
        subst hk
        exact ⟨_, rfl, k1 w r o H' hG hw s1⟩
      · refine ⟨exm1, fun a ha => ?_⟩
        walk_at "op"
        have nda : dx ≠ a := ne_of_none upd_same ha
        have e1a : upd (upd H1 dx (.xd [("at", .int (kk : Nat))])) a (ExK (.ref C1) (some dx) a) a = some (ExK (.ref C1) (some dx) a) := upd_same
        have e1d : upd (upd H1 dx (.xd [("at", .int (kk : Nat))])) a (ExK (.ref C1) (some dx) a) dx = some (.xd [("at", .int (kk : Nat))]) := by rw [upd_ne nda]; exact upd_same
        have s2 : Same H (upd (upd H1 dx (.xd [("at", .int (kk : Nat))])) a (ExK (.ref C1) (some dx) a)) := (s1.trans (same_new hdx)).trans (same_new ha)
        generalize upd (upd H1 dx (.xd [("at", .int (kk : Nat))])) a (ExK (.ref C1) (some dx) a) = G at *
        refine ⟨_, rfl, rfl, false, by rw [decide_eq_false (fun z => by cases z)], ?_⟩
        rw [if_neg (by decide)]
        refine ⟨_, rfl, .inl ⟨a, dx, _, _, _, true, rfl, e1a, e1d, .own _, z11, true, rfl, ?_⟩⟩
        rw [if_pos rfl]
        refine ⟨_, rfl, .inl ⟨a, dx, _, _, _, false, rfl, e1a, e1d, .own _, z12, false, rfl, ?_⟩⟩
        rw [if_pos (by decide)]
        exact ⟨_, rfl, a, dx, _, _, rfl, e1a, e1d, rfl, k2 kk r o G hG hk s2⟩
    · refine ⟨_, rfl, rfl, false, by rw [decide_eq_false (fun z => by injection z with z; revert z; decide)], ?_⟩
      rw [if_neg (by decide)]
      refine ⟨_, rfl, _, rfl, hv, sv, p, ph, u, fs, m, n, rows, out, rfl, hp, hD, hN, sD, hl, ok, fun h60 q ws H' l r o hR hrest hq hq' hW s1 => ?_, fun h60 H1 dx s1 hdx => ?_⟩
      · refine ⟨_, rfl, rfl, true, by rw [decide_eq_true rfl], ?_⟩
        rw [if_pos rfl]
        exact ⟨_, rfl, k1 h60 q ws H' l r o hR hrest hq' hW s1⟩
      · generalize (rows.map List.sum).sum = big at *
        refine ⟨exm2, fun a ha => ?_⟩
        walk_at "op"
        have nda : dx ≠ a := ne_of_none upd_same ha
        have e1a : upd (upd H1 dx (.xd [("many", .int big)])) a (ExK (.ref C2) (some dx) a) a = some (ExK (.ref C2) (some dx) a) := upd_same
        have e1d : upd (upd H1 dx (.xd [("many", .int big)])) a (ExK (.ref C2) (some dx) a) dx = some (.xd [("many", .int big)]) := by rw [upd_ne nda]; exact upd_same
        have s2 : Same H (upd (upd H1 dx (.xd [("many", .int big)])) a (ExK (.ref C2) (some dx) a)) := (s1.trans (same_new hdx)).trans (same_new ha)
        generalize upd (upd H1 dx (.xd [("many", .int big)])) a (ExK (.ref C2) (some dx) a) = G at *
        refine ⟨_, rfl, rfl, false, by rw [decide_eq_false (fun z => by cases z)], ?_⟩
        rw [if_neg (by decide)]
        refine ⟨_, rfl, .inr ⟨a, dx, _, _, _, false, rfl, e1a, e1d, .own _, z21, false, rfl, ?_⟩⟩
        rw [if_neg (by decide)]
        refine ⟨_, rfl, .inr ⟨a, dx, _, _, _, true, rfl, e1a, e1d, .own _, z22, true, rfl, ?_⟩⟩
        rw [if_pos rfl]
        refine ⟨_, rfl, a, dx, _, _, rfl, e1a, e1d, rfl, by show 2 ≤ sizeLine; decide, fun t ht => ?_⟩
        exact k2 h60 t _ upd_same (s2.trans (same_new ht))

end
end Fm
end FTLD
section FFmTimes0
set_option Elab.async false
set_option linter.all false
set_option maxRecDepth 100000
set_option maxHeartbeats 4000000
namespace Fm
open PySem PySem.Spec PySem.Calls PyProof.Rows L2
/-- a tuple no times -/
theorem zero_meets (l : Addr) (items : Array Value) (n : Nat) (dd : Option Addr) (sl : Array (Option Value)) (u : Tok) (hne : items.isEmpty = false) :
    Meets (Builtin.«tuple.__mul__» ⟨[.ref l, .int 0 u], []⟩) (fun _ R s => s.heap.get? l = some { cls := .type "tuple", dict := dd, data := .seq items n, slots := sl } ∧ R (.ok (.ret (.ref s.heap.objs.size))) { s with heap := s.heap.push { cls := Value.type "tuple", data := Data.seq #[] } }) :=
  .of_wp fun prog w A R s h => by
    obtain ⟨hp, g, d, tk, os⟩ := s
    obtain ⟨hl, h⟩ := h
    have f1 := AutoSeq1.idx_int
    have c1 : (items.isEmpty || (0 : Int) == 1) = false := by rw [hne]; rfl
    have c2 : (decide ((0 : Int) ≤ 0) || items.isEmpty) = true := by simp
    wp_walk using wpAny_loadPart' hl
    repeat (first
      | (refine wpAny_ite_false (decide_eq_false (by rw [c1]; exact Bool.false_ne_true)) ?_; wp_walk using wpAny_loadPart' hl)
      | (refine wpAny_ite_false c1 ?_; wp_walk using wpAny_loadPart' hl)
      | (refine wpAny_ite_true (decide_eq_true c2) ?_; wp_walk using wpAny_loadPart' hl)
      | (refine wpAny_ite_true c2 ?_; wp_walk using wpAny_loadPart' hl))
    exact ⟨_, rfl, h⟩
def rZero (K : PySem.W.Frag) : R2 := fun x y H Q => ∃ l xs, x = .ref l ∧ y = .int 0 ∧ SqT K H l xs ∧ xs ≠ [] ∧ ∀ p, H p = none → Q (.ref p) (upd H p (.tup []))
theorem op_zero {X : Cx} : OpR X (binaryOp .Mult) (rZero X.K) := by
  intro pins s σ H x y v u Q I rx ry h
  obtain ⟨l, xs, rfl, rfl, hT, hne, q⟩ := h
  cases rx
  obtain ⟨t, rfl⟩ := ry
  obtain ⟨its, r, ⟨⟨cls, dd, data, sl⟩, ho, hc, n, hd⟩, hs⟩ := I.tuple hT
  simp only at hc hd
  subst hc hd
  have hi : its.toArray.isEmpty = false := by
    cases its with
    | nil => exact absurd (List.eq_nil_of_length_eq_zero (by have := r.length; simpa using this)) hne
    | cons a b => rfl
  refine wpAny_binaryOp_repeat_ref (T := "tuple") (U := "int") (by decide) ⟨_, ho, rfl⟩ (fun s' => typeIs_int s' 0 t) noFill_tuple_mul F.fills_int_mul F.slot_int_rmul repeat_tuple F.slot_int_index.lookup
    (call_meets F.slot_int_rmul (typeIs_int s 0 t) F.entry_int_rmul (F.args_int_rmul_2 _ _) (int_rmul_tuple 0 t l its.toArray n dd sl)
      ⟨ho, rfl, ⟨_, ho, rfl⟩, call_meets F.slot_tuple_mul ⟨_, ho, rfl⟩ F.entry_tuple_mul (F.args_tuple_mul_2 _ _) (zero_meets l its.toArray n dd sl t hi) ⟨ho, ?_⟩⟩)
  refine ⟨.ref s.heap.objs.size, _, I.laid (t' := s.toks) (o := .tup []) (fun b ob q => Heap.get?_push_of_some _ q) (Nat.le_refl _) ?_, rfl, q _ (I.hok.fresh (Nat.le_refl _))⟩
  exact ⟨Nat.zero_le _, [], .nil, IsTup.new _ _⟩
/-- t * k, k none or more -/
def rTimesZ (K : PySem.W.Frag) : R2 := fun x y H Q => rTimes K x y H Q ∨ rZero K x y H Q
theorem op_timesZ {X : Cx} : OpR X (binaryOp .Mult) (rTimesZ X.K) := op_times.or op_zero
end Fm
end FFmTimes0
section FLF
set_option Elab.async false
set_option linter.all false
set_option maxRecDepth 100000
set_option maxHeartbeats 4000000
local macro_rules | `(tactic| walk_at "ne") => `(tactic| first | assumption | (apply Ne.symm; assumption) | exact L2.ne_of_none (by assumption) (by assumption) | exact Ne.symm (L2.ne_of_none (by assumption) (by assumption)))
local macro_rules | `(tactic| walk_at "hl") => `(tactic| first | assumption | exact L2.upd_same | (refine Eq.trans (L2.upd_ne (by walk_at "ne")) ?_; walk_at "hl"))
local macro_rules | `(tactic| walk_at "sd") => `(tactic| first | (with_reducible show (_ : Int) < _; omega) | (with_reducible show (_ : Int) ≤ _; omega) | assumption | decide | exact ⟨by assumption, by assumption⟩ | exact ⟨by decide, by decide⟩ | exact Or.inr ⟨by decide, by decide⟩ | exact Or.inl ⟨by omega, by omega⟩ | rfl)
local macro_rules | `(tactic| walk_at "st1") => `(tactic| first
  | refine ⟨_, rfl, ?_⟩
  | refine ⟨_, _, rfl, rfl, ?_⟩
  | refine ⟨_, _, rfl, ?_⟩
  | (refine ⟨_, _, _, _, rfl, rfl, L2.SqL.of (by walk_at "hl"), rfl, ?_⟩)
  | (refine ⟨_, _, _, _, rfl, rfl, L2.SqT.of (by walk_at "hl"), rfl, ?_⟩)
  | (refine ⟨_, _, _, _, rfl, rfl, (by walk_at "hl"), rfl, ?_⟩)
  | (refine And.intro (by walk_at "sd") ?_)
  )
local macro_rules | `(tactic| walk_at "st") => `(tactic| repeat walk_at "st1")
local macro_rules | `(tactic| walk_at "op") => `(tactic| try dsimp only [L2.tSeq, L2.tAsg, L2.tOp, L2.tVar, L2.tC, L2.gSub, L2.rI, L2.rI0, L2.rIxL, L2.rIxT, L2.rSetL, L2.tIfS, L2.tTest, L2.tRet, L2.gName, L2.tNext, L2.tAnd, L2.tOr, L2.tNot, L2.tAndV, L2.tOrV, L2.tNotV, L2.tB, L2.tCB, L2.tCons, L2.tNil, L2.tCall, L2.tTup, L2.tLst, L2.tChain, L2.tUn, L2.tPar, L2.tDrop, L2.tIf, L2.tBM, L2.tBM0, L2.rAppend, L2.rCat, L2.rIsi, L2.rIsiT, L2.gTup, L2.gCons, L2.gNil, Fm.tFor_eq, Fm.tLc_eq, Fm.tLc2_eq, L2.iTup, L2.iList, L2.iRng1, L2.iRng2, L2.tSl, L2.tPart, L2.tNoPart, L2.rSlL, L2.rEq, L2.rNe, L2.rU, L2.rEqD, L2.rNeD, Fm.tRevT, Fm.rLenS, Fm.rTupOf, Fm.rLstOf, L2.tDNewK, L2.tCallS, L2.WE, Fm.wKeep, Fm.rIsK, Fm.rIsKT, List.cons_append, List.nil_append, L2.tYes])
namespace Fm
open PySem PySem.Spec PyProof.Rows L2
section
variable {P : Program} {w : World} {K : PySem.W.Frag} {mg : Str → Option Value} {base : Heap}
/-! ### how long the texts are -/
theorem std_nod (rows : List (List Int)) (x : Int) : (stD rows x).hasDict = false := by
  unfold stD
  simp only [PyData.hasDict]
  refine hasDict_all fun d hd => ?_
  rcases List.mem_append.mp hd with hd | hd
  · obtain ⟨r, _, rfl⟩ := List.mem_map.mp hd
    exact (rowD_shaped r).2.1
  · rw [List.mem_singleton.mp hd]
    simp only [PyData.hasDict]
theorem fit_rowD {r : List Int} (h : r.length ≤ 6) (hc : ∀ c ∈ r, c.natAbs < 10 ^ 40) : Fit 261 1 (rowD r) := by
  have q := fit_tup (n := 41) (k := 0) (ds := r.map PyData.int) (fun d hd => by obtain ⟨c, hm, rfl⟩ := List.mem_map.mp hd; exact fit_int (hc c hm)) (fun d hd => by obtain ⟨c, _, rfl⟩ := List.mem_map.mp hd; unfold noList; rfl)
  rw [List.length_map] at q
  exact q.mono (by omega) (Nat.le_refl _)
theorem fit_std {rows : List (List Int)} {out : Int} (hn : rows.length ≤ 4) (h : ∀ r ∈ rows, r.length ≤ 6 ∧ ∀ c ∈ r, c.natAbs < 10 ^ 40) (ho : out.natAbs < 10 ^ 40) : Fit 1400 2 (stD rows out) := by
  have q := fit_tup (n := 261) (k := 1) (ds := rows.map rowD ++ [.int out]) (fun d hd => by
    rcases List.mem_append.mp hd with hd | hd
    · obtain ⟨r, hr, rfl⟩ := List.mem_map.mp hd
      exact fit_rowD (h r hr).1 (h r hr).2
    · rw [List.mem_singleton.mp hd]
      exact (fit_int ho).mono (by omega) (by omega)) (std_no rows out)
  rw [List.length_append, List.length_map, List.length_singleton] at q
  exact q.mono (by omega) (Nat.le_refl _)
theorem un65 {k : Nat} {A : Around} (r : Room k A) : A.units + 65 < cLine := by have := r.un; omega
/-- how many meetings the least run has, and which -/
theorem RunL.bound {fs : List PyData} {m n : Nat} {rows r : List (List Int)} {out o : Int} {l : List (Nat × Nat × Nat)} (h : RunL fs m rows out l r o) (hgo : goLt fs m n) : StOk m rows out → rows.length = n → l.length + left_ (comeN 0 (rsN r)) = left_ (comeN 0 (rsN rows)) ∧ ∀ x ∈ l, x.1 < n ∧ x.2.1 < m ∧ x.2.2 < m := by
  induction h with
  | nil => exact fun _ _ => ⟨by simp, fun x hx => by cases hx⟩
  | @cons rows r out o f a b l hm _ ih =>
    intro ok hl
    have hx : (a, b) ∈ prs (rows.getD f []) := List.mem_of_head? hm.hd
    have hM : Meets3 m rows f a b := prs_meets ok hm.lt hx
    obtain ⟨h1, h2⟩ := ih (met_ok ok hl hgo hM) (metRows_len hl)
    obtain ⟨e1, e2⟩ := rs_met ok hl hgo hM
    obtain ⟨hf, ha, hb, _⟩ := meets_cells ok hl hM
    have := (step_come f 0 (rsN rows) e2).1
    rw [e1] at h1
    refine ⟨by rw [List.length_cons]; omega, fun x hx => ?_⟩
    rcases List.mem_cons.mp hx with rfl | hx
    · exact ⟨hf, ha, hb⟩
    · exact h2 x hx
theorem RunL.small {fs : List PyData} {m n : Nat} {rows r : List (List Int)} {out o : Int} {l : List (Nat × Nat × Nat)} (h : RunL fs m rows out l r o) (hgo : goLt fs m n) (hN : HouseN m n (.tuple fs)) (ok : StOk m rows out) (hl : rows.length = n) (hs : (rows.map List.sum).sum ≤ 100) : l.length ≤ 400 ∧ SmallT l := by
  obtain ⟨_, _, _, z1, z2, z3, z4, _⟩ := id hN
  obtain ⟨h1, h2⟩ := h.bound hgo ok hl
  have e := rs_cast ok
  have hsum : (rsN rows).sum ≤ 100 := by
    have q : ((((rsN rows).sum : Nat) : Int)) = (rows.map List.sum).sum := by rw [cast_sum, e]
    omega
  have h3 := left_le 0 (rsN rows)
  have h4 : (rsN rows).length = n := by unfold rsN; rw [List.length_map, hl]
  rw [h4] at h3
  have h5 : n * (0 + (rsN rows).sum) ≤ 4 * 100 := Nat.mul_le_mul z2 (by omega)
  exact ⟨by omega, fun x hx => by have := h2 x hx; omega⟩
theorem GoneTo.small {fs : List PyData} {m n k : Nat} {ds : List PyData} {rows r : List (List Int)} {out o : Int} (h : GoneTo fs m ds rows out k r o) (hgo : goLt fs m n) (hN : HouseN m n (.tuple fs)) (ok : StOk m rows out) (hl : rows.length = n) (hs : (rows.map List.sum).sum ≤ 100) (ho : out ≤ 100) : Fit 1400 2 (stD r o) := by
  obtain ⟨_, _, _, z1, z2, z3, z4, _⟩ := id hN
  obtain ⟨l, _, hr⟩ := h.went
  obtain ⟨h1, h2, h3⟩ := hr.state hgo ok hl
  have e := run_big (tabs_of hN hgo) h3 hl ok h2 h1
  have e0 : 0 ≤ (r.map List.sum).sum := sum_pos fun x hx => by
    obtain ⟨c, hc, rfl⟩ := List.mem_map.mp hx
    exact sum_pos (h1.pos c hc)
  have eo := h1.out
  refine fit_std (by omega) (fun c hc => ⟨by rw [h1.len c hc]; exact z4, fun x hx => ?_⟩) ?_
  · have a1 := h1.pos c hc x hx
    have a2 : x ≤ c.sum := le_sum (h1.pos c hc) hx
    have a3 := sum_le_tot h1.pos c hc
    exact Nat.lt_of_le_of_lt (show x.natAbs ≤ 1000 by omega) (by decide)
  · exact Nat.lt_of_le_of_lt (show o.natAbs ≤ 1000 by omega) (by decide)
theorem fit_tri {x : Nat × Nat × Nat} (h : x.1 < 10 ∧ x.2.1 < 10 ∧ x.2.2 < 10) : Fit 200 1 (triD x) ∧ noList (triD x) = true ∧ (triD x).hasDict = false := by
  have i1 : ∀ d ∈ [PyData.int ((x.1 : Nat) : Int), PyData.int ((x.2.1 : Nat) : Int), PyData.int ((x.2.2 : Nat) : Int)], Fit 41 0 d ∧ noList d = true ∧ d.hasDict = false := fun d hd => by
    simp only [List.mem_cons, List.not_mem_nil, or_false] at hd
    rcases hd with rfl | rfl | rfl
    · exact ⟨fit_int (Nat.lt_trans (show ((x.1 : Nat) : Int).natAbs < 10 by omega) (by decide)), by unfold noList; rfl, by simp only [PyData.hasDict]⟩
    · exact ⟨fit_int (Nat.lt_trans (show ((x.2.1 : Nat) : Int).natAbs < 10 by omega) (by decide)), by unfold noList; rfl, by simp only [PyData.hasDict]⟩
    · exact ⟨fit_int (Nat.lt_trans (show ((x.2.2 : Nat) : Int).natAbs < 10 by omega) (by decide)), by unfold noList; rfl, by simp only [PyData.hasDict]⟩
  refine ⟨(fit_tup (fun d hd => (i1 d hd).1) fun d hd => (i1 d hd).2.1).mono (by show _ * 3 + 3 ≤ _; omega) (Nat.le_refl _), noList_of fun d hd => (i1 d hd).2.1, ?_⟩
  unfold triD
  simp only [PyData.hasDict]
  exact hasDict_all fun d hd => (i1 d hd).2.2
/-- a meeting, or what is none -/
def IsOne (d : PyData) : Prop := d = .none ∨ ∃ x : Nat × Nat × Nat, d = triD x ∧ x.1 < 10 ∧ x.2.1 < 10 ∧ x.2.2 < 10
theorem one_fit {d : PyData} (h : IsOne d) : Fit 200 1 d ∧ noList d = true ∧ d.hasDict = false := by
  rcases h with rfl | ⟨x, rfl, hx⟩
  · exact ⟨fit_none.mono (by decide) (by decide), by unfold noList; rfl, by simp only [PyData.hasDict]⟩
  · exact fit_tri hx
theorem ones_fit {ds : List PyData} (h : ∀ d ∈ ds, IsOne d) (hl : ds.length ≤ 4000) : Fit 900000 2 (.list ds) ∧ (PyData.list ds).hasDict = false := by
  refine ⟨(fit_lst (fun d hd => (one_fit (h d hd)).1) fun d hd => (one_fit (h d hd)).2.2).mono (by omega) (Nat.le_refl _), ?_⟩
  simp only [PyData.hasDict]
  exact hasDict_all fun d hd => (one_fit (h d hd)).2.2
theorem tris_ones {l : List (Nat × Nat × Nat)} (h : SmallT l) : ∀ d ∈ l.map triD, IsOne d := fun d hd => by
  obtain ⟨x, hx, rfl⟩ := List.mem_map.mp hd
  exact .inr ⟨x, rfl, h x hx⟩
theorem ones_plain {ds : List PyData} (h : ∀ d ∈ ds, IsOne d) : ∀ d ∈ ds, d = .none ∨ ∃ x, d = triD x := fun d hd => by
  rcases h d hd with e | ⟨x, e, _⟩
  · exact .inl e
  · exact .inr ⟨x, e⟩
theorem three_fit {m n : Nat} {fs : List PyData} {rows : List (List Int)} {out : Int} {ds : List PyData} (h : HouseN m n (.tuple fs)) (hs : Fit 1400 2 (stD rows out)) (h1 : ∀ d ∈ ds, IsOne d) (hl : ds.length ≤ 4000) : Fit 3000000 5 (.tuple [.tuple fs, stD rows out, .list ds]) := by
  have q := fit_tupD (n := 900000) (k := 4) (ds := [.tuple fs, stD rows out, .list ds]) (fun d hd => by
    simp only [List.mem_cons, List.not_mem_nil, or_false] at hd
    rcases hd with rfl | rfl | rfl
    · exact (house_fit h).1.mono (by omega) (by omega)
    · exact hs.mono (by omega) (by omega)
    · exact (ones_fit h1 hl).1.mono (by omega) (by omega)) (fun d hd => by
    simp only [List.mem_cons, List.not_mem_nil, or_false] at hd
    rcases hd with rfl | rfl | rfl
    · exact (house_fit h).2.2
    · exact std_nod rows out
    · exact (ones_fit h1 hl).2)
  exact q.mono (by simp) (Nat.le_refl _)
theorem many_fit {i : Int} (h : i.natAbs < 10 ^ 40) : Fit 1000 1 (.list [.str "many", .int i]) := by
  refine (fit_lst (n := 41) (k := 0) (ds := [.str "many", .int i]) (fun d hd => ?_) (fun d hd => ?_)).mono (by simp) (Nat.le_refl _)
  · simp only [List.mem_cons, List.not_mem_nil, or_false] at hd
    rcases hd with rfl | rfl
    · exact fit_str (by decide +kernel)
    · exact fit_int h
  · simp only [List.mem_cons, List.not_mem_nil, or_false] at hd
    rcases hd with rfl | rfl <;> simp only [PyData.hasDict]
/-- a row of meetings, some of them none, of at most so many -/
def RwAt (H : Hp) (p : Addr) (k : Nat) (v : V) : Prop := ∃ (L : Addr) (xs : List V) (ds : List PyData), v = .ref L ∧ H L = some (.lst xs) ∧ L ≠ p ∧ Dats H p xs ds ∧ (∀ d ∈ ds, IsOne d) ∧ ds.length ≤ k
theorem RwAt.same {H G : Hp} {p : Addr} {k : Nat} {v : V} (h : RwAt H p k v) (s : Same H G) : RwAt G p k v := by
  obtain ⟨L, xs, ds, rfl, h1, h2, h3, h4, h5⟩ := h
  exact ⟨L, xs, ds, rfl, s _ _ h1, h2, h3.same s, h4, h5⟩
theorem RwAt.ext {H G : Hp} {p : Addr} {k : Nat} {v : V} (h : RwAt H p k v) (s : Ext p H G) : RwAt G p k v := by
  obtain ⟨L, xs, ds, rfl, h1, h2, h3, h4, h5⟩ := h
  exact ⟨L, xs, ds, rfl, s _ _ h1 h2, h2, h3.ext s, h4, h5⟩
theorem RwAt.mono {H : Hp} {p : Addr} {k k' : Nat} {v : V} (h : RwAt H p k v) (s : k ≤ k') : RwAt H p k' v := by
  obtain ⟨L, xs, ds, rfl, h1, h2, h3, h4, h5⟩ := h
  exact ⟨L, xs, ds, rfl, h1, h2, h3, h4, Nat.le_trans h5 s⟩
theorem cut_dats {H : Hp} {p : Addr} {xs : List V} {ds : List PyData} (h : Dats H p xs ds) (lo hi : Option Int) : ∃ es, Dats H p (cutV xs lo hi) es ∧ (∀ d ∈ es, d ∈ ds) ∧ es.length ≤ ds.length := by
  unfold cutV
  generalize HT.sIx xs.length 0 lo = i
  generalize HT.sIx xs.length xs.length hi - i = j
  refine ⟨(ds.drop i).take j, ⟨by rw [List.length_take, List.length_take, List.length_drop, List.length_drop, h.1], fun t x d a b => ?_⟩, fun d hd => List.mem_of_mem_drop (List.mem_of_mem_take hd), by rw [List.length_take, List.length_drop]; omega⟩
  rw [List.getElem?_take] at a b
  split at a
  · rename_i hi
    rw [if_pos hi, List.getElem?_drop] at b
    rw [List.getElem?_drop] at a
    exact h.2 _ x d a b
  · cases a
/-- a slice of such a row -/
theorem rslR {K : PySem.W.Frag} {H : Hp} {p : Addr} {u : HO} {k : Nat} {v : V} {lo hi : Option Int} {Q : VK} (hp : H p = some u) (h : RwAt H p k v) (q : ∀ w G, Same H G → RwAt G p k w → Q w G) : rSlL K v lo hi H Q := by
  obtain ⟨L, xs, ds, rfl, h1, h2, h3, h4, h5⟩ := h
  refine ⟨L, xs, rfl, SqL.of h1, fun r hr => ?_⟩
  have s := same_new (o := .lst (cutV xs lo hi)) hr
  obtain ⟨es, e1, e2, e3⟩ := cut_dats h3 lo hi
  exact q _ _ s ⟨r, _, es, rfl, upd_same, ne_of_none' hr hp, e1.same s, fun d hd => h4 d (e2 d hd), by omega⟩
/-- two such rows, one behind the other -/
theorem rcatR {H : Hp} {p : Addr} {u : HO} {k k' : Nat} {v v' : V} {Q : VK} (hp : H p = some u) (h : RwAt H p k v) (h' : RwAt H p k' v') (hk : k + k' ≤ 10000) (q : ∀ w G, Same H G → RwAt G p (k + k') w → Q w G) : rCat v v' H Q := by
  obtain ⟨L, xs, ds, rfl, h1, h2, h3, h4, h5⟩ := h
  obtain ⟨L', xs', ds', rfl, g1, g2, g3, g4, g5⟩ := h'
  refine ⟨L, L', xs, xs', rfl, rfl, h1, g1, Nat.le_trans (show _ ≤ 10000 by rw [h3.1, g3.1]; omega) (by decide), fun r hr => ?_⟩
  have s := same_new (o := .lst (xs ++ xs')) hr
  refine q _ _ s ⟨r, _, ds ++ ds', rfl, upd_same, ne_of_none' hr hp, (h3.app g3).same s, fun d hd => ?_, by rw [List.length_append]; omega⟩
  rcases List.mem_append.mp hd with hd | hd
  · exact h4 d hd
  · exact g4 d hd
/-! ### tuples as data -/
theorem sl_dat {K : PySem.W.Frag} {H : Hp} {p : Addr} {u : HO} {v : V} {ds es : List PyData} {lo hi : Option Int} {Q : VK} (hp : H p = some u) (h : Dat H p v (.tuple ds)) (e : (ds.drop (HT.sIx ds.length 0 lo)).take (HT.sIx ds.length ds.length hi - HT.sIx ds.length 0 lo) = es) (q : ∀ w G, Same H G → Dat G p w (.tuple es) → Q w G) : rSlA K v lo hi H Q := by
  have h' := h
  obtain ⟨a, xs, rfl, ha, hap, hx⟩ := h.isTup
  have hl := hx.1
  refine ⟨a, xs, rfl, SqT.of ha, fun z => ?_, fun _ r hr => ?_⟩
  · rw [hl] at z
    have e2 : ds = es := by rw [← e, z.1, z.2, List.drop_zero, Nat.sub_zero, List.take_length]
    subst e2
    exact q _ _ (fun _ _ e => e) h'
  · refine q _ _ (same_new hr) (Dat.new hr (ne_of_none' hr hp) ?_)
    rw [← e]
    unfold cutV
    rw [hl]
    generalize HT.sIx ds.length 0 lo = i
    generalize HT.sIx ds.length ds.length hi - i = j
    refine ⟨by rw [List.length_take, List.length_take, List.length_drop, List.length_drop, hx.1], fun t x d a b => ?_⟩
    rw [List.getElem?_take] at a b
    split at a
    · rename_i hi
      rw [if_pos hi, List.getElem?_drop] at b
      rw [List.getElem?_drop] at a
      exact hx.2 _ x d a b
    · cases a
theorem cat_dat {K : PySem.W.Frag} {H : Hp} {p : Addr} {u : HO} {v w : V} {ds es : List PyData} {Q : VK} (hp : H p = some u) (h : Dat H p v (.tuple ds)) (g : Dat H p w (.tuple es)) (hl : ds.length + es.length ≤ 1000) (q : ∀ x G, Same H G → Dat G p x (.tuple (ds ++ es)) → Q x G) : rCatA K v w H Q := by
  have h' := h
  have g' := g
  obtain ⟨a, xs, rfl, ha, hap, hx⟩ := h.isTup
  obtain ⟨b, ys, rfl, hb, hbp, hy⟩ := g.isTup
  refine ⟨a, b, xs, ys, rfl, rfl, SqT.of ha, SqT.of hb, len_le (by rw [hx.1, hy.1]; exact hl), fun e => ?_, fun _ e => ?_, fun _ _ r hr => ?_⟩
  · have e2 : ds = [] := List.eq_nil_of_length_eq_zero (by rw [← hx.1, e]; rfl)
    subst e2
    exact q _ _ (fun _ _ e => e) g'
  · have e2 : es = [] := List.eq_nil_of_length_eq_zero (by rw [← hy.1, e]; rfl)
    subst e2
    exact q _ _ (fun _ _ e => e) (by rw [List.append_nil]; exact h')
  · exact q _ _ (same_new hr) (Dat.new hr (ne_of_none' hr hp) (hx.app hy))
theorem zeros_dat {K : PySem.W.Frag} {H : Hp} {p : Addr} {u : HO} {t : Addr} {k : Int} {Q : VK} (hp : H p = some u) (ht : H t = some (.tup [.int 0])) (htp : t ≠ p) (h0 : 0 ≤ k) (h1 : k ≤ 100) (q : ∀ x G, Same H G → Dat G p x (rowD (List.replicate k.toNat 0)) → Q x G) : rTimesZ K (.ref t) (.int k) H Q := by
  have d0 : Dat H p (.ref t) (rowD [0]) := .tup ht htp rfl fun i x d a b => (Dats.ints (p := p) [0]).2 i x d a b
  rcases (by omega : k = 0 ∨ k = 1 ∨ 2 ≤ k) with rfl | rfl | h2
  · exact .inr ⟨t, _, rfl, rfl, SqT.of ht, by simp, fun r hr => q _ _ (same_new hr) (Dat.new hr (ne_of_none' hr hp) Dats.nil)⟩
  · exact .inl (.inl ⟨t, _, rfl, rfl, SqT.of ht, q _ _ (fun _ _ e => e) d0⟩)
  · refine .inl (.inr ⟨t, k, _, rfl, rfl, SqT.of ht, by simp, h2, by omega, by decide, fun r hr => q _ _ (same_new hr) ?_⟩)
    have e : ∀ n : Nat, (List.replicate n [V.int 0]).flatten = (List.replicate n (0 : Int)).map V.int := fun n => by
      induction n with
      | zero => rfl
      | succ n ih => rw [List.replicate_succ, List.flatten_cons, ih, List.replicate_succ]; rfl
    rw [e]
    exact Dat.new hr (ne_of_none' hr hp) (Dats.ints _)
/-- a thing by itself in a tuple -/
theorem one_tup {H : Hp} {p : Addr} {u : HO} {v : V} {d : PyData} {r : Addr} (hp : H p = some u) (hr : H r = none) (h : Dat H p v d) : Dat (upd H r (.tup [v])) p (.ref r) (.tuple [d]) := Dat.new hr (ne_of_none' hr hp) (Dats.cons h Dats.nil)
theorem cut_tail (d : PyData) (ds : List PyData) : ((d :: ds).drop (HT.sIx (d :: ds).length 0 (some 1))).take (HT.sIx (d :: ds).length (d :: ds).length none - HT.sIx (d :: ds).length 0 (some 1)) = ds := by
  have e1 : HT.sIx (d :: ds).length 0 (some 1) = 1 := by
    unfold HT.sIx
    show (if (1 : Int) < 0 then _ else min ((1 : Int).toNat) (d :: ds).length) = 1
    rw [if_neg (by decide), List.length_cons]
    show min 1 _ = 1
    omega
  have e2 : HT.sIx (d :: ds).length (d :: ds).length none = (d :: ds).length := rfl
  rw [e1, e2, List.drop_succ_cons, List.drop_zero, List.length_cons, Nat.add_sub_cancel, List.take_length]
theorem cut_init (ds : List PyData) (d : PyData) : ((ds ++ [d]).drop (HT.sIx (ds ++ [d]).length 0 none)).take (HT.sIx (ds ++ [d]).length (ds ++ [d]).length (some (-1)) - HT.sIx (ds ++ [d]).length 0 none) = ds := by
  have e1 : HT.sIx (ds ++ [d]).length 0 none = 0 := rfl
  have e2 : HT.sIx (ds ++ [d]).length (ds ++ [d]).length (some (-1)) = ds.length := by
    unfold HT.sIx
    rw [List.length_append]
    show (if (-1 : Int) < 0 then _ else _) = _
    rw [if_pos (by decide)]
    show ((-1 : Int) + ((ds.length + 1 : Nat) : Int)).toNat = _
    omega
  rw [e1, e2, List.drop_zero, Nat.sub_zero, List.take_left]
theorem cut_mid (c : PyData) (ds : List PyData) (d : PyData) : ((c :: ds ++ [d]).drop (HT.sIx (c :: ds ++ [d]).length 0 (some 1))).take (HT.sIx (c :: ds ++ [d]).length (c :: ds ++ [d]).length (some (-1)) - HT.sIx (c :: ds ++ [d]).length 0 (some 1)) = ds := by
  have e0 : (c :: ds ++ [d]).length = ds.length + 2 := by rw [List.cons_append, List.length_cons, List.length_append]; rfl
  have e1 : HT.sIx (c :: ds ++ [d]).length 0 (some 1) = 1 := by
    unfold HT.sIx
    show (if (1 : Int) < 0 then _ else min ((1 : Int).toNat) (c :: ds ++ [d]).length) = 1
    rw [if_neg (by decide), e0]
    show min 1 _ = 1
    omega
  have e2 : HT.sIx (c :: ds ++ [d]).length (c :: ds ++ [d]).length (some (-1)) = ds.length + 1 := by
    unfold HT.sIx
    show (if (-1 : Int) < 0 then _ else _) = _
    rw [if_pos (by decide), e0]
    show ((-1 : Int) + ((ds.length + 2 : Nat) : Int)).toNat = _
    omega
  rw [e1, e2, List.cons_append, List.drop_succ_cons, List.drop_zero, Nat.add_sub_cancel, List.take_left]
theorem pk {m : Int} (h0 : 0 ≤ m) (h : m ≤ 10 ^ 18) : m.natAbs.log2 < 9000 := by
  have q := PySem.Flt.log2_lt_of (by decide : 0 < 64) (show m.natAbs < 2 ^ 64 from Nat.lt_of_le_of_lt (show m.natAbs ≤ 10 ^ 18 by omega) (by decide))
  omega
theorem tri_new {H : Hp} {p : Addr} {u : HO} {t : Addr} (hp : H p = some u) (ht : H t = none) (x y z : Nat) : Dat (upd H t (.tup [V.int (x : Nat), V.int (y : Nat), V.int (z : Nat)])) p (.ref t) (triD (x, y, z)) :=
  Dat.new ht (ne_of_none' ht hp) (Dats.cons (.int _) (Dats.cons (.int _) (Dats.cons (.int _) Dats.nil)))
theorem one_row {H : Hp} {p : Addr} {u : HO} {v : V} {d : PyData} {t : Addr} (hp : H p = some u) (ht : H t = none) (h : Dat H p v d) (h1 : IsOne d) : RwAt (upd H t (.lst [v])) p 1 (.ref t) :=
  ⟨t, _, [d], rfl, upd_same, ne_of_none' ht hp, (Dats.cons h Dats.nil).same (same_new ht), fun e he => by rw [List.mem_singleton.mp he]; exact h1, Nat.le_refl _⟩
theorem RwAt.get {H : Hp} {p L : Addr} {k : Nat} (h : RwAt H p k (.ref L)) : ∃ xs, H L = some (.lst xs) ∧ xs.length ≤ k := by
  obtain ⟨_, xs, ds, e, h1, _, h2, _, h3⟩ := h
  cases e
  exact ⟨xs, h1, by rw [h2.1]; exact h3⟩
theorem cut_new {H : Hp} {p L r : Addr} {u : HO} {k : Nat} {xs : List V} {lo hi : Option Int} (hp : H p = some u) (h : RwAt H p k (.ref L)) (hL : H L = some (.lst xs)) (hr : H r = none) : RwAt (upd H r (.lst (cutV xs lo hi))) p k (.ref r) := by
  obtain ⟨_, _, ds, e, h1, h2, h3, h4, h5⟩ := h
  cases e
  rw [h1] at hL
  cases hL
  obtain ⟨es, e1, e2, e3⟩ := cut_dats h3 lo hi
  exact ⟨r, _, es, rfl, upd_same, ne_of_none' hr hp, e1.same (same_new hr), fun d hd => h4 d (e2 d hd), by omega⟩
theorem cat_new {H : Hp} {p L L' r : Addr} {u : HO} {k k' : Nat} {xs ys : List V} (hp : H p = some u) (h : RwAt H p k (.ref L)) (h' : RwAt H p k' (.ref L')) (hL : H L = some (.lst xs)) (hL' : H L' = some (.lst ys)) (hr : H r = none) : RwAt (upd H r (.lst (xs ++ ys))) p (k + k') (.ref r) := by
  obtain ⟨_, _, ds, e, h1, h2, h3, h4, h5⟩ := h
  cases e
  rw [h1] at hL
  cases hL
  obtain ⟨_, _, ds', e, g1, g2, g3, g4, g5⟩ := h'
  cases e
  rw [g1] at hL'
  cases hL'
  refine ⟨r, _, ds ++ ds', rfl, upd_same, ne_of_none' hr hp, (h3.app g3).same (same_new hr), fun d hd => ?_, by rw [List.length_append]; omega⟩
  rcases List.mem_append.mp hd with hd | hd
  · exact h4 d hd
  · exact g4 d hd
theorem few_fit {m n : Nat} {rows : List (List Int)} {out : Int} (hN : ∃ fs, HouseN m n (.tuple fs)) (ok : StOk m rows out) (hl : rows.length = n) (hs : (rows.map List.sum).sum ≤ 100) (ho : out ≤ 10 ^ 20) : Fit 1400 2 (stD rows out) := by
  obtain ⟨_, hN⟩ := hN
  obtain ⟨_, _, _, z1, z2, z3, z4, _⟩ := id hN
  have eo := ok.out
  refine fit_std (by omega) (fun c hc => ⟨by rw [ok.len c hc]; exact z4, fun x hx => ?_⟩) ?_
  · have a1 := ok.pos c hc x hx
    have a2 : x ≤ c.sum := le_sum (ok.pos c hc) hx
    have a3 := sum_le_tot ok.pos c hc
    exact Nat.lt_of_le_of_lt (show x.natAbs ≤ 1000 by omega) (by decide)
  · exact Nat.lt_of_le_of_lt (show out.natAbs ≤ 10 ^ 20 by omega) (by decide)
/-- what a run told, by how far it went -/
def goneD (len k : Nat) (r : List (List Int)) (o : Int) : PyData := if k < len then .int (k : Nat) else stD r o
theorem gone_all {len : Nat} {r : List (List Int)} {o : Int} : goneD len len r o = stD r o := if_neg (Nat.lt_irrefl _)
theorem gone_at {len k : Nat} {r : List (List Int)} {o : Int} (h : k < len) : goneD len k r o = .int (k : Nat) := if_pos h
theorem gone_fit {len k : Nat} {r : List (List Int)} {o : Int} (h : len ≤ 4000) (hf : Fit 1400 2 (stD r o)) : Fit 1400 2 (goneD len k r o) := by
  unfold goneD
  split
  · rename_i hk
    exact (fit_int (Nat.lt_of_le_of_lt (show ((k : Nat) : Int).natAbs ≤ 4000 by omega) (by decide))).mono (by decide) (by decide)
  · exact hf
theorem bag_ne {H : Hp} {p p' q : Addr} {ws : List V} {l : List (Nat × Nat × Nat)} (hB : Bag H p) (hq : H q = some (.lst ws)) (hW : Dats H p' ws (l.map triD)) : q ≠ p := fun e => by
  subst e
  obtain ⟨b1, b2, b3, e⟩ := hB
  rw [e] at hq
  cases hq
  match l, hW with
  | [], hW => exact absurd hW.1 (by simp)
  | x :: l, hW =>
    obtain ⟨_, _, z, _⟩ := (hW.2 0 _ (triD x) rfl rfl).isTup
    cases z
theorem tris_fit {l : List (Nat × Nat × Nat)} (h : l.length ≤ 400 ∧ SmallT l) : Fit 900000 2 (.list (l.map triD)) := (ones_fit (tris_ones h.2) (by rw [List.length_map]; omega)).1
theorem tris_dat {H : Hp} {p q : Addr} {ws : List V} {l : List (Nat × Nat × Nat)} (hB : Bag H p) (hq : H q = some (.lst ws)) (hW : Dats H p ws (l.map triD)) : Dat H p (.ref q) (.list (l.map triD)) := .lst hq (bag_ne hB hq hW) hW.1 hW.2
theorem sum_zeros (n : Nat) : (List.replicate n (0 : Int)).sum = 0 := by
  induction n with
  | zero => rfl
  | succ n ih => rw [List.replicate_succ, List.sum_cons, ih]; rfl
/-- a standing with so many in the first row's first place -/
theorem head_ok {m : Nat} {row0 : List Int} {rest : List (List Int)} {out x y : Int} (hm : 1 ≤ m) (ok : StOk m (row0 :: rest) out) (hx : 0 ≤ x) (hy : 0 ≤ y) : StOk m ((x :: List.replicate (m - 1) 0) :: rest) y :=
  ⟨fun r hr => by
    rcases List.mem_cons.mp hr with rfl | hr
    · rw [List.length_cons, List.length_replicate]
      omega
    · exact ok.len r (List.mem_cons_of_mem _ hr), fun r hr c hc => by
    rcases List.mem_cons.mp hr with rfl | hr
    · rcases List.mem_cons.mp hc with rfl | hc
      · exact hx
      · rw [List.eq_of_mem_replicate hc]
        exact Int.le_refl 0
    · exact ok.pos r (List.mem_cons_of_mem _ hr) c hc, hy⟩
theorem head_sum {m : Nat} {rest : List (List Int)} {x : Int} : (((x :: List.replicate m 0) :: rest).map List.sum).sum = x + (rest.map List.sum).sum := by
  rw [List.map_cons, List.sum_cons, List.sum_cons, sum_zeros, Int.add_zero]
theorem bag_ne2 {H : Hp} {p q : Addr} {x : Str} {i : Int} (hB : Bag H p) (hq : H q = some (.lst [.str x, .int i])) : q ≠ p := fun e => by
  subst e
  obtain ⟨b1, b2, b3, e⟩ := hB
  rw [e] at hq
  cases hq
theorem many_dat {H : Hp} {p q : Addr} {i : Int} (hB : Bag H p) (hq : H q = some (.lst [.str "many", .int i])) : Dat H p (.ref q) (.list [.str "many", .int i]) :=
  have h : Dats H p [.str "many", .int i] [.str "many", .int i] := Dats.cons (.str _) (Dats.cons (.int _) Dats.nil)
  .lst hq (bag_ne2 hB hq) h.1 h.2

end
end Fm
end FLF
section FLAWE
set_option Elab.async false
set_option linter.all false
set_option maxRecDepth 100000
set_option maxHeartbeats 4000000
local macro_rules | `(tactic| walk_at "ne") => `(tactic| first | assumption | (apply Ne.symm; assumption) | exact L2.ne_of_none (by assumption) (by assumption) | exact Ne.symm (L2.ne_of_none (by assumption) (by assumption)))
local macro_rules | `(tactic| walk_at "hl") => `(tactic| first | assumption | exact L2.upd_same | (refine Eq.trans (L2.upd_ne (by walk_at "ne")) ?_; walk_at "hl"))
local macro_rules | `(tactic| walk_at "sd") => `(tactic| first | (with_reducible show (_ : Int) < _; omega) | (with_reducible show (_ : Int) ≤ _; omega) | assumption | decide | exact ⟨by assumption, by assumption⟩ | exact ⟨by decide, by decide⟩ | exact Or.inr ⟨by decide, by decide⟩ | exact Or.inl ⟨by omega, by omega⟩ | rfl)
local macro_rules | `(tactic| walk_at "st1") => `(tactic| first
  | refine ⟨_, rfl, ?_⟩
  | refine ⟨_, _, rfl, rfl, ?_⟩
  | refine ⟨_, _, rfl, ?_⟩
  | (refine ⟨_, _, _, _, rfl, rfl, L2.SqL.of (by walk_at "hl"), rfl, ?_⟩)
  | (refine ⟨_, _, _, _, rfl, rfl, L2.SqT.of (by walk_at "hl"), rfl, ?_⟩)
  | (refine ⟨_, _, _, _, rfl, rfl, (by walk_at "hl"), rfl, ?_⟩)
  | (refine And.intro (by walk_at "sd") ?_)
  )
local macro_rules | `(tactic| walk_at "st") => `(tactic| repeat walk_at "st1")
local macro_rules | `(tactic| walk_at "op") => `(tactic| try dsimp only [L2.tSeq, L2.tAsg, L2.tOp, L2.tVar, L2.tC, L2.gSub, L2.rI, L2.rI0, L2.rIxL, L2.rIxT, L2.rSetL, L2.tIfS, L2.tTest, L2.tRet, L2.gName, L2.tNext, L2.tAnd, L2.tOr, L2.tNot, L2.tAndV, L2.tOrV, L2.tNotV, L2.tB, L2.tCB, L2.tCons, L2.tNil, L2.tCall, L2.tTup, L2.tLst, L2.tChain, L2.tUn, L2.tPar, L2.tDrop, L2.tIf, L2.tBM, L2.tBM0, L2.rAppend, L2.rCat, L2.rIsi, L2.rIsiT, L2.gTup, L2.gCons, L2.gNil, Fm.tFor_eq, Fm.tLc_eq, Fm.tLc2_eq, L2.iTup, L2.iList, L2.iRng1, L2.iRng2, L2.tSl, L2.tPart, L2.tNoPart, L2.rSlL, L2.rEq, L2.rNe, L2.rU, L2.rEqD, L2.rNeD, Fm.tRevT, Fm.rLenS, Fm.rTupOf, Fm.rLstOf, L2.tDNewK, L2.tCallS, L2.WE, Fm.wKeep, Fm.rIsK, Fm.rIsKT, List.cons_append, List.nil_append, L2.tYes])
namespace Fm
open PySem PySem.Spec PyProof.Rows L2
abbrev s_law : Stmt := top 52
abbrev N_law : List Str := ["script", "cell", "bag", "house", "standing", "row", "at", "m", "any_one", "odd", "rows", "one", "kept", "many", "crowd", "whole", "counts", "found", "due", "far", "heads"]
theorem sc_law : FnScope N_law ["script"] (defScope s_law) := ⟨rfl, rfl, rfl, by decide +kernel, rfl, by decide +kernel, by decide +kernel⟩
section
variable {P : Program} {w : World} {K : PySem.W.Frag} {mg : Str → Option Value} {base : Heap}
/-! ### the law -/
def spLaw (K : PySem.W.Frag) : Sp := fun vs H Q _ => ∃ (a : Addr) (ns : List Int), vs = [.ref a] ∧ ns.length + 1 ≤ sizeLine ∧ SqL K H a (ns.map V.int) ∧ ∀ H', Q (.bl true) H'
theorem ok_law {f : Addr} {fd : FuncData} (F : Fun K "law" "law" s_law f fd) (T : Nms mg) (c_law_bag : CallOk P w K mg base CX0 1 "_law_bag" ["cell"] spBag) (c_law_pick : CallOk P w K mg base CX0 1 "_law_pick" ["bag", "many"] spPick) (c_law_house : CallOk P w K mg base CX0 3 "_law_house" ["bag"] spMkHouse)
    (c_law_standing : CallOk P w K mg base CX0 2 "_law_standing" ["bag", "house", "many"] spStanding) (c_law_drawn : CallOk P w K mg base CX0 2 "_law_drawn" ["bag", "house", "standing"] spDrawn) (c_law_due : CallOk P w K mg base CX0 3 "_law_due" ["house", "standing", "row"] spDue)
    (c_law_least : CallOk P w K mg base CX0 3 "_law_least" ["house", "standing"] spLeastL) (c_law_told : CallOk P w K mg base CX0 10 "_law_told" ["way", "house", "standing", "row"] spTold) :
    RunG P w K mg base 11 f fd ["script"] (spLaw K) := by
    refine run_g F sc_law fun cdv A outer s H vs Q hg hr h => ?_
    obtain ⟨a, ns, rfl, hn, hS, k⟩ := h
    have nd := sc_law.nd
    refine ⟨_, (pss_cons (ps_for PassesOwn.never rfl (pi_list (pe_op op_cat (pe_slice (r := rSlL K) sl_list (pv 0) po_none (po_some pe_int)) (pe_lst (pa_cons pe_int pa_nil)))) (pg_name (i := 1) nd rfl (Or.inl rfl)) (pss_cons (ps_set (i := 2) nd rfl (Or.inl rfl) (pe_cc c_law_bag (hr.mono (by omega)) (pa_cons (pv 1) pa_nil)))
      (pss_cons (ps_set (i := 3) nd rfl (Or.inl rfl) (pe_cc c_law_house (hr.mono (by omega)) (pa_cons (pv 2) pa_nil)))
      (pss_cons (ps_set (i := 4) nd rfl (Or.inl rfl) (pe_cc c_law_standing (hr.mono (by omega)) (pa_cons (pv 2) (pa_cons (pv 3) (pa_cons pe_int pa_nil)))))
      (pss_cons (ps_set (i := 5) nd rfl (Or.inl rfl) (pe_cc c_law_drawn (hr.mono (by omega)) (pa_cons (pv 2) (pa_cons (pv 3) (pa_cons (pv 4) pa_nil)))))
      (pss_cons (ps_set (i := 6) nd rfl (Or.inl rfl) (pe_cc c_law_pick (hr.mono (by omega)) (pa_cons (pv 2) (pa_cons (pe_op op_add (pe_callB (r := rLenS K) call_lenS (by rfl) T.n_len (by decide +kernel) (pa_cons (pv 5) pa_nil)) pe_int) pa_nil))))
      (pss_cons (ps_set (i := 7) nd rfl (Or.inl rfl) (pe_callB (r := rLenS K) call_lenS (by rfl) T.n_len (by decide +kernel) (pa_cons (pe_ix (r := rIxT K) ix_tup (pe_ix (r := rIxT K) ix_tup (pv 3) pe_int (fun _ _ => rfl)) pe_int (fun _ _ => rfl)) pa_nil)))
      (pss_cons (ps_set (i := 8) nd rfl (Or.inl rfl) (pe_tup (pa_cons (pe_cc c_law_pick (hr.mono (by omega)) (pa_cons (pv 2) (pa_cons (pe_op op_add (pe_callB (r := rLenS K) call_lenS (by rfl) T.n_len (by decide +kernel) (pa_cons (pv 3) pa_nil)) pe_int) pa_nil))) (pa_cons (pe_cc c_law_pick (hr.mono (by omega)) (pa_cons (pv 2) (pa_cons (pv 7) pa_nil))) (pa_cons (pe_cc c_law_pick (hr.mono (by omega)) (pa_cons (pv 2) (pa_cons (pv 7) pa_nil))) pa_nil)))))
      (pss_cons (ps_set (i := 9) nd rfl (Or.inl rfl) (pe_ix (r := rIxL K) ix_list (pe_lst (pa_cons (pv 8) (pa_cons pe_non (pa_cons (pe_tup (pa_cons pe_int (pa_cons pe_int (pa_cons pe_int pa_nil)))) pa_nil)))) (pe_cc c_law_pick (hr.mono (by omega)) (pa_cons (pv 2) (pa_cons pe_int pa_nil))) (fun _ _ => rfl)))
      (pss_cons (ps_set (i := 10) nd rfl (Or.inl rfl) (pe_lst (pa_cons (pv 5) (pa_cons (pe_slice (r := rSlL K) sl_list (pv 5) po_none (po_some (pv 6))) (pa_cons (pe_op op_cat (pe_op op_cat (pe_slice (r := rSlL K) sl_list (pv 5) po_none (po_some (pv 6))) (pe_lst (pa_cons (pv 9) pa_nil))) (pe_slice (r := rSlL K) sl_list (pv 5) (po_some (pv 6)) po_none)) (pa_cons (pe_op op_cat (pe_slice (r := rSlL K) sl_list (pv 5) po_none (po_some (pv 6))) (pe_slice (r := rSlL K) sl_list (pv 5) (po_some (pe_op op_add (pv 6) pe_int)) po_none)) pa_nil))))))
      (pss_cons (ps_for PassesOwn.never rfl (pi_list (pe_op op_cat (pv 10) (pe_lst (pa_cons (pe_op op_cat (pe_slice (r := rSlL K) sl_list (pv 5) po_none (po_some (pv 6))) (pe_slice (r := rSlL K) sl_list (pv 5) po_none (po_some pe_int))) (pa_cons (pe_op op_cat (pv 5) (pe_slice (r := rSlL K) sl_list (pv 5) (po_some (pe_un un_neg pe_int)) po_none)) pa_nil))))) (pg_name (i := 11) nd rfl (Or.inl rfl)) (pss_cons (ps_set (i := 12) nd rfl (Or.inl rfl) (pe_callB (call_repr hg hr.units) (by rfl) T.n_repr (by decide +kernel) (pa_cons (pe_tup (pa_cons (pv 3) (pa_cons (pv 4) (pa_cons (pv 11) pa_nil)))) pa_nil)))
      (pss_cons (ps_if (pt_cmpR op_ne (pe_callB (call_repr hg hr.units) (by rfl) T.n_repr (by decide +kernel) (pa_cons (pe_cc c_law_told (hr.mono (by omega)) (pa_cons pe_int (pa_cons (pv 3) (pa_cons (pv 4) (pa_cons (pv 11) pa_nil))))) pa_nil)) (pe_callB (call_repr hg hr.units) (by rfl) T.n_repr (by decide +kernel) (pa_cons (pe_cc c_law_due (hr.mono (by omega)) (pa_cons (pv 3) (pa_cons (pv 4) (pa_cons (pv 11) pa_nil)))) pa_nil)) (nomark _)) (pss_one (ps_ret pe_bl)) pss_nil)
      (pss_one (ps_if (pt_cmpR op_ne (pe_callB (call_repr hg hr.units) (by rfl) T.n_repr (by decide +kernel) (pa_cons (pe_tup (pa_cons (pv 3) (pa_cons (pv 4) (pa_cons (pv 11) pa_nil)))) pa_nil)) (pv 12) (nomark _)) (pss_one (ps_ret pe_bl)) pss_nil)))))
      (pss_cons (ps_if (pt_cmpR op_ne (pe_callB (call_repr hg hr.units) (by rfl) T.n_repr (by decide +kernel) (pa_cons (pe_cc c_law_told (hr.mono (by omega)) (pa_cons pe_int (pa_cons (pv 3) (pa_cons (pv 4) (pa_cons pe_non pa_nil))))) pa_nil)) (pe_callB (call_repr hg hr.units) (by rfl) T.n_repr (by decide +kernel) (pa_cons (pe_cc c_law_least (hr.mono (by omega)) (pa_cons (pv 3) (pa_cons (pv 4) pa_nil))) pa_nil)) (nomark _)) (pss_one (ps_ret pe_bl)) pss_nil)
      (pss_cons (ps_set (i := 13) nd rfl (Or.inl rfl) (pe_op op_add pe_int (pe_cc c_law_pick (hr.mono (by omega)) (pa_cons (pv 2) (pa_cons pe_int pa_nil)))))
      (pss_cons (ps_set (i := 14) nd rfl (Or.inl rfl) (pe_op (r := rCatA K) op_catA (pe_op (r := rCatA K) op_catA (pe_tup (pa_cons (pe_op (r := rCatA K) op_catA (pe_tup (pa_cons (pv 13) pa_nil)) (pe_op (r := rTimesZ K) op_timesZ (pe_tup (pa_cons pe_int pa_nil)) (pe_op op_sub (pv 7) pe_int))) pa_nil)) (pe_slice (r := rSlA K) sl_tupA (pv 4) (po_some pe_int) (po_some (pe_un un_neg pe_int)))) (pe_tup (pa_cons (pe_op op_pow pe_int pe_int) pa_nil))))
      (pss_cons (ps_set (i := 15) nd rfl (Or.inl rfl) (pe_callB (r := rSumI K) (cr_sumI rfl) (by rfl) T.n_sum (by decide +kernel) (pa_cons (pe_lc (own := [("counts", 16)]) (g := (gName 16)) (tt := tYes) (by rfl) nd (pi_tup (pe_slice (r := rSlA K) sl_tupA (pv 14) po_none (po_some (pe_un un_neg pe_int)))) (blkOk_by (own := [("counts", 16)]) (N := N_law) (sc := defScope s_law) (by decide +kernel)) (fun _ _ _ _ _ => (pg_name (i := 16) nd rfl (Or.inl rfl))) (fun _ _ _ _ _ => pts_nil) (fun _ _ _ _ _ => (pe_callB (r := rSumI K) (cr_sumI rfl) (by rfl) T.n_sum (by decide +kernel) (pa_cons (pv 16) pa_nil)))) pa_nil)))
      (pss_cons (ps_set (i := 17) nd rfl (Or.inl rfl) (pe_cc c_law_told (hr.mono (by omega)) (pa_cons pe_int (pa_cons (pv 3) (pa_cons (pv 14) (pa_cons pe_non pa_nil))))))
      (pss_cons (ps_set (i := 18) nd rfl (Or.inl rfl) (pe_ifExp (pt_cmpR op_gt (pv 15) pe_int (nomark _)) (pe_lst (pa_cons pe_str (pa_cons (pv 15) pa_nil))) (pe_cc c_law_least (hr.mono (by omega)) (pa_cons (pv 3) (pa_cons (pv 14) pa_nil)))))
      (pss_cons (ps_if (pt_cmpR op_ne (pe_callB (call_repr hg hr.units) (by rfl) T.n_repr (by decide +kernel) (pa_cons (pv 17) pa_nil)) (pe_callB (call_repr hg hr.units) (by rfl) T.n_repr (by decide +kernel) (pa_cons (pv 18) pa_nil)) (nomark _)) (pss_one (ps_ret pe_bl)) pss_nil)
      (pss_cons (ps_set (i := 19) nd rfl (Or.inl rfl) (pe_op (r := rCatA K) op_catA (pe_tup (pa_cons (pe_op (r := rCatA K) op_catA (pe_tup (pa_cons (pe_op op_add (pe_op op_pow pe_int pe_int) (pe_cc c_law_pick (hr.mono (by omega)) (pa_cons (pv 2) (pa_cons (pe_op op_pow pe_int pe_int) pa_nil)))) pa_nil)) (pe_op (r := rTimesZ K) op_timesZ (pe_tup (pa_cons pe_int pa_nil)) (pe_op op_sub (pv 7) pe_int))) pa_nil)) (pe_slice (r := rSlA K) sl_tupA (pv 14) (po_some pe_int) po_none)))
      (pss_cons (ps_set (i := 20) nd rfl (Or.inl rfl) (pe_callB (r := rSumI K) (cr_sumI rfl) (by rfl) T.n_sum (by decide +kernel) (pa_cons (pe_lc (own := [("counts", 16)]) (g := (gName 16)) (tt := tYes) (by rfl) nd (pi_tup (pe_slice (r := rSlA K) sl_tupA (pv 19) po_none (po_some (pe_un un_neg pe_int)))) (blkOk_by (own := [("counts", 16)]) (N := N_law) (sc := defScope s_law) (by decide +kernel)) (fun _ _ _ _ _ => (pg_name (i := 16) nd rfl (Or.inl rfl))) (fun _ _ _ _ _ => pts_nil) (fun _ _ _ _ _ => (pe_callB (r := rSumI K) (cr_sumI rfl) (by rfl) T.n_sum (by decide +kernel) (pa_cons (pv 16) pa_nil)))) pa_nil)))
      (pss_one (ps_if (pt_cmpR op_ne (pe_callB (call_repr hg hr.units) (by rfl) T.n_repr (by decide +kernel) (pa_cons (pe_cc c_law_told (hr.mono (by omega)) (pa_cons pe_int (pa_cons (pv 3) (pa_cons (pv 19) (pa_cons pe_non pa_nil))))) pa_nil)) (pe_callB (call_repr hg hr.units) (by rfl) T.n_repr (by decide +kernel) (pa_cons (pe_lst (pa_cons pe_str (pa_cons (pv 20) pa_nil))) pa_nil)) (nomark _)) (pss_one (ps_ret pe_bl)) pss_nil))))))))))))))))))))))
      (pss_one (ps_ret pe_bl))), ?_⟩
    walk_at "op"
    refine ⟨_, rfl, _, rfl, a, _, rfl, hS, fun S1 h1 => ?_⟩
    refine ⟨by show 1 ≤ sizeLine; decide, fun S2 h2 => ?_⟩
    have S12 : S1 ≠ S2 := ne_of_none upd_same h2
    have lz : (cutV (ns.map V.int) none (some 14)).length + [V.int 0].length ≤ sizeLine := by
      unfold cutV
      rw [List.length_take, List.length_drop, List.length_map]
      show _ + 1 ≤ _
      omega
    have cells : ∀ x ∈ cutV (ns.map V.int) none (some 14) ++ [V.int 0], ∃ c, x = V.int c := fun x hx => by
      rcases List.mem_append.mp hx with hx | hx
      · obtain ⟨c, _, rfl⟩ := List.mem_map.mp (List.mem_of_mem_drop (List.mem_of_mem_take hx))
        exact ⟨c, rfl⟩
      · exact ⟨0, List.mem_singleton.mp hx⟩
    refine ⟨_, _, _, _, rfl, rfl, by rw [upd_ne S12]; exact upd_same, upd_same, lz, fun S h3 => ?_⟩
    generalize cutV (ns.map V.int) none (some 14) ++ [V.int 0] = zs at cells ⊢
    have hS3 : upd (upd (upd H S1 (.lst (cutV (ns.map V.int) none (some 14)))) S2 (.lst [.int 0])) S (.lst zs) S = some (.lst zs) := upd_same
    generalize upd (upd (upd H S1 (.lst (cutV (ns.map V.int) none (some 14)))) S2 (.lst [.int 0])) S (.lst zs) = H3 at hS3 ⊢
    refine ⟨S, rfl, ⟨_, SqL.of hS3⟩, ?_⟩
    clear h1 h2 h3 lz
    refine fL (fun i σ H4 => H4 S = some (.lst zs) ∧ ∃ u1 u2 u3 u4 u5 u6 u7 u8 u9 u10 u11 u12 u13 u14 u15 u16 u17 u18 u19 u20, σ = [some (.ref a), u1, u2, u3, u4, u5, u6, u7, u8, u9, u10, u11, u12, u13, u14, u15, u16, u17, u18, u19, u20]) ⟨hS3, _, _, _, _, _, _, _, _, _, _, _, _, _, _, _, _, _, _, _, _, rfl⟩ (fun i σ H4 _ hp => SqL.of hp.1) ?_ ?_
    · rintro i x σ H4 hi ⟨hS4, u1, u2, u3, u4, u5, u6, u7, u8, u9, u10, u11, u12, u13, u14, u15, u16, u17, u18, u19, u20, rfl⟩
      obtain ⟨c, rfl⟩ := cells x (List.mem_of_getElem? hi)
      clear hi
      walk_at "op"
      try dsimp only [List.set]
      refine ⟨_, rfl, c, rfl, fun p H5 hp hB5 s5 => ?_⟩
      have Sp0 : S ≠ p := ne_of_none hS4 hp
      have hS5 := s5 _ _ hS4
      try dsimp only [List.set]
      refine ⟨_, rfl, p, rfl, hB5, fun hv hd m n H6 hB6 x6 hD6 hN => ?_⟩
      obtain ⟨fs, rfl, hfl, hn1, hn4, hm1, hm6, hFl⟩ := id hN
      have hS6 := x6 _ _ hS5 Sp0
      try dsimp only [List.set]
      refine ⟨_, rfl, _, rfl, p, hv, _, m, n, 40, rfl, hB6, hD6, hN, by decide, fun sv H7 rows out hB7 x7 hT7 hrl ok htot hout => ?_⟩
      replace htot : (rows.map List.sum).sum ≤ 40 := htot
      have hS7 := x7 _ _ hS6 Sp0
      have hD7 := hD6.ext x7
      have hgo := goLt_of hD7 hN
      try dsimp only [List.set]
      refine ⟨_, rfl, _, rfl, _, rfl, p, hv, sv, fs, m, n, rows, out, rfl, hB7, hD7, hN, hT7, hrl, ok, by omega, fun L0 ws0 l0 H8 hB8 x8 hL8 hLp hW8 hl0 hsm0 => ?_⟩
      have hR8 : RwAt H8 p 400 (.ref L0) := ⟨L0, ws0, _, rfl, hL8, hLp, hW8, tris_ones hsm0, by rw [List.length_map]; exact hl0⟩
      have hlen0 : ws0.length = l0.length := by rw [hW8.1, List.length_map]
      have hS8 := x8 _ _ hS7 Sp0
      have hD8 := hD7.ext x8
      have hT8 := hT7.ext x8
      try dsimp only [List.set]
      refine ⟨_, rfl, _, rfl, L0, ws0, rfl, .inl (SqL.of hL8), ?_⟩
      refine ⟨_, _, rfl, rfl, p, _, rfl, by omega, pk (by omega) (by omega), hB8, fun atv H9 at0 at1 hB9 x9 => ?_⟩
      have hR9 := hR8.ext x9
      have hS9 := x9 _ _ hS8 Sp0
      have hD9 := hD8.ext x9
      have hT9 := hT8.ext x9
      clear hL8 hW8 hR8 hB5 hB6 hB7 hB8 hD6 hD7 hD8 hT7 hT8 x6 x7 x8 x9 s5 hS4 hS5 hS6 hS7 hS8 hp
      try dsimp only [List.set]
      obtain ⟨ah, af0, hs, t00, t01, rfl, g1, g2, g3, hF0⟩ := floor_at hD9 hN (f := 0) (by omega)
      obtain ⟨ss, hss, hsl⟩ := stay_len hD9 hN (by omega) g1 g3 hF0
      refine ⟨_, rfl, ah, hs, 0, _, rfl, rfl, SqT.of g1, atI_nat (j := 0) g3, af0, _, 0, _, rfl, rfl, SqT.of hF0.at_, rfl, t00, ss, rfl, .inr (SqT.of hss), ?_⟩
      rw [hsl]
      have hhs : hs.length = n := by first | exact g2 | omega
      have hap : ah ≠ p := by
        obtain ⟨a1, xs1, e1, _, e2, _⟩ := hD9.isTup
        cases e1
        exact e2
      try dsimp only [List.set]
      refine ⟨_, rfl, _, rfl, ah, hs, rfl, .inr (SqT.of g1), _, _, rfl, rfl, p, _, rfl, by omega, pk (by omega) (by omega), hB9, fun k1 H10 k10 k11 hB10 x10 => ?_⟩
      obtain ⟨j1, rfl⟩ : ∃ j : Nat, k1 = (j : Int) := ⟨k1.toNat, by omega⟩
      refine ⟨_, rfl, _, rfl, p, _, rfl, by omega, pk (by omega) (by omega), hB10, fun k2 H11 k20 k21 hB11 x11 => ?_⟩
      obtain ⟨j2, rfl⟩ : ∃ j : Nat, k2 = (j : Int) := ⟨k2.toNat, by omega⟩
      refine ⟨_, rfl, _, rfl, p, _, rfl, by omega, pk (by omega) (by omega), hB11, fun k3 H12 k30 k31 hB12 x12 => ?_⟩
      obtain ⟨j3, rfl⟩ : ∃ j : Nat, k3 = (j : Int) := ⟨k3.toNat, by omega⟩
      have xx := x10.trans (x11.trans x12)
      have hR := hR9.ext xx
      have hS := xx _ _ hS9 Sp0
      have hD := hD9.ext xx
      have hT := hT9.ext xx
      clear hR9 hS9 hD9 hT9 xx x10 x11 x12 hB9 hB10 hB11 g1 g2 g3 hF0 hss hsl
      obtain ⟨u, hu⟩ := hB12.here
      refine ⟨by show 3 ≤ sizeLine; decide, fun t1 ht1 => ?_⟩
      have hA := tri_new hu ht1 j1 j2 j3
      have st := same_new (o := .tup [V.int (j1 : Nat), V.int (j2 : Nat), V.int (j3 : Nat)]) ht1
      replace hu := st _ _ hu
      replace hS := st _ _ hS
      replace hD := hD.same st
      replace hT := hT.same st
      replace hR := hR.same st
      replace hB12 := hB12.sm st
      generalize upd H12 t1 (.tup [V.int (j1 : Nat), V.int (j2 : Nat), V.int (j3 : Nat)]) = G at *
      clear st ht1
      try dsimp only [List.set]
      refine ⟨_, rfl, by show 3 ≤ sizeLine; decide, fun t2 ht2 => ?_⟩
      have hA2 := tri_new hu ht2 0 1 0
      have st := same_new (o := .tup [V.int 0, V.int 1, V.int 0]) ht2
      replace hu := st _ _ hu
      replace hS := st _ _ hS
      replace hD := hD.same st
      replace hT := hT.same st
      replace hR := hR.same st
      replace hB12 := hB12.sm st
      replace hA := hA.same st
      generalize upd G t2 (.tup [V.int 0, V.int 1, V.int 0]) = G1 at *
      clear st ht2
      refine ⟨by show 3 ≤ sizeLine; decide, fun q0 hq0 => ?_⟩
      have st := same_new (o := .lst [V.ref t1, V.non, V.ref t2]) hq0
      have hq0p : q0 ≠ p := ne_of_none' hq0 hu
      have hQ0 : upd G1 q0 (.lst [V.ref t1, V.non, V.ref t2]) q0 = some (.lst [V.ref t1, V.non, V.ref t2]) := upd_same
      replace hu := st _ _ hu
      replace hS := st _ _ hS
      replace hD := hD.same st
      replace hT := hT.same st
      replace hR := hR.same st
      replace hB12 := hB12.sm st
      replace hA := hA.same st
      replace hA2 := hA2.same st
      generalize upd G1 q0 (.lst [V.ref t1, V.non, V.ref t2]) = G2 at *
      clear st hq0
      refine ⟨_, rfl, p, _, rfl, by decide, by decide, hB12, fun i G3 i0 i1 hB x3 => ?_⟩
      replace hS := x3 _ _ hS Sp0
      replace hD := hD.ext x3
      replace hT := hT.ext x3
      replace hR := hR.ext x3
      replace hA := hA.ext x3
      replace hA2 := hA2.ext x3
      replace hQ0 := x3 _ _ hQ0 hq0p
      clear x3 hu hB12
      obtain ⟨ov, od, hov, hO, hO1⟩ : ∃ ov od, atI [V.ref t1, V.non, V.ref t2] i = some ov ∧ Dat G3 p ov od ∧ IsOne od := by
        rcases (by omega : i = 0 ∨ i = 1 ∨ i = 2) with rfl | rfl | rfl
        · exact ⟨_, _, rfl, hA, .inr ⟨_, rfl, by show j1 < 10; omega, by show j2 < 10; omega, by show j3 < 10; omega⟩⟩
        · exact ⟨_, _, rfl, .non, .inl rfl⟩
        · exact ⟨_, _, rfl, hA2, .inr ⟨_, rfl, by decide, by decide, by decide⟩⟩
      refine ⟨q0, _, i, ov, rfl, rfl, SqL.of hQ0, hov, ?_⟩
      clear hov hA hA2 hQ0
      obtain ⟨u, hu⟩ := hB.here
      try dsimp only [List.set]
      obtain ⟨xs, hxs, hxl⟩ := hR.get
      refine ⟨_, rfl, _, rfl, _, rfl, atv, rfl, L0, xs, rfl, SqL.of hxs, fun q1 hq1 => ?_⟩
      have rq1 := cut_new (lo := none) (hi := (some atv)) hu hR hxs hq1
      have st := same_new (o := .lst (cutV xs none (some atv))) hq1
      replace hu := st _ _ hu
      replace hS := st _ _ hS
      replace hD := hD.same st
      replace hT := hT.same st
      replace hO := hO.same st
      replace hB := hB.sm st
      replace hR := hR.same st
      generalize upd G3 q1 (.lst (cutV xs none (some atv))) = G4 at *
      clear st hq1
      clear hxs hxl xs
      obtain ⟨xs, hxs, hxl⟩ := hR.get
      refine ⟨_, rfl, _, rfl, atv, rfl, L0, xs, rfl, SqL.of hxs, fun q2 hq2 => ?_⟩
      have rq2 := cut_new (lo := none) (hi := (some atv)) hu hR hxs hq2
      have st := same_new (o := .lst (cutV xs none (some atv))) hq2
      replace hu := st _ _ hu
      replace hS := st _ _ hS
      replace hD := hD.same st
      replace hT := hT.same st
      replace hO := hO.same st
      replace hB := hB.sm st
      replace hR := hR.same st
      replace rq1 := rq1.same st
      generalize upd G4 q2 (.lst (cutV xs none (some atv))) = G5 at *
      clear st hq2
      clear hxs hxl xs
      refine ⟨_, rfl, by show 1 ≤ sizeLine; decide, fun q3 hq3 => ?_⟩
      have rq3 := one_row hu hq3 hO hO1
      have st := same_new (o := .lst [ov]) hq3
      replace hu := st _ _ hu
      replace hS := st _ _ hS
      replace hD := hD.same st
      replace hT := hT.same st
      replace hO := hO.same st
      replace hB := hB.sm st
      replace hR := hR.same st
      replace rq1 := rq1.same st
      replace rq2 := rq2.same st
      generalize upd G5 q3 (.lst [ov]) = G6 at *
      clear st hq3
      obtain ⟨xs, hxs, hxl⟩ := rq2.get
      obtain ⟨ys, hys, hyl⟩ := rq3.get
      refine ⟨q2, q3, xs, ys, rfl, rfl, hxs, hys, Nat.le_trans (show _ ≤ 10000 by omega) (by decide), fun q4 hq4 => ?_⟩
      have rq4 := cat_new hu rq2 rq3 hxs hys hq4
      have st := same_new (o := .lst (xs ++ ys)) hq4
      replace hu := st _ _ hu
      replace hS := st _ _ hS
      replace hD := hD.same st
      replace hT := hT.same st
      replace hO := hO.same st
      replace hB := hB.sm st
      replace hR := hR.same st
      replace rq1 := rq1.same st
      replace rq2 := rq2.same st
      replace rq3 := rq3.same st
      generalize upd G6 q4 (.lst (xs ++ ys)) = G7 at *
      clear st hq4
      clear hxs hxl hys hyl xs ys
      obtain ⟨xs, hxs, hxl⟩ := hR.get
      refine ⟨_, rfl, _, rfl, atv, rfl, L0, xs, rfl, SqL.of hxs, fun q5 hq5 => ?_⟩
      have rq5 := cut_new (lo := (some atv)) (hi := none) hu hR hxs hq5
      have st := same_new (o := .lst (cutV xs (some atv) none)) hq5
      replace hu := st _ _ hu
      replace hS := st _ _ hS
      replace hD := hD.same st
      replace hT := hT.same st
      replace hO := hO.same st
      replace hB := hB.sm st
      replace hR := hR.same st
      replace rq1 := rq1.same st
      replace rq2 := rq2.same st
      replace rq3 := rq3.same st
      replace rq4 := rq4.same st
      generalize upd G7 q5 (.lst (cutV xs (some atv) none)) = G8 at *
      clear st hq5
      clear hxs hxl xs
      obtain ⟨xs, hxs, hxl⟩ := rq4.get
      obtain ⟨ys, hys, hyl⟩ := rq5.get
      refine ⟨q4, q5, xs, ys, rfl, rfl, hxs, hys, Nat.le_trans (show _ ≤ 10000 by omega) (by decide), fun q6 hq6 => ?_⟩
      have rq6 := cat_new hu rq4 rq5 hxs hys hq6
      have st := same_new (o := .lst (xs ++ ys)) hq6
      replace hu := st _ _ hu
      replace hS := st _ _ hS
      replace hD := hD.same st
      replace hT := hT.same st
      replace hO := hO.same st
      replace hB := hB.sm st
      replace hR := hR.same st
      replace rq1 := rq1.same st
      replace rq2 := rq2.same st
      replace rq3 := rq3.same st
      replace rq4 := rq4.same st
      replace rq5 := rq5.same st
      generalize upd G8 q6 (.lst (xs ++ ys)) = G9 at *
      clear st hq6
      clear hxs hxl hys hyl xs ys
      obtain ⟨xs, hxs, hxl⟩ := hR.get
      refine ⟨_, rfl, _, rfl, atv, rfl, L0, xs, rfl, SqL.of hxs, fun q7 hq7 => ?_⟩
      have rq7 := cut_new (lo := none) (hi := (some atv)) hu hR hxs hq7
      have st := same_new (o := .lst (cutV xs none (some atv))) hq7
      replace hu := st _ _ hu
      replace hS := st _ _ hS
      replace hD := hD.same st
      replace hT := hT.same st
      replace hO := hO.same st
      replace hB := hB.sm st
      replace hR := hR.same st
      replace rq1 := rq1.same st
      replace rq2 := rq2.same st
      replace rq3 := rq3.same st
      replace rq4 := rq4.same st
      replace rq5 := rq5.same st
      replace rq6 := rq6.same st
      generalize upd G9 q7 (.lst (cutV xs none (some atv))) = G10 at *
      clear st hq7
      clear hxs hxl xs
      obtain ⟨xs, hxs, hxl⟩ := hR.get
      refine ⟨_, rfl, _, rfl, _, _, rfl, rfl, (atv + 1), rfl, L0, xs, rfl, SqL.of hxs, fun q8 hq8 => ?_⟩
      have rq8 := cut_new (lo := (some (atv + 1))) (hi := none) hu hR hxs hq8
      have st := same_new (o := .lst (cutV xs (some (atv + 1)) none)) hq8
      replace hu := st _ _ hu
      replace hS := st _ _ hS
      replace hD := hD.same st
      replace hT := hT.same st
      replace hO := hO.same st
      replace hB := hB.sm st
      replace hR := hR.same st
      replace rq1 := rq1.same st
      replace rq2 := rq2.same st
      replace rq3 := rq3.same st
      replace rq4 := rq4.same st
      replace rq5 := rq5.same st
      replace rq6 := rq6.same st
      replace rq7 := rq7.same st
      generalize upd G10 q8 (.lst (cutV xs (some (atv + 1)) none)) = G11 at *
      clear st hq8
      clear hxs hxl xs
      obtain ⟨xs, hxs, hxl⟩ := rq7.get
      obtain ⟨ys, hys, hyl⟩ := rq8.get
      refine ⟨q7, q8, xs, ys, rfl, rfl, hxs, hys, Nat.le_trans (show _ ≤ 10000 by omega) (by decide), fun q9 hq9 => ?_⟩
      have rq9 := cat_new hu rq7 rq8 hxs hys hq9
      have st := same_new (o := .lst (xs ++ ys)) hq9
      replace hu := st _ _ hu
      replace hS := st _ _ hS
      replace hD := hD.same st
      replace hT := hT.same st
      replace hO := hO.same st
      replace hB := hB.sm st
      replace hR := hR.same st
      replace rq1 := rq1.same st
      replace rq2 := rq2.same st
      replace rq3 := rq3.same st
      replace rq4 := rq4.same st
      replace rq5 := rq5.same st
      replace rq6 := rq6.same st
      replace rq7 := rq7.same st
      replace rq8 := rq8.same st
      generalize upd G11 q9 (.lst (xs ++ ys)) = G12 at *
      clear st hq9
      clear hxs hxl hys hyl xs ys
      clear rq2
      clear rq3
      clear rq4
      clear rq5
      clear rq7
      clear rq8
      refine ⟨by show 4 ≤ sizeLine; decide, fun Rz hRz => ?_⟩
      have hRR : upd G12 Rz (.lst [V.ref L0, V.ref q1, V.ref q6, V.ref q9]) Rz = some (.lst [V.ref L0, V.ref q1, V.ref q6, V.ref q9]) := upd_same
      have st := same_new (o := .lst [V.ref L0, V.ref q1, V.ref q6, V.ref q9]) hRz
      replace hu := st _ _ hu
      replace hS := st _ _ hS
      replace hD := hD.same st
      replace hT := hT.same st
      replace hO := hO.same st
      replace hB := hB.sm st
      replace hR := hR.same st
      replace rq1 := rq1.same st
      replace rq6 := rq6.same st
      replace rq9 := rq9.same st
      generalize upd G12 Rz (.lst [V.ref L0, V.ref q1, V.ref q6, V.ref q9]) = G13 at *
      clear st hRz
      try dsimp only [List.set]
      obtain ⟨xs, hxs, hxl⟩ := hR.get
      refine ⟨_, rfl, _, rfl, _, rfl, atv, rfl, L0, xs, rfl, SqL.of hxs, fun w1 hw1 => ?_⟩
      have rw1 := cut_new (lo := none) (hi := (some atv)) hu hR hxs hw1
      have st := same_new (o := .lst (cutV xs none (some atv))) hw1
      replace hu := st _ _ hu
      replace hS := st _ _ hS
      replace hD := hD.same st
      replace hT := hT.same st
      replace hO := hO.same st
      replace hB := hB.sm st
      replace hR := hR.same st
      replace hRR := st _ _ hRR
      replace rq1 := rq1.same st
      replace rq6 := rq6.same st
      replace rq9 := rq9.same st
      generalize upd G13 w1 (.lst (cutV xs none (some atv))) = G14 at *
      clear st hw1
      clear hxs hxl xs
      obtain ⟨xs, hxs, hxl⟩ := hR.get
      refine ⟨_, rfl, 1, rfl, L0, xs, rfl, SqL.of hxs, fun w2 hw2 => ?_⟩
      have rw2 := cut_new (lo := none) (hi := (some 1)) hu hR hxs hw2
      have st := same_new (o := .lst (cutV xs none (some 1))) hw2
      replace hu := st _ _ hu
      replace hS := st _ _ hS
      replace hD := hD.same st
      replace hT := hT.same st
      replace hO := hO.same st
      replace hB := hB.sm st
      replace hR := hR.same st
      replace hRR := st _ _ hRR
      replace rq1 := rq1.same st
      replace rq6 := rq6.same st
      replace rq9 := rq9.same st
      replace rw1 := rw1.same st
      generalize upd G14 w2 (.lst (cutV xs none (some 1))) = G15 at *
      clear st hw2
      clear hxs hxl xs
      obtain ⟨xs, hxs, hxl⟩ := rw1.get
      obtain ⟨ys, hys, hyl⟩ := rw2.get
      refine ⟨w1, w2, xs, ys, rfl, rfl, hxs, hys, Nat.le_trans (show _ ≤ 10000 by omega) (by decide), fun w3 hw3 => ?_⟩
      have rw3 := cat_new hu rw1 rw2 hxs hys hw3
      have st := same_new (o := .lst (xs ++ ys)) hw3
      replace hu := st _ _ hu
      replace hS := st _ _ hS
      replace hD := hD.same st
      replace hT := hT.same st
      replace hO := hO.same st
      replace hB := hB.sm st
      replace hR := hR.same st
      replace hRR := st _ _ hRR
      replace rq1 := rq1.same st
      replace rq6 := rq6.same st
      replace rq9 := rq9.same st
      replace rw1 := rw1.same st
      replace rw2 := rw2.same st
      generalize upd G15 w3 (.lst (xs ++ ys)) = G16 at *
      clear st hw3
      clear hxs hxl hys hyl xs ys
      clear rw1
      clear rw2
      obtain ⟨xs, hxs, hxl⟩ := hR.get
      refine ⟨_, rfl, _, rfl, 1, rfl, (-1), rfl, L0, xs, rfl, SqL.of hxs, fun w4 hw4 => ?_⟩
      have rw4 := cut_new (lo := (some (-1))) (hi := none) hu hR hxs hw4
      have st := same_new (o := .lst (cutV xs (some (-1)) none)) hw4
      replace hu := st _ _ hu
      replace hS := st _ _ hS
      replace hD := hD.same st
      replace hT := hT.same st
      replace hO := hO.same st
      replace hB := hB.sm st
      replace hR := hR.same st
      replace hRR := st _ _ hRR
      replace rq1 := rq1.same st
      replace rq6 := rq6.same st
      replace rq9 := rq9.same st
      replace rw3 := rw3.same st
      generalize upd G16 w4 (.lst (cutV xs (some (-1)) none)) = G17 at *
      clear st hw4
      clear hxs hxl xs
      obtain ⟨xs, hxs, hxl⟩ := hR.get
      obtain ⟨ys, hys, hyl⟩ := rw4.get
      refine ⟨L0, w4, xs, ys, rfl, rfl, hxs, hys, Nat.le_trans (show _ ≤ 10000 by omega) (by decide), fun w5 hw5 => ?_⟩
      have rw5 := cat_new hu hR rw4 hxs hys hw5
      have st := same_new (o := .lst (xs ++ ys)) hw5
      replace hu := st _ _ hu
      replace hS := st _ _ hS
      replace hD := hD.same st
      replace hT := hT.same st
      replace hO := hO.same st
      replace hB := hB.sm st
      replace hR := hR.same st
      replace hRR := st _ _ hRR
      replace rq1 := rq1.same st
      replace rq6 := rq6.same st
      replace rq9 := rq9.same st
      replace rw3 := rw3.same st
      replace rw4 := rw4.same st
      generalize upd G17 w5 (.lst (xs ++ ys)) = G18 at *
      clear st hw5
      clear hxs hxl hys hyl xs ys
      refine ⟨by show 2 ≤ sizeLine; decide, fun Wz hWz => ?_⟩
      have hWW : upd G18 Wz (.lst [V.ref w3, V.ref w5]) Wz = some (.lst [V.ref w3, V.ref w5]) := upd_same
      have st := same_new (o := .lst [V.ref w3, V.ref w5]) hWz
      replace hu := st _ _ hu
      replace hS := st _ _ hS
      replace hD := hD.same st
      replace hT := hT.same st
      replace hO := hO.same st
      replace hB := hB.sm st
      replace hR := hR.same st
      replace hRR := st _ _ hRR
      replace rq1 := rq1.same st
      replace rq6 := rq6.same st
      replace rq9 := rq9.same st
      replace rw3 := rw3.same st
      replace rw4 := rw4.same st
      replace rw5 := rw5.same st
      generalize upd G18 Wz (.lst [V.ref w3, V.ref w5]) = G19 at *
      clear st hWz
      refine ⟨Rz, Wz, _, _, rfl, rfl, hRR, hWW, by show 6 ≤ sizeLine; decide, fun Zz hZz => ?_⟩
      have hZ : upd G19 Zz (.lst ([V.ref L0, V.ref q1, V.ref q6, V.ref q9] ++ [V.ref w3, V.ref w5])) Zz = some (.lst ([V.ref L0, V.ref q1, V.ref q6, V.ref q9] ++ [V.ref w3, V.ref w5])) := upd_same
      have st := same_new (o := .lst ([V.ref L0, V.ref q1, V.ref q6, V.ref q9] ++ [V.ref w3, V.ref w5])) hZz
      replace hu := st _ _ hu
      replace hS := st _ _ hS
      replace hD := hD.same st
      replace hT := hT.same st
      replace hO := hO.same st
      replace hB := hB.sm st
      replace hR := hR.same st
      replace hRR := st _ _ hRR
      replace hWW := st _ _ hWW
      replace rq1 := rq1.same st
      replace rq6 := rq6.same st
      replace rq9 := rq9.same st
      replace rw3 := rw3.same st
      replace rw4 := rw4.same st
      replace rw5 := rw5.same st
      generalize upd G19 Zz (.lst ([V.ref L0, V.ref q1, V.ref q6, V.ref q9] ++ [V.ref w3, V.ref w5])) = G20 at *
      clear st hZz
      have hsix : ∀ x ∈ [V.ref L0, V.ref q1, V.ref q6, V.ref q9] ++ [V.ref w3, V.ref w5], RwAt G20 p 4000 x := fun x hx => by
        simp only [List.cons_append, List.nil_append, List.mem_cons, List.not_mem_nil, or_false] at hx
        rcases hx with rfl | rfl | rfl | rfl | rfl | rfl
        · exact hR.mono (by decide)
        · exact rq1.mono (by decide)
        · exact rq6.mono (by decide)
        · exact rq9.mono (by decide)
        · exact rw3.mono (by decide)
        · exact rw5.mono (by decide)
      generalize [V.ref L0, V.ref q1, V.ref q6, V.ref q9] ++ [V.ref w3, V.ref w5] = six at *
      clear rq1 rq6 rq9 rw3 rw4 rw5 hRR hWW hR hO
      have hfit : Fit 1400 2 (stD rows out) := few_fit ⟨fs, hN⟩ ok hrl (by omega) (by omega)
      refine ⟨Zz, rfl, ⟨_, SqL.of hZ⟩, ?_⟩
      refine fL (fun i σ G => G Zz = some (.lst six) ∧ G S = some (.lst zs) ∧ Bag G p ∧ Dat G p (.ref ah) (.tuple fs) ∧ Dat G p sv (stD rows out) ∧ (∀ x ∈ six, RwAt G p 4000 x) ∧ ∃ v11 v12, σ = [some (.ref a), some (.int c), some (.ref p), some (.ref ah), some sv, some (.ref L0), some (.int atv), some (.int (m : Nat)), some (.ref t1), some ov, some (.ref Rz), v11, v12, u13, u14, u15, u16, u17, u18, u19, u20]) ⟨hZ, hS, hB, hD, hT, hsix, _, _, rfl⟩ (fun i σ G _ hp => SqL.of hp.1) ?_ ?_
      · rintro i x σ G hi ⟨hZG, hSG, hBG, hDG, hTG, h6, v11, v12, rfl⟩
        obtain ⟨L, xs, ds, rfl, hL, hLp, hds, h1s, hdl⟩ := h6 x (List.mem_of_getElem? hi)
        clear hi hS hB hD hT hsix hZ hu
        obtain ⟨u, hu⟩ := hBG.here
        walk_at "op"
        try dsimp only [List.set]
        refine ⟨_, rfl, _, rfl, _, rfl, by show 3 ≤ sizeLine; decide, fun t ht => ?_⟩
        have three : ∀ {G' : Hp} {t : Addr}, Same G G' → G' t = none → Dat (upd G' t (.tup [V.ref ah, sv, V.ref L])) p (.ref t) (.tuple [.tuple fs, stD rows out, .list ds]) := fun {G' t} s ht =>
          Dat.new ht (ne_of_none' ht (s _ _ hu)) (Dats.cons (hDG.same s) (Dats.cons (hTG.same s) (Dats.cons (.lst (s _ _ hL) hLp (hds.same s).1 (hds.same s).2) Dats.nil)))
        have hkept := three (fun _ _ e => e) ht
        have s0 := same_new (o := .tup [V.ref ah, sv, V.ref L]) ht
        generalize upd G t (.tup [V.ref ah, sv, V.ref L]) = G0 at *
        refine ⟨_, p, _, 3000000, 5, rfl, hkept, three_fit hN hfit h1s hdl, by decide, by decide, ?_⟩
        try dsimp only [List.set]
        clear ht hkept
        have fin : ∀ {G' : Hp}, Same G G' → G' Zz = some (.lst six) ∧ G' S = some (.lst zs) ∧ Bag G' p ∧ Dat G' p (.ref ah) (.tuple fs) ∧ Dat G' p sv (stD rows out) ∧ (∀ x ∈ six, RwAt G' p 4000 x) := fun {G'} s => ⟨s _ _ hZG, s _ _ hSG, hBG.sm s, hDG.same s, hTG.same s, fun x hx => (h6 x hx).same s⟩
        have told : ∀ {w : V} {k : Nat} {r : List (List Int)} {o : Int} {H' : Hp}, GoneTo fs m ds rows out k r o → Dat H' p w (goneD ds.length k r o) → Fit 1400 2 (goneD ds.length k r o) := fun {w k r o H'} hG _ => gone_fit hdl (hG.small hgo hN ok hrl (by omega) (by omega))
        refine ⟨_, rfl, _, rfl, _, rfl, 0, .ref ah, sv, .ref L, p, p, p, u, fs, m, n, rows, out, rfl, s0 _ _ hu, hDG.same s0, hN, hTG.same s0, hrl, ok, .inl ⟨rfl, L, xs, ds, rfl, s0 _ _ hL, hds.same s0, fun w r o H' hG hw s1 => ?_, fun k r o H' hG hk s1 => ?_⟩⟩
        focus
          rw [← gone_all (len := ds.length)] at hw
        rotate_left
        focus
          have hw : Dat H' p (.int (k : Nat)) (goneD ds.length k r o) := by rw [gone_at hk]; exact .int _
          clear hk
        rotate_left
        all_goals
          have s01 := s0.trans s1
          have two : ∀ {v' : V} {k' : Nat} {r' : List (List Int)} {o' : Int} {H2 : Hp}, GoneTo fs m ds rows out k' r' o' → Dat H2 p v' (goneD ds.length k' r' o') → Dat H2 p v' (goneD ds.length _ r o) := fun {v' k' r' o' H2} hG' hv' => by
            obtain ⟨e1, e2, e3⟩ := hG.one hG'
            subst e1 e2 e3
            exact hv'
          have hf := told hG hw
          refine ⟨_, p, _, 1400, 2, rfl, hw, hf, by decide, by decide, ?_⟩
          generalize goneD ds.length _ r o = dd at *
          refine ⟨_, rfl, _, rfl, _, rfl, .ref ah, sv, L, p, p, p, u, fs, m, n, rows, out, xs, ds, rfl, s01 _ _ hu, hDG.same s01, hN, hTG.same s01, hrl, ok, by omega, s01 _ _ hL, hds.same s01, ones_plain h1s, fun k' r' o' H2 hG' hk' s2 => ?_, fun r' o' v' H2 hG' hv' s2 => ?_⟩
          focus
            have hv : Dat H2 p (.int (k' : Nat)) dd := two hG' (by rw [gone_at hk']; exact .int _)
            clear hk'
          rotate_left
          focus
            have hv : Dat H2 p v' dd := two hG' (by rw [gone_all]; exact hv')
            clear hv'
          rotate_left
          all_goals
            have s02 := s01.trans s2
            refine ⟨_, p, dd, 1400, 2, rfl, hv, hf, by decide, by decide, rfl, false, by rw [decide_eq_true rfl]; rfl, ?_⟩
            rw [if_neg (by decide)]
            refine ⟨_, rfl, _, rfl, _, rfl, by show 3 ≤ sizeLine; decide, fun t ht => ?_⟩
            have hk2 := three s02 ht
            have s03 := s02.trans (same_new (o := .tup [V.ref ah, sv, V.ref L]) ht)
            refine ⟨_, p, _, 3000000, 5, rfl, hk2, three_fit hN hfit h1s hdl, by decide, by decide, _, rfl, rfl, false, by rw [decide_eq_true rfl]; rfl, ?_⟩
            rw [if_neg (by decide)]
            obtain ⟨f1, f2, f3, f4, f5, f6⟩ := fin s03
            exact ⟨f1, f2, f3, f4, f5, f6, _, _, rfl⟩
      · rintro σ G ⟨_, hSG, hBG, hDG, hTG, _, v11, v12, rfl⟩
        clear hS hB hD hT hsix hZ hu
        obtain ⟨u, hu⟩ := hBG.here
        walk_at "op"
        try dsimp only [List.set]
        refine ⟨_, rfl, _, rfl, 1, .ref ah, sv, .non, p, p, p, u, fs, m, n, rows, out, rfl, hu, hDG, hN, hTG, hrl, ok, .inr ⟨rfl, fun h60 q ws H' l r o hRL hrest hq hW s1 => ?_, fun h60 => by omega⟩⟩
        have hBs := hBG.sm s1
        refine ⟨_, p, _, 900000, 2, rfl, tris_dat hBs hq hW, tris_fit (hRL.small hgo hN ok hrl (by omega)), by decide, by decide, ?_⟩
        refine ⟨_, rfl, _, rfl, .ref ah, sv, p, p, u, fs, m, n, rows, out, rfl, s1 _ _ hu, hDG.same s1, hN, hTG.same s1, hrl, ok, by omega, fun q' ws' l' r' o' H2 hRL' hrest' s2 hq' hW' => ?_⟩
        obtain rfl := hRL.unique hRL' hrest hrest'
        have s12 := s1.trans s2
        refine ⟨_, p, _, 900000, 2, rfl, tris_dat (hBG.sm s12) hq' hW', tris_fit (hRL.small hgo hN ok hrl (by omega)), by decide, by decide, rfl, false, by rw [decide_eq_true rfl]; rfl, ?_⟩
        rw [if_neg (by decide)]
        clear hRL hRL' hrest hrest' hq hW hq' hW' hBs
        have hS := s12 _ _ hSG
        have hB := hBG.sm s12
        have hD := hDG.same s12
        have hT := hTG.same s12
        clear hSG hBG hDG hTG hu s1 s2 s12
        refine ⟨_, rfl, p, 5, rfl, by decide, by decide, hB, fun i G0 i0 i1 hB0 x0 => ⟨_, _, rfl, rfl, ?_⟩⟩
        replace hS := x0 _ _ hS Sp0
        replace hD := hD.ext x0
        replace hT := hT.ext x0
        clear hB x0
        obtain ⟨u, hu⟩ := hB0.here
        try dsimp only [List.set]
        obtain ⟨row0, rest, rfl⟩ : ∃ a b, rows = a :: b := by
          cases rows with
          | nil => exact absurd hrl (by show ¬ (0 = n); omega)
          | cons a b => exact ⟨_, _, rfl⟩
        have hmz : ((m : Int) - 1).toNat = m - 1 := by omega
        replace hT : Dat G0 p sv (.tuple (rowD row0 :: rest.map rowD ++ [.int out])) := hT
        have hrest0 : 0 ≤ (rest.map List.sum).sum := sum_pos fun x hx => by
          obtain ⟨c, hc, rfl⟩ := List.mem_map.mp hx
          exact sum_pos (ok.pos c (List.mem_cons_of_mem _ hc))
        have hrest40 : (rest.map List.sum).sum ≤ 40 := by
          have e : ((row0 :: rest).map List.sum).sum = row0.sum + (rest.map List.sum).sum := by rw [List.map_cons, List.sum_cons]
          have := sum_pos (ok.pos row0 List.mem_cons_self)
          omega
        have hrn : rest.length ≤ 3 := by rw [List.length_cons] at hrl; omega
        refine ⟨_, rfl, by show 1 ≤ sizeLine; decide, fun t3 ht3 => ?_⟩
        have d3 := one_tup hu ht3 (.int (58 + i))
        have st := same_new (o := .tup [V.int (58 + i)]) ht3
        replace hu := st _ _ hu
        replace hS := st _ _ hS
        replace hD := hD.same st
        replace hT := hT.same st
        replace hB0 := hB0.sm st
        generalize upd G0 t3 (.tup [V.int (58 + i)]) = G1 at *
        clear st ht3
        refine ⟨by show 1 ≤ sizeLine; decide, fun t4 ht4 => ?_⟩
        have e4 : upd G1 t4 (.tup [V.int 0]) t4 = some (.tup [V.int 0]) := upd_same
        have e4p := ne_of_none' ht4 hu
        have st := same_new (o := .tup [V.int 0]) ht4
        replace hu := st _ _ hu
        replace hS := st _ _ hS
        replace hD := hD.same st
        replace hT := hT.same st
        replace hB0 := hB0.sm st
        replace d3 := d3.same st
        generalize upd G1 t4 (.tup [V.int 0]) = G2 at *
        clear st ht4
        refine ⟨_, rfl, _, _, rfl, rfl, zeros_dat hu e4 e4p (by omega) (by omega) fun z G3 st dz => ?_⟩
        replace hu := st _ _ hu
        replace hS := st _ _ hS
        replace hD := hD.same st
        replace hT := hT.same st
        replace hB0 := hB0.sm st
        replace d3 := d3.same st
        clear st
        rw [hmz] at dz
        clear e4 e4p
        refine cat_dat hu d3 dz (by simp; omega) fun cc G4 st dc => ?_
        replace hu := st _ _ hu
        replace hS := st _ _ hS
        replace hD := hD.same st
        replace hT := hT.same st
        replace hB0 := hB0.sm st
        replace d3 := d3.same st
        clear st
        replace dc : Dat G4 p cc (rowD ((58 + i) :: List.replicate (m - 1) 0)) := dc
        clear d3 dz
        refine ⟨by show 1 ≤ sizeLine; decide, fun t5 ht5 => ?_⟩
        have d5 := one_tup hu ht5 dc
        clear dc
        have st := same_new (o := .tup [cc]) ht5
        replace hu := st _ _ hu
        replace hS := st _ _ hS
        replace hD := hD.same st
        replace hT := hT.same st
        replace hB0 := hB0.sm st
        generalize upd G4 t5 (.tup [cc]) = G5 at *
        clear st ht5
        refine ⟨_, rfl, 1, rfl, 1, rfl, (-1), rfl, sl_dat hu hT (cut_mid _ _ _) fun w5 G6 st dw => ?_⟩
        replace hu := st _ _ hu
        replace hS := st _ _ hS
        replace hD := hD.same st
        replace hT := hT.same st
        replace hB0 := hB0.sm st
        replace d5 := d5.same st
        clear st
        refine cat_dat hu d5 dw (by simp; omega) fun w6 G7 st d6 => ?_
        replace hu := st _ _ hu
        replace hS := st _ _ hS
        replace hD := hD.same st
        replace hT := hT.same st
        replace hB0 := hB0.sm st
        replace d5 := d5.same st
        clear st
        clear d5 dw
        have hbig : (10 : Int) ^ (18 : Int).toNat = 1000000000000000000 := by decide
        refine ⟨10, 18, rfl, rfl, by first | decide | exact ⟨by decide, by decide⟩, by show 1 ≤ sizeLine; decide, ?_⟩
        rw [hbig]
        refine fun t6 ht6 => ?_
        have d7 := one_tup hu ht6 (.int 1000000000000000000)
        have st := same_new (o := .tup [V.int 1000000000000000000]) ht6
        replace hu := st _ _ hu
        replace hS := st _ _ hS
        replace hD := hD.same st
        replace hT := hT.same st
        replace hB0 := hB0.sm st
        replace d6 := d6.same st
        generalize upd G7 t6 (.tup [V.int 1000000000000000000]) = G8 at *
        clear st ht6
        refine cat_dat hu d6 d7 (by simp; omega) fun cw G9 st dC => ?_
        replace hu := st _ _ hu
        replace hS := st _ _ hS
        replace hD := hD.same st
        replace hT := hT.same st
        replace hB0 := hB0.sm st
        replace d6 := d6.same st
        replace d7 := d7.same st
        clear st
        clear d6 d7
        have okC : StOk m (((58 + i) :: List.replicate (m - 1) 0) :: rest) 1000000000000000000 := head_ok hm1 ok (by omega) (by decide)
        have hsumC : ((((58 + i) :: List.replicate (m - 1) 0) :: rest).map List.sum).sum = 58 + i + (rest.map List.sum).sum := head_sum
        have hlC : (((58 + i) :: List.replicate (m - 1) 0) :: rest).length = n := by rw [List.length_cons] at hrl ⊢; exact hrl
        replace dC : Dat G9 p cw (.tuple (rowD ((58 + i) :: List.replicate (m - 1) 0) :: rest.map rowD ++ [.int 1000000000000000000])) := dC
        generalize (58 + i) :: List.replicate (m - 1) 0 = hr0 at *
        try dsimp only [List.set]
        refine ⟨_, rfl, 1, rfl, (-1), rfl, sl_dat hu dC (cut_init _ _) fun w9 G10 st d9 => ?_⟩
        replace hu := st _ _ hu
        replace hS := st _ _ hS
        replace hD := hD.same st
        replace hT := hT.same st
        replace hB0 := hB0.sm st
        replace dC := dC.same st
        clear st
        obtain ⟨a9, xs9, rfl, ha9, _, hx9⟩ := d9.isTup
        replace hx9 : Dats G10 p xs9 ((hr0 :: rest).map rowD) := hx9
        have hxl9 : xs9.length = n := by rw [hx9.1, List.length_map]; exact hlC
        refine ⟨a9, rfl, ⟨_, SqT.of ha9⟩, fun R9 hR9 => ?_⟩
        refine lI walk_tup (fun j Gc => Same G10 Gc ∧ Gc R9 = some (.lst ((((hr0 :: rest).take j).map List.sum).map V.int))) ⟨same_new hR9, upd_same⟩ (fun _ _ _ ⟨e, _⟩ => SqT.of (e _ _ ha9)) ?_ ?_
        · rintro j x _ Gc hj ⟨sG, hRG⟩ ⟨rfl, hxi⟩
          have hil : j < (hr0 :: rest).length := by omega
          have hgi : (hr0 :: rest)[j]? = some (hr0 :: rest)[j] := List.getElem?_eq_getElem hil
          obtain ⟨b, rfl, hb, _⟩ := row_parts (hx9.2 j x (rowD (hr0 :: rest)[j]) hxi (by rw [List.getElem?_map, hgi]; rfl))
          have htk : (hr0 :: rest).take (j + 1) = (hr0 :: rest).take j ++ [(hr0 :: rest)[j]] := by rw [List.take_add_one, hgi]; rfl
          generalize (hr0 :: rest)[j] = r at *
          walk_at "op"
          refine ⟨rfl, ?_⟩
          refine iteT ?_
          refine ⟨_, rfl, .inr ⟨b, r, rfl, SqT.of (sG _ _ hb), ?_⟩⟩
          refine ⟨_, hRG, ?_, sameOff sG hR9, ?_⟩
          · rw [List.length_map, List.length_map, List.length_take]
            exact Nat.lt_of_le_of_lt (show _ ≤ 4 by omega) (by rw [sizeLine_eq]; omega)
          · rw [upd_same, htk, List.map_append, List.map_append]
            rfl
        rintro G11 ⟨st, hRG⟩
        replace hu := st _ _ hu
        replace hS := st _ _ hS
        replace hD := hD.same st
        replace hT := hT.same st
        replace hB0 := hB0.sm st
        replace dC := dC.same st
        clear st
        rw [hxl9, ← hlC, List.take_length] at hRG
        refine .inl ⟨R9, _, rfl, SqL.of hRG, ?_⟩
        clear hRG ha9 hx9 hxl9
        try dsimp only [List.set]
        refine ⟨_, rfl, _, rfl, 1, .ref ah, cw, .non, p, p, p, u, fs, m, n, hr0 :: rest, 1000000000000000000, rfl, hu, hD, hN, dC, hlC, okC, .inr ⟨rfl, fun h60 q ws H' l r o hRL hrest hq hW s1 => ?_, fun h60 t H' hq s1 => ?_⟩⟩
        focus
          refine ⟨_, rfl, _, _, rfl, rfl, false, by rw [decide_eq_false (by omega)], ?_⟩
          rw [if_neg (by decide)]
          refine ⟨_, rfl, _, rfl, .ref ah, cw, p, p, u, fs, m, n, hr0 :: rest, 1000000000000000000, rfl, s1 _ _ hu, hD.same s1, hN, dC.same s1, hlC, okC, by omega, fun q' ws' l' r' o' H2 hRL' hrest' s2 hq' hW' => ?_⟩
          obtain rfl := hRL.unique hRL' hrest hrest'
          have s12 := s1.trans s2
          have hBz := hB0.sm s12
          have hw2 := hW.same s2
          have hq2 := s2 _ _ hq
          have hfl := tris_fit (hRL.small hgo hN okC hlC (by omega))
          refine ⟨_, rfl, _, p, _, 900000, 2, rfl, tris_dat hBz hq2 hw2, hfl, by decide, by decide, ?_⟩
          refine ⟨_, rfl, _, p, _, 900000, 2, rfl, tris_dat hBz hq' hW', hfl, by decide, by decide, rfl, false, by rw [decide_eq_true rfl]; rfl, ?_⟩
          rw [if_neg (by decide)]
          clear hRL hRL' hrest hrest' hq hW hq' hW' hw2 hq2 hfl h60
        rotate_left
        focus
          refine ⟨_, rfl, _, _, rfl, rfl, true, by rw [decide_eq_true (by omega)], ?_⟩
          rw [if_pos rfl]
          refine ⟨_, rfl, by show 2 ≤ sizeLine; decide, fun t2 ht2 => ?_⟩
          have s2 := same_new (o := .lst [.str "many", .int ((hr0 :: rest).map List.sum).sum]) ht2
          have s12 := s1.trans s2
          have hBz := hB0.sm s12
          have hq2 := s2 _ _ hq
          have hfl := many_fit (i := ((hr0 :: rest).map List.sum).sum) (Nat.lt_of_le_of_lt (show _ ≤ 1000 by omega) (by decide))
          refine ⟨_, rfl, _, p, _, 1000, 1, rfl, many_dat hBz hq2, hfl, by decide, by decide, ?_⟩
          refine ⟨_, rfl, _, p, _, 1000, 1, rfl, many_dat hBz upd_same, hfl, by decide, by decide, rfl, false, by rw [decide_eq_true rfl]; rfl, ?_⟩
          rw [if_neg (by decide)]
          clear hq hq2 hfl h60
        rotate_left
        all_goals
          replace hS := s12 _ _ hS
          replace hD := hD.same s12
          replace dC := dC.same s12
          clear s12 s1 s2 hB0 hu hT
          have hbig : (10 : Int) ^ (18 : Int).toNat = 1000000000000000000 := by decide
          refine ⟨10, 18, rfl, rfl, by first | decide | exact ⟨by decide, by decide⟩, _, rfl, 10, 18, rfl, rfl, by first | decide | exact ⟨by decide, by decide⟩, ?_⟩
          rw [hbig]
          refine ⟨p, _, rfl, by decide, pk (by decide) (by decide), hBz, fun k4 G50 k40 k41 hB5 x5 => ?_⟩
          replace hS := x5 _ _ hS Sp0
          replace hD := hD.ext x5
          replace dC := dC.ext x5
          clear x5 hBz
          obtain ⟨u5, hu⟩ := hB5.here
          refine ⟨_, _, rfl, rfl, ?_⟩
          refine ⟨by show 1 ≤ sizeLine; decide, fun t5 ht5 => ?_⟩
          have d3 := one_tup hu ht5 (.int (1000000000000000000 + k4))
          have st := same_new (o := .tup [V.int (1000000000000000000 + k4)]) ht5
          replace hu := st _ _ hu
          replace hS := st _ _ hS
          replace hD := hD.same st
          replace dC := dC.same st
          replace hB5 := hB5.sm st
          generalize upd G50 t5 (.tup [V.int (1000000000000000000 + k4)]) = G51 at *
          clear st ht5
          refine ⟨by show 1 ≤ sizeLine; decide, fun t6 ht6 => ?_⟩
          have e4 : upd G51 t6 (.tup [V.int 0]) t6 = some (.tup [V.int 0]) := upd_same
          have e4p := ne_of_none' ht6 hu
          have st := same_new (o := .tup [V.int 0]) ht6
          replace hu := st _ _ hu
          replace hS := st _ _ hS
          replace hD := hD.same st
          replace dC := dC.same st
          replace hB5 := hB5.sm st
          replace d3 := d3.same st
          generalize upd G51 t6 (.tup [V.int 0]) = G52 at *
          clear st ht6
          refine ⟨_, rfl, _, _, rfl, rfl, zeros_dat hu e4 e4p (by omega) (by omega) fun z G53 st dz => ?_⟩
          replace hu := st _ _ hu
          replace hS := st _ _ hS
          replace hD := hD.same st
          replace dC := dC.same st
          replace hB5 := hB5.sm st
          replace d3 := d3.same st
          clear st
          rw [hmz] at dz
          clear e4 e4p
          refine cat_dat hu d3 dz (by simp; omega) fun cc G54 st dc => ?_
          replace hu := st _ _ hu
          replace hS := st _ _ hS
          replace hD := hD.same st
          replace dC := dC.same st
          replace hB5 := hB5.sm st
          replace d3 := d3.same st
          clear st
          replace dc : Dat G54 p cc (rowD ((1000000000000000000 + k4) :: List.replicate (m - 1) 0)) := dc
          clear d3 dz
          refine ⟨by show 1 ≤ sizeLine; decide, fun t7 ht7 => ?_⟩
          have d5 := one_tup hu ht7 dc
          clear dc
          have st := same_new (o := .tup [cc]) ht7
          replace hu := st _ _ hu
          replace hS := st _ _ hS
          replace hD := hD.same st
          replace dC := dC.same st
          replace hB5 := hB5.sm st
          generalize upd G54 t7 (.tup [cc]) = G55 at *
          clear st ht7
          replace dC : Dat G55 p cw (.tuple (rowD hr0 :: (rest.map rowD ++ [.int 1000000000000000000]))) := dC
          refine ⟨_, rfl, 1, rfl, sl_dat hu dC (cut_tail _ _) fun w5 G56 st dw => ?_⟩
          replace hu := st _ _ hu
          replace hS := st _ _ hS
          replace hD := hD.same st
          replace dC := dC.same st
          replace hB5 := hB5.sm st
          replace d5 := d5.same st
          clear st
          refine cat_dat hu d5 dw (by simp; omega) fun fw G57 st dF => ?_
          replace hu := st _ _ hu
          replace hS := st _ _ hS
          replace hD := hD.same st
          replace dC := dC.same st
          replace hB5 := hB5.sm st
          replace d5 := d5.same st
          clear st
          clear d5 dw
          have okF : StOk m (((1000000000000000000 + k4) :: List.replicate (m - 1) 0) :: rest) 1000000000000000000 := head_ok hm1 ok (by omega) (by decide)
          have hsumF : ((((1000000000000000000 + k4) :: List.replicate (m - 1) 0) :: rest).map List.sum).sum = 1000000000000000000 + k4 + (rest.map List.sum).sum := head_sum
          have hlF : (((1000000000000000000 + k4) :: List.replicate (m - 1) 0) :: rest).length = n := by rw [List.length_cons] at hrl ⊢; exact hrl
          replace dF : Dat G57 p fw (.tuple (rowD ((1000000000000000000 + k4) :: List.replicate (m - 1) 0) :: rest.map rowD ++ [.int 1000000000000000000])) := dF
          clear dC
          generalize (1000000000000000000 + k4) :: List.replicate (m - 1) 0 = hr1 at *
          try dsimp only [List.set]
          refine ⟨_, rfl, 1, rfl, (-1), rfl, sl_dat hu dF (cut_init _ _) fun w9 G58 st d9 => ?_⟩
          replace hu := st _ _ hu
          replace hS := st _ _ hS
          replace hD := hD.same st
          replace hB5 := hB5.sm st
          replace dF := dF.same st
          clear st
          obtain ⟨a9, xs9, rfl, ha9, _, hx9⟩ := d9.isTup
          replace hx9 : Dats G58 p xs9 ((hr1 :: rest).map rowD) := hx9
          have hxl9 : xs9.length = n := by rw [hx9.1, List.length_map]; exact hlF
          refine ⟨a9, rfl, ⟨_, SqT.of ha9⟩, fun R9 hR9 => ?_⟩
          refine lI walk_tup (fun j Gc => Same G58 Gc ∧ Gc R9 = some (.lst ((((hr1 :: rest).take j).map List.sum).map V.int))) ⟨same_new hR9, upd_same⟩ (fun _ _ _ ⟨e, _⟩ => SqT.of (e _ _ ha9)) ?_ ?_
          · rintro j x _ Gc hj ⟨sG, hRG⟩ ⟨rfl, hxi⟩
            have hil : j < (hr1 :: rest).length := by omega
            have hgi : (hr1 :: rest)[j]? = some (hr1 :: rest)[j] := List.getElem?_eq_getElem hil
            obtain ⟨b, rfl, hb, _⟩ := row_parts (hx9.2 j x (rowD (hr1 :: rest)[j]) hxi (by rw [List.getElem?_map, hgi]; rfl))
            have htk : (hr1 :: rest).take (j + 1) = (hr1 :: rest).take j ++ [(hr1 :: rest)[j]] := by rw [List.take_add_one, hgi]; rfl
            generalize (hr1 :: rest)[j] = r at *
            walk_at "op"
            refine ⟨rfl, ?_⟩
            refine iteT ?_
            refine ⟨_, rfl, .inr ⟨b, r, rfl, SqT.of (sG _ _ hb), ?_⟩⟩
            refine ⟨_, hRG, ?_, sameOff sG hR9, ?_⟩
            · rw [List.length_map, List.length_map, List.length_take]
              exact Nat.lt_of_le_of_lt (show _ ≤ 4 by omega) (by rw [sizeLine_eq]; omega)
            · rw [upd_same, htk, List.map_append, List.map_append]
              rfl
          rintro G59 ⟨st, hRG⟩
          replace hu := st _ _ hu
          replace hS := st _ _ hS
          replace hD := hD.same st
          replace hB5 := hB5.sm st
          replace dF := dF.same st
          clear st
          rw [hxl9, ← hlF, List.take_length] at hRG
          refine .inl ⟨R9, _, rfl, SqL.of hRG, ?_⟩
          clear hRG ha9 hx9 hxl9
          try dsimp only [List.set]
          refine ⟨_, rfl, _, rfl, 1, .ref ah, fw, .non, p, p, p, u5, fs, m, n, hr1 :: rest, 1000000000000000000, rfl, hu, hD, hN, dF, hlF, okF, .inr ⟨rfl, fun h60 => by omega, fun h60 t8 H8 hq8 s8 => ?_⟩⟩
          have hBz := hB5.sm s8
          have hfl := many_fit (i := ((hr1 :: rest).map List.sum).sum) (Nat.lt_of_le_of_lt (show _ ≤ 3000000000000000000 by omega) (by decide))
          refine ⟨_, p, _, 1000, 1, rfl, many_dat hBz hq8, hfl, by decide, by decide, ?_⟩
          refine ⟨_, rfl, by show 2 ≤ sizeLine; decide, fun t9 ht9 => ?_⟩
          have s9 := same_new (o := .lst [.str "many", .int ((hr1 :: rest).map List.sum).sum]) ht9
          refine ⟨_, p, _, 1000, 1, rfl, many_dat (hBz.sm s9) upd_same, hfl, by decide, by decide, rfl, false, by rw [decide_eq_true rfl]; rfl, ?_⟩
          rw [if_neg (by decide)]
          exact ⟨s9 _ _ (s8 _ _ hS), _, _, _, _, _, _, _, _, _, _, _, _, _, _, _, _, _, _, _, _, rfl⟩
    · rintro σ G ⟨_, u1, u2, u3, u4, u5, u6, u7, u8, u9, u10, u11, u12, u13, u14, u15, u16, u17, u18, u19, u20, rfl⟩
      walk_at "op"
      exact k G

end
end Fm
end FLAWE
section FFmAll05
set_option Elab.async false
set_option linter.all false
set_option maxRecDepth 100000
set_option maxHeartbeats 4000000
namespace Fm
open PySem PySem.Spec PyProof.Rows L2
theorem df_mk {K : PySem.W.Frag} {mg : Str → Option Value} {h : Heap} {x : Str} {st : Stmt} {ps : List Str} {f : Addr} (X : K.In h) (G : h.Ns mainGlobals mg) {oc : Value} {od an : Option Addr} {osl : Array (Option Value)} {kV doc pm cdv ct : Value}
    (a : PySem.W.nsIn K mainGlobals x = some (some (.ref f))) (l : K.lookup f = some ⟨oc, od, .func (PySem.W.fnOf x x (defArgs st) (defBody st) (defScope st) .none kV doc pm an cdv ct), osl⟩)
    (c : PySem.W.codeIn K cdv x = true) (k : PySem.W.keepIn K (.ref f) = true)
    (b : ∀ (kV doc pm : Value) (an : Option Addr) (cdv ct : Value) (us : List Value), us.length = ps.length → bindArgs (PySem.W.fnOf x x (defArgs st) (defBody st) (defScope st) .none kV doc pm an cdv ct) ⟨us, []⟩ = pure (ps.zip us)) : Df K mg x st ps :=
  ⟨f, _, fun_mk l c k, PySem.W.mg_of X G a, (fun_mk l c k).binds b⟩
abbrev DfOf {K : PySem.W.Frag} {h : Heap} (_ : K.In h) (mg : Str → Option Value) (x : Str) (st : Stmt) (ps : List Str) : Prop := Df K mg x st ps
/-- such a class, as it stands in the written part -/
theorem sup_mk {P : Program} {K : PySem.W.Frag} {mg : Str → Option Value} {C fI cc cda N : Addr} {qual nm q nmF : Str} {params : Arguments} {body : List Stmt} {scope : Scope} {dV kV doc pm ct oc1 oc2 oc3 : Value} {an od1 od2 od3 dd : Option Addr} {osl1 osl2 osl3 : Array (Option Value)} {vs : Array Value} {tkF : Tok}
    {bs bm : List Value} {sn : List Str} {sub : List Value} {ab : Bool} {col : Option Bool} {k0 k1 k2 k3 k5 : Option Value}
    (lCls : K.lookup C = some (excClassObj nm q C N bs bm true sn sub ab col dd k0 k1 k2 k3 k5 "ValueError.__new__")) (hbm : PySem.HandSPX.refsVE bm = true)
    (sa : PySem.W.findIn K (.ref C) "__setattr__" = some (some (.builtin "object.__setattr__"))) (exC : PySem.W.subIn K (.ref C) (.type "BaseException") = some true) (tyC : PySem.W.typeIn K (.ref C) = some (.type "type")) (kC : PySem.W.keepIn K (.ref C) = true)
    (lI : K.lookup fI = some ⟨oc1, od1, .func (PySem.W.fnX "__init__" qual params body scope [("__class__", cc)] dV kV doc pm an (.ref cda) ct), osl1⟩) (cI : PySem.W.codeIn K (.ref cda) qual = true)
    (lF : K.lookup cda = some ⟨oc2, od2, .fields vs, osl2⟩) (hvs : vs[2]? = some (.str nmF tkF)) (hfile : ((P.main.file : Str) == nmF) = true) (lC : K.lookup cc = some ⟨oc3, od3, .cell (some (.ref C)), osl3⟩)
    (sup : PySem.W.ks_superIn K C C "__init__" = some (some (.builtin "ValueError.__init__"))) (sv : PySem.W.subIn K (.ref C) (.type "ValueError") = some true) (sc : PySem.W.mroIn K C (.ref C) = some true) (nsup : mg "super" = none)
    (third : PySem.W.nsIn K cStatics "thirdparty.any" = some none) (top : (P.main.scope.names.lookup ("super" : Str)).isSome = false) :
    SupC P K mg C fI cc cda (PySem.W.fnX "__init__" qual params body scope [("__class__", cc)] dV kV doc pm an (.ref cda) ct) :=
  ⟨⟨⟨nm, q, N, bs, bm, sn, sub, ab, col, dd, k0, k1, k2, k3, k5, lCls, hbm⟩, sa, exC, tyC, kC⟩, ⟨_, _, _, lI⟩, cI, ⟨_, _, _, _, _, _, lF, hvs, hfile⟩, ⟨_, _, _, lC⟩, sup, sv, sc, nsup, third, top⟩
theorem makes_mk {P : Program} {w : World} {K : PySem.W.Frag} {mg : Str → Option Value} {C fI cc cda : Addr} {qual n cn msg : Str} {params : Arguments} {body : List Stmt} {scope : Scope} {dV kV doc pm ct : Value} {an : Option Addr} {ar : Arg} {p0 p1 p2 p3 p4 p5 p6 p7 p8 p9 : Pos} {j : Nat}
    (gm : mg cn = some (.ref C)) (S : SupC P K mg C fI cc cda (PySem.W.fnX "__init__" qual params body scope [("__class__", cc)] dV kV doc pm an (.ref cda) ct)) (iC : PySem.W.findIn K (.ref C) "__init__" = some (some (.ref fI))) (tI : PySem.W.typeIn K (.ref fI) = some (.type "function"))
    (hb : body = [.Expr (.Call (.Attribute (.Call (.Name "super" p0) [] [] p1) "__init__" p2) [.Constant (.str msg) j p3] [] p4) p5, .Assign [.Attribute (.Name "self" p6) n p7] (.Name n p8) p9])
    (NS : NdefX.nscB ["self", n, "__class__"] ["self", n] ["__class__"] scope = true) (hsup : scope.names.lookup ("super" : Str) = some .globalImplicit) (hpar : (params.posonlyargs ++ params.args).head? = some ar) (har : ar.arg = "self")
    (hev : ∀ env : Env, ∃ pl : Sem Bool, eval (.Call (.Attribute (.Call (.Name "super" p0) [] [] p1) "__init__" p2) [.Constant (.str msg) j p3] [] p4) env = (do
      let ov ← attributeBase (.Call (.Name "super" p0) [] [] p1) "__init__" env (eval (.Call (.Name "super" p0) [] [] p1) env)
      standAt p2.atName
      let (f, first) ← holding [ov] (getMethod ov "__init__" pl)
      callWith p4 f first (backTo p4 (starEach [.Constant (.str msg) j p3] env)) []))
    (hbd : ∀ us : List Value, us.length = 2 → bindArgs (PySem.W.fnX "__init__" qual params body scope [("__class__", cc)] dV kV doc pm an (.ref cda) ct) ⟨us, []⟩ = pure ((["self", n] : List Str).zip us))
    (hno : PySem.W.findIn K (.ref C) n = some none) (h1 : (n == ("__debug__" : Str)) = false) (h2 : (n == ("__classdict__" : Str)) = false) (h3 : (cn == ("__debug__" : Str)) = false) : ∀ base, MakesI P w K mg base C cn n := fun base =>
  makes_int h3 S iC tI (fnok_init S hb (NdefX.nscope_by NS) hsup hpar har hev hno h1 h2) hbd gm
theorem law_mk {P : Program} {w : World} {K : PySem.W.Frag} {h : Heap} {mg : Str → Option Value} {fa f : Addr} (X : K.In h) (G : h.Ns mainGlobals mg) (hfa : mg "law" = some (.ref fa)) {oc : Value} {od an : Option Addr} {osl : Array (Option Value)} {kV doc pm cdv ct : Value}
    (a : PySem.W.nsIn K mainGlobals "law" = some (some (.ref f))) (l : K.lookup f = some ⟨oc, od, .func (PySem.W.fnOf "law" "law" (defArgs s_law) (defBody s_law) (defScope s_law) .none kV doc pm an cdv ct), osl⟩)
    (c : PySem.W.codeIn K cdv "law" = true) (k : PySem.W.keepIn K (.ref f) = true) (T : Nms mg) (n_sorted : mg "sorted" = none)
    (Ds_law_bag : Df K mg "_law_bag" s_law_bag ["cell"])
    (Ds_law_pick : Df K mg "_law_pick" s_law_pick ["bag", "many"])
    (Ds_law_table : Df K mg "_law_table" s_law_table ["bag", "m"])
    (Ds_law_up : Df K mg "_law_up" s_law_up ["bag", "m", "stay"])
    (Ds_law_house : Df K mg "_law_house" s_law_house ["bag"])
    (Ds_law_standing : Df K mg "_law_standing" s_law_standing ["bag", "house", "many"])
    (Ds_law_crowd : Df K mg "_law_crowd" s_law_crowd ["standing"])
    (Ds_law_pairs : Df K mg "_law_pairs" s_law_pairs ["crowd"])
    (Ds_law_meet : Df K mg "_law_meet" s_law_meet ["house", "crowd", "floor", "one", "other"])
    (Ds_law_drawn : Df K mg "_law_drawn" s_law_drawn ["bag", "house", "standing"])
    (Ds_law_find : Df K mg "_law_find" s_law_find ["row", "a", "b"])
    (Ds_law_done : Df K mg "_law_done" s_law_done ["house", "crowd", "meeting"])
    (Ds_law_counted : Df K mg "_law_counted" s_law_counted ["m", "crowd"])
    (Ds_law_due : Df K mg "_law_due" s_law_due ["house", "standing", "row"])
    (Ds_law_least : Df K mg "_law_least" s_law_least ["house", "standing"])
    (Ds_is_tuple_of : Df K mg "is_tuple_of" s_is_tuple_of ["thing", "many"])
    (Ds_is_whole : Df K mg "is_whole" s_is_whole ["thing"])
    (Ds_is_up_to : Df K mg "is_up_to" s_is_up_to ["thing", "most"])
    (Ds_are_up_to : Df K mg "are_up_to" s_are_up_to ["thing", "many", "most"])
    (Ds_is_table : Df K mg "is_table" s_is_table ["thing", "m"])
    (Ds_is_house : Df K mg "is_house" s_is_house ["thing"])
    (Ds_size : Df K mg "size" s_size ["house"])
    (Ds_has_form : Df K mg "has_form" s_has_form ["thing", "m", "floors", "most"])
    (Ds_check_standing : Df K mg "check_standing" s_check_standing ["house", "standing"])
    (Ds_can_meet : Df K mg "can_meet" s_can_meet ["standing", "thing"])
    (Ds_met : Df K mg "met" s_met ["house", "standing", "meeting"])
    (Ds_gone : Df K mg "gone" s_gone ["house", "standing", "row"])
    (Ds_run : Df K mg "run" s_run ["house", "standing", "row"])
    (Ds_people_in : Df K mg "people_in" s_people_in ["standing"])
    (Ds_check_few : Df K mg "check_few" s_check_few ["house", "standing", "most"])
    (Ds_coming : Df K mg "coming" s_coming ["standing"])
    (Ds_meetings_left : Df K mg "meetings_left" s_meetings_left ["standing"])
    (Ds_pairs : Df K mg "pairs" s_pairs ["counts"])
    (Ds_least_meeting : Df K mg "least_meeting" s_least_meeting ["standing"])
    (Ds_first_run : Df K mg "first_run" s_first_run ["house", "standing"])
    (Ds_law_told : Df K mg "_law_told" s_law_told ["way", "house", "standing", "row"])
    {tF tN t60 : Tok} (c_MOST_FLOORS : mg "MOST_FLOORS" = some (.int 4 tF)) (c_MOST_NUMBERS : mg "MOST_NUMBERS" = some (.int 6 tN)) (c_MOST_IN_FIRST_RUN : mg "MOST_IN_FIRST_RUN" = some (.int 60 t60)) {Ch M C2h C1 C2 : Addr} (EX : Exn K mg "NoHouse" Ch M) (EX_NoStanding : Exn K mg "NoStanding" C2h M) (g_MeetError : mg "MeetError" = some (.ref M))
    (g_NoMeeting : mg "NoMeeting" = some (.ref C1)) (g_TooMany : mg "TooMany" = some (.ref C2)) (MK1 : ∀ base, MakesI P w K mg base C1 "NoMeeting" "at") (MK2 : ∀ base, MakesI P w K mg base C2 "TooMany" "many")
    (EXc1 : ExcC K C1) (EXc2 : ExcC K C2) (XF1 : XfC K C1) (XF2 : XfC K C2) (hno1 : PySem.W.findIn K (.ref C1) "at" = some none) (hno2 : PySem.W.findIn K (.ref C2) "many" = some none)
    (exm1 : PySem.W.exmOne K (.ref C1) (.ref M) = some true) (exm2 : PySem.W.exmOne K (.ref C2) (.ref M) = some true)
    (z11 : PySem.W.kitOne K (.ref C1) (.ref C1) = some true) (z12 : PySem.W.kitOne K (.ref C1) (.ref C2) = some false) (z21 : PySem.W.kitOne K (.ref C2) (.ref C1) = some false) (z22 : PySem.W.kitOne K (.ref C2) (.ref C2) = some true) :
    ∃ fd : FuncData, (∀ (s : Shared) (u : Value), BindsTo s fd ⟨[u], []⟩ [("script", u)]) ∧ ∀ base : Heap, K.In base → base.Ns mainGlobals mg → RunG P w K mg base 11 fa fd ["script"] (spLaw K) := by
  have e := hfa.symm.trans (PySem.W.mg_of X G a)
  cases e
  refine ⟨PySem.W.fnOf "law" "law" (defArgs s_law) (defBody s_law) (defScope s_law) .none kV doc pm an cdv ct, fun s v => .of_eq rfl, fun base _ _ => ?_⟩
  have c_law_bag := ok_law_bag (P := P) (w := w) (base := base) Ds_law_bag T
  have c_law_pick := ok_law_pick (P := P) (w := w) (base := base) Ds_law_pick T
  have c_law_table := ok_law_table (P := P) (w := w) (base := base) Ds_law_table T c_law_pick
  have c_law_up := ok_law_up (P := P) (w := w) (base := base) Ds_law_up T c_law_pick
  have c_law_house := ok_law_house (P := P) (w := w) (base := base) Ds_law_house T c_law_pick c_law_table c_law_up
  have c_law_standing := ok_law_standing (P := P) (w := w) (base := base) Ds_law_standing T c_law_pick
  have c_law_crowd := ok_law_crowd (P := P) (w := w) (base := base) Ds_law_crowd T
  have c_law_pairs := ok_law_pairs (P := P) (w := w) (base := base) Ds_law_pairs T
  have c_law_meet := ok_law_meet (P := P) (w := w) (base := base) Ds_law_meet T
  have c_law_drawn := ok_law_drawn (P := P) (w := w) (base := base) Ds_law_drawn T c_law_pick c_law_crowd c_law_pairs c_law_meet
  have c_law_find := ok_law_find (P := P) (w := w) (base := base) Ds_law_find T
  have c_law_done := ok_law_done (P := P) (w := w) (base := base) Ds_law_done T c_law_find c_law_meet
  have c_law_counted := ok_law_counted (P := P) (w := w) (base := base) Ds_law_counted T
  have c_law_due := ok_law_due (P := P) (w := w) (base := base) Ds_law_due T c_law_crowd c_law_done c_law_counted
  have c_law_least := ok_law_least (P := P) (w := w) (base := base) Ds_law_least T n_sorted c_law_crowd c_law_pairs c_law_done
  have c_is_tuple_of := ok_is_tuple_of (P := P) (w := w) (base := base) Ds_is_tuple_of T
  have c_is_whole := ok_is_whole (P := P) (w := w) (base := base) Ds_is_whole T
  have c_is_up_to := ok_is_up_to (P := P) (w := w) (base := base) Ds_is_up_to T c_is_whole
  have c_are_up_to := ok_are_up_to (P := P) (w := w) (base := base) Ds_are_up_to T c_is_tuple_of c_is_up_to
  have c_is_table := ok_is_table (P := P) (w := w) (base := base) Ds_is_table T c_is_tuple_of c_are_up_to
  have c_is_house := ok_is_house (P := P) (w := w) (base := base) Ds_is_house T c_MOST_FLOORS c_MOST_NUMBERS c_is_tuple_of c_is_table
  have c_size := ok_size (P := P) (w := w) (base := base) Ds_size T EX c_is_house
  have c_has_form := ok_has_form (P := P) (w := w) (base := base) Ds_has_form T c_is_tuple_of c_is_up_to c_are_up_to
  have c_check_standing := ok_check_standing (P := P) (w := w) (base := base) Ds_check_standing T EX_NoStanding c_size c_has_form
  have c_can_meet := ok_can_meet (P := P) (w := w) (base := base) Ds_can_meet T c_is_tuple_of c_is_up_to
  have c_met := ok_met (P := P) (w := w) (base := base) Ds_met T
  have c_gone := ok_gone (P := P) (w := w) (base := base) Ds_gone T c_can_meet c_met
  have c_run := ok_run (P := P) (w := w) (base := base) Ds_run T (MK1 base) c_check_standing c_gone
  have c_people_in := ok_people_in (P := P) (w := w) (base := base) Ds_people_in T
  have c_check_few := ok_check_few (P := P) (w := w) (base := base) Ds_check_few T (MK2 base) c_check_standing c_people_in
  have c_coming := ok_coming (P := P) (w := w) (base := base) Ds_coming T
  have c_meetings_left := ok_meetings_left (P := P) (w := w) (base := base) Ds_meetings_left T c_coming
  have c_pairs := ok_pairs (P := P) (w := w) (base := base) Ds_pairs T
  have c_least_meeting := ok_least_meeting (P := P) (w := w) (base := base) Ds_least_meeting T c_pairs
  have c_first_run := ok_first_run (P := P) (w := w) (base := base) Ds_first_run T c_MOST_IN_FIRST_RUN c_check_few c_meetings_left c_least_meeting c_met
  have c_law_told := ok_law_told (P := P) (w := w) (base := base) Ds_law_told T EXc1 EXc2 XF1 XF2 hno1 hno2 exm1 exm2 g_MeetError g_NoMeeting g_TooMany z11 z12 z21 z22 c_run c_first_run
  exact ok_law (fun_mk l c k) T c_law_bag c_law_pick c_law_house c_law_standing c_law_drawn c_law_due c_law_least c_law_told
end Fm
end FFmAll05
open PySem PySem.W PyProof.Rows
set_option maxRecDepth 100000 in
set_option maxHeartbeats 0 in
theorem PySem.Challenge.cw_floormeet_k05_runs_holds : PySem.Challenge.rw_floormeet_k05_runs.Holds := by
  w_on; o_law; k_head; (case hw => w_witness2)
  k_fill
  refine Fm.walk_g (l := PySem.Challenge.rw_floormeet_k05_runs) (n := 63) (k := 11) (x := "script") (sp := Fm.spLaw) rfl (by decide) rfl ⟨rfl, by decide, by decide⟩ (fun w h Y => PySem.W.kIn_of Y) ?F ?S
  case S =>
    exact fun K H a ns hl hS _ => ⟨a, ns, rfl, Nat.le_trans (Nat.succ_le_succ hl) (by decide), hS, fun _ => rfl⟩
  case F =>
    intro w mg fa h KX G hmg
    have n_len : mg "len" = none := by
      refine PySem.W.mg_none_of KX G ?z
      (case z => k_is)
    have n_range : mg "range" = none := by
      refine PySem.W.mg_none_of KX G ?z
      (case z => k_is)
    have n_min : mg "min" = none := by
      refine PySem.W.mg_none_of KX G ?z
      (case z => k_is)
    have n_max : mg "max" = none := by
      refine PySem.W.mg_none_of KX G ?z
      (case z => k_is)
    have n_tuple : mg "tuple" = none := by
      refine PySem.W.mg_none_of KX G ?z
      (case z => k_is)
    have n_list : mg "list" = none := by
      refine PySem.W.mg_none_of KX G ?z
      (case z => k_is)
    have n_isinstance : mg "isinstance" = none := by
      refine PySem.W.mg_none_of KX G ?z
      (case z => k_is)
    have n_repr : mg "repr" = none := by
      refine PySem.W.mg_none_of KX G ?z
      (case z => k_is)
    have n_int : mg "int" = none := by
      refine PySem.W.mg_none_of KX G ?z
      (case z => k_is)
    have n_bool : mg "bool" = none := by
      refine PySem.W.mg_none_of KX G ?z
      (case z => k_is)
    have n_sum : mg "sum" = none := by
      refine PySem.W.mg_none_of KX G ?z
      (case z => k_is)
    have n_str : mg "str" = none := by
      refine PySem.W.mg_none_of KX G ?z
      (case z => k_is)
    have n_enumerate : mg "enumerate" = none := by
      refine PySem.W.mg_none_of KX G ?z
      (case z => k_is)
    have n_zip : mg "zip" = none := by
      refine PySem.W.mg_none_of KX G ?z
      (case z => k_is)
    have n_sorted : mg "sorted" = none := by
      refine PySem.W.mg_none_of KX G ?z
      (case z => k_is)
    have n_super : mg "super" = none := by
      refine PySem.W.mg_none_of KX G ?z
      (case z => k_is)
    have T : Fm.Nms mg := ⟨n_len, n_range, n_min, n_max, n_tuple, n_list, n_isinstance, n_repr, n_int, n_bool, n_sum, n_str, n_enumerate, n_zip⟩
    have Ds_law_bag : Fm.DfOf KX mg "_law_bag" Fm.s_law_bag ["cell"] := by
      refine' Fm.df_mk KX G ?a ?l ?c ?k (fun _ _ _ _ _ _ us hl => match us, hl with | [_], _ => rfl)
      (case a => k_is); (case l => k_is); (case c => k_is); (case k => k_is)
    have Ds_law_pick : Fm.DfOf KX mg "_law_pick" Fm.s_law_pick ["bag", "many"] := by
      refine' Fm.df_mk KX G ?a ?l ?c ?k (fun _ _ _ _ _ _ us hl => match us, hl with | [_, _], _ => rfl)
      (case a => k_is); (case l => k_is); (case c => k_is); (case k => k_is)
    have Ds_law_table : Fm.DfOf KX mg "_law_table" Fm.s_law_table ["bag", "m"] := by
      refine' Fm.df_mk KX G ?a ?l ?c ?k (fun _ _ _ _ _ _ us hl => match us, hl with | [_, _], _ => rfl)
      (case a => k_is); (case l => k_is); (case c => k_is); (case k => k_is)
    have Ds_law_up : Fm.DfOf KX mg "_law_up" Fm.s_law_up ["bag", "m", "stay"] := by
      refine' Fm.df_mk KX G ?a ?l ?c ?k (fun _ _ _ _ _ _ us hl => match us, hl with | [_, _, _], _ => rfl)
      (case a => k_is); (case l => k_is); (case c => k_is); (case k => k_is)
    have Ds_law_house : Fm.DfOf KX mg "_law_house" Fm.s_law_house ["bag"] := by
      refine' Fm.df_mk KX G ?a ?l ?c ?k (fun _ _ _ _ _ _ us hl => match us, hl with | [_], _ => rfl)
      (case a => k_is); (case l => k_is); (case c => k_is); (case k => k_is)
    have Ds_law_standing : Fm.DfOf KX mg "_law_standing" Fm.s_law_standing ["bag", "house", "many"] := by
      refine' Fm.df_mk KX G ?a ?l ?c ?k (fun _ _ _ _ _ _ us hl => match us, hl with | [_, _, _], _ => rfl)
      (case a => k_is); (case l => k_is); (case c => k_is); (case k => k_is)
    have Ds_law_crowd : Fm.DfOf KX mg "_law_crowd" Fm.s_law_crowd ["standing"] := by
      refine' Fm.df_mk KX G ?a ?l ?c ?k (fun _ _ _ _ _ _ us hl => match us, hl with | [_], _ => rfl)
      (case a => k_is); (case l => k_is); (case c => k_is); (case k => k_is)
    have Ds_law_pairs : Fm.DfOf KX mg "_law_pairs" Fm.s_law_pairs ["crowd"] := by
      refine' Fm.df_mk KX G ?a ?l ?c ?k (fun _ _ _ _ _ _ us hl => match us, hl with | [_], _ => rfl)
      (case a => k_is); (case l => k_is); (case c => k_is); (case k => k_is)
    have Ds_law_meet : Fm.DfOf KX mg "_law_meet" Fm.s_law_meet ["house", "crowd", "floor", "one", "other"] := by
      refine' Fm.df_mk KX G ?a ?l ?c ?k (fun _ _ _ _ _ _ us hl => match us, hl with | [_, _, _, _, _], _ => rfl)
      (case a => k_is); (case l => k_is); (case c => k_is); (case k => k_is)
    have Ds_law_drawn : Fm.DfOf KX mg "_law_drawn" Fm.s_law_drawn ["bag", "house", "standing"] := by
      refine' Fm.df_mk KX G ?a ?l ?c ?k (fun _ _ _ _ _ _ us hl => match us, hl with | [_, _, _], _ => rfl)
      (case a => k_is); (case l => k_is); (case c => k_is); (case k => k_is)
    have Ds_law_find : Fm.DfOf KX mg "_law_find" Fm.s_law_find ["row", "a", "b"] := by
      refine' Fm.df_mk KX G ?a ?l ?c ?k (fun _ _ _ _ _ _ us hl => match us, hl with | [_, _, _], _ => rfl)
      (case a => k_is); (case l => k_is); (case c => k_is); (case k => k_is)
    have Ds_law_done : Fm.DfOf KX mg "_law_done" Fm.s_law_done ["house", "crowd", "meeting"] := by
      refine' Fm.df_mk KX G ?a ?l ?c ?k (fun _ _ _ _ _ _ us hl => match us, hl with | [_, _, _], _ => rfl)
      (case a => k_is); (case l => k_is); (case c => k_is); (case k => k_is)
    have Ds_law_counted : Fm.DfOf KX mg "_law_counted" Fm.s_law_counted ["m", "crowd"] := by
      refine' Fm.df_mk KX G ?a ?l ?c ?k (fun _ _ _ _ _ _ us hl => match us, hl with | [_, _], _ => rfl)
      (case a => k_is); (case l => k_is); (case c => k_is); (case k => k_is)
    have Ds_law_due : Fm.DfOf KX mg "_law_due" Fm.s_law_due ["house", "standing", "row"] := by
      refine' Fm.df_mk KX G ?a ?l ?c ?k (fun _ _ _ _ _ _ us hl => match us, hl with | [_, _, _], _ => rfl)
      (case a => k_is); (case l => k_is); (case c => k_is); (case k => k_is)
    have Ds_law_least : Fm.DfOf KX mg "_law_least" Fm.s_law_least ["house", "standing"] := by
      refine' Fm.df_mk KX G ?a ?l ?c ?k (fun _ _ _ _ _ _ us hl => match us, hl with | [_, _], _ => rfl)
      (case a => k_is); (case l => k_is); (case c => k_is); (case k => k_is)
    have Ds_is_tuple_of : Fm.DfOf KX mg "is_tuple_of" Fm.s_is_tuple_of ["thing", "many"] := by
      refine' Fm.df_mk KX G ?a ?l ?c ?k (fun _ _ _ _ _ _ us hl => match us, hl with | [_, _], _ => rfl)
      (case a => k_is); (case l => k_is); (case c => k_is); (case k => k_is)
    have Ds_is_whole : Fm.DfOf KX mg "is_whole" Fm.s_is_whole ["thing"] := by
      refine' Fm.df_mk KX G ?a ?l ?c ?k (fun _ _ _ _ _ _ us hl => match us, hl with | [_], _ => rfl)
      (case a => k_is); (case l => k_is); (case c => k_is); (case k => k_is)
    have Ds_is_up_to : Fm.DfOf KX mg "is_up_to" Fm.s_is_up_to ["thing", "most"] := by
      refine' Fm.df_mk KX G ?a ?l ?c ?k (fun _ _ _ _ _ _ us hl => match us, hl with | [_, _], _ => rfl)
      (case a => k_is); (case l => k_is); (case c => k_is); (case k => k_is)
    have Ds_are_up_to : Fm.DfOf KX mg "are_up_to" Fm.s_are_up_to ["thing", "many", "most"] := by
      refine' Fm.df_mk KX G ?a ?l ?c ?k (fun _ _ _ _ _ _ us hl => match us, hl with | [_, _, _], _ => rfl)
      (case a => k_is); (case l => k_is); (case c => k_is); (case k => k_is)
    have Ds_is_table : Fm.DfOf KX mg "is_table" Fm.s_is_table ["thing", "m"] := by
      refine' Fm.df_mk KX G ?a ?l ?c ?k (fun _ _ _ _ _ _ us hl => match us, hl with | [_, _], _ => rfl)
      (case a => k_is); (case l => k_is); (case c => k_is); (case k => k_is)
    have Ds_is_house : Fm.DfOf KX mg "is_house" Fm.s_is_house ["thing"] := by
      refine' Fm.df_mk KX G ?a ?l ?c ?k (fun _ _ _ _ _ _ us hl => match us, hl with | [_], _ => rfl)
      (case a => k_is); (case l => k_is); (case c => k_is); (case k => k_is)
    have Ds_size : Fm.DfOf KX mg "size" Fm.s_size ["house"] := by
      refine' Fm.df_mk KX G ?a ?l ?c ?k (fun _ _ _ _ _ _ us hl => match us, hl with | [_], _ => rfl)
      (case a => k_is); (case l => k_is); (case c => k_is); (case k => k_is)
    have Ds_has_form : Fm.DfOf KX mg "has_form" Fm.s_has_form ["thing", "m", "floors", "most"] := by
      refine' Fm.df_mk KX G ?a ?l ?c ?k (fun _ _ _ _ _ _ us hl => match us, hl with | [_, _, _, _], _ => rfl)
      (case a => k_is); (case l => k_is); (case c => k_is); (case k => k_is)
    have Ds_check_standing : Fm.DfOf KX mg "check_standing" Fm.s_check_standing ["house", "standing"] := by
      refine' Fm.df_mk KX G ?a ?l ?c ?k (fun _ _ _ _ _ _ us hl => match us, hl with | [_, _], _ => rfl)
      (case a => k_is); (case l => k_is); (case c => k_is); (case k => k_is)
    have Ds_can_meet : Fm.DfOf KX mg "can_meet" Fm.s_can_meet ["standing", "thing"] := by
      refine' Fm.df_mk KX G ?a ?l ?c ?k (fun _ _ _ _ _ _ us hl => match us, hl with | [_, _], _ => rfl)
      (case a => k_is); (case l => k_is); (case c => k_is); (case k => k_is)
    have Ds_met : Fm.DfOf KX mg "met" Fm.s_met ["house", "standing", "meeting"] := by
      refine' Fm.df_mk KX G ?a ?l ?c ?k (fun _ _ _ _ _ _ us hl => match us, hl with | [_, _, _], _ => rfl)
      (case a => k_is); (case l => k_is); (case c => k_is); (case k => k_is)
    have Ds_gone : Fm.DfOf KX mg "gone" Fm.s_gone ["house", "standing", "row"] := by
      refine' Fm.df_mk KX G ?a ?l ?c ?k (fun _ _ _ _ _ _ us hl => match us, hl with | [_, _, _], _ => rfl)
      (case a => k_is); (case l => k_is); (case c => k_is); (case k => k_is)
    have Ds_run : Fm.DfOf KX mg "run" Fm.s_run ["house", "standing", "row"] := by
      refine' Fm.df_mk KX G ?a ?l ?c ?k (fun _ _ _ _ _ _ us hl => match us, hl with | [_, _, _], _ => rfl)
      (case a => k_is); (case l => k_is); (case c => k_is); (case k => k_is)
    have Ds_people_in : Fm.DfOf KX mg "people_in" Fm.s_people_in ["standing"] := by
      refine' Fm.df_mk KX G ?a ?l ?c ?k (fun _ _ _ _ _ _ us hl => match us, hl with | [_], _ => rfl)
      (case a => k_is); (case l => k_is); (case c => k_is); (case k => k_is)
    have Ds_check_few : Fm.DfOf KX mg "check_few" Fm.s_check_few ["house", "standing", "most"] := by
      refine' Fm.df_mk KX G ?a ?l ?c ?k (fun _ _ _ _ _ _ us hl => match us, hl with | [_, _, _], _ => rfl)
      (case a => k_is); (case l => k_is); (case c => k_is); (case k => k_is)
    have Ds_coming : Fm.DfOf KX mg "coming" Fm.s_coming ["standing"] := by
      refine' Fm.df_mk KX G ?a ?l ?c ?k (fun _ _ _ _ _ _ us hl => match us, hl with | [_], _ => rfl)
      (case a => k_is); (case l => k_is); (case c => k_is); (case k => k_is)
    have Ds_meetings_left : Fm.DfOf KX mg "meetings_left" Fm.s_meetings_left ["standing"] := by
      refine' Fm.df_mk KX G ?a ?l ?c ?k (fun _ _ _ _ _ _ us hl => match us, hl with | [_], _ => rfl)
      (case a => k_is); (case l => k_is); (case c => k_is); (case k => k_is)
    have Ds_pairs : Fm.DfOf KX mg "pairs" Fm.s_pairs ["counts"] := by
      refine' Fm.df_mk KX G ?a ?l ?c ?k (fun _ _ _ _ _ _ us hl => match us, hl with | [_], _ => rfl)
      (case a => k_is); (case l => k_is); (case c => k_is); (case k => k_is)
    have Ds_least_meeting : Fm.DfOf KX mg "least_meeting" Fm.s_least_meeting ["standing"] := by
      refine' Fm.df_mk KX G ?a ?l ?c ?k (fun _ _ _ _ _ _ us hl => match us, hl with | [_], _ => rfl)
      (case a => k_is); (case l => k_is); (case c => k_is); (case k => k_is)
    have Ds_first_run : Fm.DfOf KX mg "first_run" Fm.s_first_run ["house", "standing"] := by
      refine' Fm.df_mk KX G ?a ?l ?c ?k (fun _ _ _ _ _ _ us hl => match us, hl with | [_, _], _ => rfl)
      (case a => k_is); (case l => k_is); (case c => k_is); (case k => k_is)
    have Ds_law_told : Fm.DfOf KX mg "_law_told" Fm.s_law_told ["way", "house", "standing", "row"] := by
      refine' Fm.df_mk KX G ?a ?l ?c ?k (fun _ _ _ _ _ _ us hl => match us, hl with | [_, _, _, _], _ => rfl)
      (case a => k_is); (case l => k_is); (case c => k_is); (case k => k_is)
    refine' Fm.law_mk KX G hmg ?a ?l ?c ?k T n_sorted Ds_law_bag Ds_law_pick Ds_law_table Ds_law_up Ds_law_house Ds_law_standing Ds_law_crowd Ds_law_pairs Ds_law_meet Ds_law_drawn Ds_law_find Ds_law_done Ds_law_counted Ds_law_due Ds_law_least Ds_is_tuple_of Ds_is_whole Ds_is_up_to Ds_are_up_to Ds_is_table Ds_is_house Ds_size Ds_has_form Ds_check_standing Ds_can_meet Ds_met Ds_gone Ds_run Ds_people_in Ds_check_few Ds_coming Ds_meetings_left Ds_pairs Ds_least_meeting Ds_first_run Ds_law_told (PySem.W.mg_of KX G ?mf) (PySem.W.mg_of KX G ?mn) (PySem.W.mg_of KX G ?mm) ⟨PySem.W.mg_of KX G ?xg, ?xe, ?xk, ?xb, ?xt, ⟨?c1, ?c2, ?c3, ?c4, ?c5, ?c6, ?c7, ?c8⟩, ?xm⟩ ⟨PySem.W.mg_of KX G ?yg, ?ye, ?yk, ?yb, ?yt, ⟨?d1, ?d2, ?d3, ?d4, ?d5, ?d6, ?d7, ?d8⟩, ?ym⟩ (PySem.W.mg_of KX G ?me) (PySem.W.mg_of KX G ?nm) (PySem.W.mg_of KX G ?tm) (Fm.makes_mk (PySem.W.mg_of KX G ?pgm) (Fm.sup_mk ?ps1 ?ps2 ?ps3 ?ps4 ?ps5 ?ps6 ?ps7 ?ps8 ?ps9 ?ps10 ?ps11 ?ps12 ?ps13 ?ps14 ?ps15 n_super ?ps16 ?ps17) ?piC ?ptI ?phb ?pNS ?phsup ?phpar ?phar ?phev ?phbd ?phno (by decide) (by decide) (by decide)) (Fm.makes_mk (PySem.W.mg_of KX G ?qgm) (Fm.sup_mk ?qs1 ?qs2 ?qs3 ?qs4 ?qs5 ?qs6 ?qs7 ?qs8 ?qs9 ?qs10 ?qs11 ?qs12 ?qs13 ?qs14 ?qs15 n_super ?qs16 ?qs17) ?qiC ?qtI ?qhb ?qNS ?qhsup ?qhpar ?qhar ?qhev ?qhbd ?qhno (by decide) (by decide) (by decide)) ⟨?pee1, ?pee2, ?pee3, ?pee4, ?pee5, ?pee6, ?pee7, ?pee8⟩ ⟨?qee1, ?qee2, ?qee3, ?qee4, ?qee5, ?qee6, ?qee7, ?qee8⟩ ⟨?pff1, ?pff2, ?pff3, ?pff4⟩ ⟨?qff1, ?qff2, ?qff3, ?qff4⟩ ?kno1 ?kno2 ?exm1 ?exm2 ?z11 ?z12 ?z21 ?z22
    (case a => k_is); (case l => k_is); (case c => k_is); (case k => k_is)
    (case mf => k_is); (case mn => k_is); (case mm => k_is); (case me => k_is); (case nm => k_is); (case tm => k_is)
    (case xg => k_is); (case xe => k_exc); (case xk => k_is); (case xb => k_is); (case xt => k_is)
    (case c1 => k_is); (case c2 => k_is); (case c3 => k_is); (case c4 => k_is); (case c5 => k_is); (case c6 => k_is); (case c7 => k_is); (case c8 => k_is)
    (case xm => first | rfl | k_is)
    (case yg => k_is); (case ye => k_exc); (case yk => k_is); (case yb => k_is); (case yt => k_is)
    (case d1 => k_is); (case d2 => k_is); (case d3 => k_is); (case d4 => k_is); (case d5 => k_is); (case d6 => k_is); (case d7 => k_is); (case d8 => k_is)
    (case ym => first | rfl | k_is)
    (case pgm => k_is); (case piC => k_is); (case ptI => k_is)
    (case ps1 => first | k_is | rfl)
    (case ps2 => first | rfl | decide +kernel)
    (case ps3 => k_is)
    (case ps4 => k_is)
    (case ps5 => k_is)
    (case ps6 => k_is)
    (case ps7 => k_is)
    (case ps8 => k_is)
    (case ps9 => k_is)
    (case ps10 => rfl)
    (case ps11 => first | rfl | decide +kernel)
    (case ps12 => k_is)
    (case ps13 => first | ks_is | rfl | kernel_rfl)
    (case ps14 => k_is)
    (case ps15 => k_is)
    (case ps16 => k_is)
    (case ps17 => first | rfl | decide +kernel)
    (case phb => rfl); (case pNS => decide +kernel); (case phsup => rfl); (case phpar => rfl); (case phar => rfl); (case phev => exact fun _ => ⟨_, rfl⟩); (case phbd => exact (fun us hl => match us, hl with | [_, _], _ => rfl)); (case phno => k_is)
    (case qgm => k_is); (case qiC => k_is); (case qtI => k_is)
    (case qs1 => first | k_is | rfl)
    (case qs2 => first | rfl | decide +kernel)
    (case qs3 => k_is)
    (case qs4 => k_is)
    (case qs5 => k_is)
    (case qs6 => k_is)
    (case qs7 => k_is)
    (case qs8 => k_is)
    (case qs9 => k_is)
    (case qs10 => rfl)
    (case qs11 => first | rfl | decide +kernel)
    (case qs12 => k_is)
    (case qs13 => first | ks_is | rfl | kernel_rfl)
    (case qs14 => k_is)
    (case qs15 => k_is)
    (case qs16 => k_is)
    (case qs17 => first | rfl | decide +kernel)
    (case qhb => rfl); (case qNS => decide +kernel); (case qhsup => rfl); (case qhpar => rfl); (case qhar => rfl); (case qhev => exact fun _ => ⟨_, rfl⟩); (case qhbd => exact (fun us hl => match us, hl with | [_, _], _ => rfl)); (case qhno => k_is)
    (case pee1 => k_is); (case pee2 => k_is); (case pee3 => k_is); (case pee4 => k_is); (case pee5 => k_is); (case pee6 => k_is); (case pee7 => k_is); (case pee8 => k_is)
    (case pff1 => k_is); (case pff2 => k_is); (case pff3 => k_is); (case pff4 => k_is)
    (case qee1 => k_is); (case qee2 => k_is); (case qee3 => k_is); (case qee4 => k_is); (case qee5 => k_is); (case qee6 => k_is); (case qee7 => k_is); (case qee8 => k_is)
    (case qff1 => k_is); (case qff2 => k_is); (case qff3 => k_is); (case qff4 => k_is)
    (case kno1 => k_is); (case kno2 => k_is); (case exm1 => first | rfl | k_is); (case exm2 => first | rfl | k_is)
    (case z11 => first | rfl | k_is); (case z12 => first | rfl | k_is); (case z21 => first | rfl | k_is); (case z22 => first | rfl | k_is)
