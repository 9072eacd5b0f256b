import PyProof.Rows.All
import Wide.All
import OpenK.AllK
import Wide.FinOn
import HandS.ForMost
import HandS.Wide
import HandS.IsInst
import HandS.TupAny
import HandS.TupMul
import HandS.TryOnly
import HandS.ExcOwn
import HandS.WordsExc
import HandS.RaiseMore
import HandS.Style
import PyProof.ReprRoads
import HandS.ExcValue
import HandS.ExcIs
import HandS.Ends
import PyProof.FactsAll.tuple_2
import KE.KRevSl
import KE.KTupSum
import KE.GoesEnum
import HandS.Zip
import HandS.Walk
import KE.GoesZip
import PyProof.Rows.RuleB_pow
import HandS.Conv
import PyProof.Rows.SeqMore
import HandS.More
import PySem.Challenge.RW_floormeet_k22_who_comes_where
section FFmBase
set_option Elab.async false
set_option maxRecDepth 100000
namespace Fm
open PySem PySem.Spec PyProof.Rows L2
/-- a def of the top, by its name -/
structure Df (K : PySem.W.Frag) (mg : Str → Option Value) (x : Str) (st : Stmt) (ps : List Str) : Prop where
  ex : ∃ f fd, Fun K x x st f fd ∧ mg x = some (.ref f) ∧ Binds K fd ps []
/-- a def that keeps a promise, as whoever calls it wants it -/
def CallOk (P : Program) (w : World) (K : PySem.W.Frag) (mg : Str → Option Value) (base : Heap) (CX : CXT) (k : Nat) (x : Str) (ps : List Str) (sp : Sp) : Prop :=
  ∃ f fd, FnOk P w K mg base CX k f fd ps sp ∧ mg x = some (.ref f) ∧ PySem.W.keepIn K (.ref f) = true ∧ Binds K fd ps []
/-- the built-in names that stand for themselves -/
structure Nms (mg : Str → Option Value) : Prop where
  n_len : mg "len" = none
  n_range : mg "range" = none
  n_min : mg "min" = none
  n_max : mg "max" = none
  n_tuple : mg "tuple" = none
  n_list : mg "list" = none
  n_isinstance : mg "isinstance" = none
  n_repr : mg "repr" = none
  n_int : mg "int" = none
  n_bool : mg "bool" = none
  n_sum : mg "sum" = none
  n_str : mg "str" = none
  n_enumerate : mg "enumerate" = none
  n_zip : mg "zip" = none
section
variable {P : Program} {w : World} {K : PySem.W.Frag} {mg : Str → Option Value} {base : Heap}
theorem df_ok {x : Str} {st : Stmt} {N ps : List Str} {k : Nat} {sp : Sp} (D : Df K mg x st ps) (S : FnScope N ps (defScope st)) (hl : ∀ vs H Q E, sp vs H Q E → vs.length = ps.length)
    (b : ∀ (f : Addr) (cdv : Value) (A : Around) (outer : List Env) (s : Shared) (H : Hp) (vs : List V) (Q : VK) (E : XK), Room k (A.deeper (envOfC x (defScope st) s.heap.objs.size f cdv)) → sp vs H Q E →
      ∃ t, PSs (cxOf CX0 P w K mg base N x (defScope st) f cdv A outer s H E).nox (defBody st) t ∧ t { nx := fun _ H' => Q .non H', rt := Q } (start N vs) H) :
    CallOk P w K mg base CX0 (k + 1) x ps sp := by
  obtain ⟨f, fd, F, hm, hb⟩ := D.ex
  exact ⟨f, fd, F.ok S hl (b f), hm, F.kp, hb⟩
theorem df_okX {x : Str} {st : Stmt} {N ps : List Str} {k : Nat} {sp : Sp} (D : Df K mg x st ps) (S : FnScope N ps (defScope st)) (hl : ∀ vs H Q E, sp vs H Q E → vs.length = ps.length)
    (b : ∀ (f : Addr) (cdv : Value) (A : Around) (outer : List Env) (s : Shared) (H : Hp) (vs : List V) (Q : VK) (E : XK), Room k (A.deeper (envOfC x (defScope st) s.heap.objs.size f cdv)) → sp vs H Q E →
      ∃ t, PSs (cxOf (L2.CX P w) P w K mg base N x (defScope st) f cdv A outer s H E) (defBody st) t ∧ t { nx := fun _ H' => Q .non H', rt := Q } (start N vs) H) :
    CallOk P w K mg base (L2.CX P w) (k + 1) x ps sp := by
  obtain ⟨f, fd, F, hm, hb⟩ := D.ex
  exact ⟨f, fd, F.okX S hl (b f), hm, F.kp, hb⟩
theorem CallOk.mono {CX : CXT} {i k : Nat} {x : Str} {ps : List Str} {sp : Sp} (c : CallOk P w K mg base CX i x ps sp) (h : i ≤ k) : CallOk P w K mg base CX k x ps sp := by
  obtain ⟨f, fd, F, r⟩ := c
  exact ⟨f, fd, F.mono h, r⟩
theorem CallOk.imp {CX : CXT} {k : Nat} {x : Str} {ps : List Str} {sp sq : Sp} (c : CallOk P w K mg base CX k x ps sp) (h : ∀ vs H Q E, sq vs H Q E → sp vs H Q E) : CallOk P w K mg base CX k x ps sq := by
  obtain ⟨f, fd, F, r⟩ := c
  exact ⟨f, fd, F.imp h, r⟩
end
section
variable {X : Cx} {k : Nat} {x : Str} {ps : List Str} {sp : Sp} {p pos : Pos} {e : Expr} {es : List Expr} {t : TA} {E : XK}
theorem pe_cc (c : CallOk X.prog X.w X.K X.mg X.base CX0 k x ps sp) (hr : Room k X.A) (ha : PA X (e :: es) t) (hg : Gl X x := by rfl) (hd : (x == ("__debug__" : Str)) = false := by decide)
    (he : starEach (e :: es) X.env = (false, eval e X.env) :: starEach es X.env := by rfl) (hp : (backTo pos (starEach es X.env)).any (·.1) = false := by rfl) :
    PE X (.Call (.Name x p) (e :: es) [] pos) (tCall sp [] E0 t) := by
  obtain ⟨f, fd, F, hm, hk, hb⟩ := c
  exact pe_call F hr hg hm hk hb .nil pass0 ha hd he hp
/-- of a def that may raise, where it doesn't -/
theorem pe_cx (c : CallOk X.prog X.w X.K X.mg X.base (L2.CX X.prog X.w) k x ps sp) (hr : Room k X.A) (ha : PA X (e :: es) t) (hg : Gl X x := by rfl) (hd : (x == ("__debug__" : Str)) = false := by decide)
    (he : starEach (e :: es) X.env = (false, eval e X.env) :: starEach es X.env := by rfl) (hp : (backTo pos (starEach es X.env)).any (·.1) = false := by rfl) :
    PE X (.Call (.Name x p) (e :: es) [] pos) (tCall sp [] E0 t) := by
  obtain ⟨f, fd, F, hm, hk, hb⟩ := c
  exact pe_call F hr hg hm hk hb .nil passL ha hd he hp
/-- a call that may raise, under a wish -/
theorem pe_cs {W : WX} (c : CallOk X.prog X.w X.K X.mg X.base (L2.CX X.prog X.w) k x ps sp) (tk : Takes X W) (hr : Room k X.A) (ha : PA X (e :: es) t) (hg : Gl X x := by rfl) (hd : (x == ("__debug__" : Str)) = false := by decide)
    (he : starEach (e :: es) X.env = (false, eval e X.env) :: starEach es X.env := by rfl) (hp : (backTo pos (starEach es X.env)).any (·.1) = false := by rfl) :
    PE X (.Call (.Name x p) (e :: es) [] pos) (tCallS sp (fun σ => WE W σ) t) := by
  obtain ⟨f, fd, F, hm, hk, hb⟩ := c
  exact pe_callS F hr hg hm hk hb (fun σ => passAt tk σ) ha hd he hp
end
/-- all that was tracked but p is as it was -/
def Ext (p : Addr) (H H' : Hp) : Prop := ∀ b o, H b = some o → b ≠ p → H' b = some o
theorem Ext.refl (p : Addr) (H : Hp) : Ext p H H := fun _ _ h _ => h
theorem Ext.trans {p : Addr} {H H1 H2 : Hp} (a : Ext p H H1) (b : Ext p H1 H2) : Ext p H H2 := fun c o h n => b c o (a c o h n) n
theorem Same.ext {H H' : Hp} (s : Same H H') (p : Addr) : Ext p H H' := fun b o h _ => s b o h
theorem same_new {H : Hp} {q : Addr} {o : HO} (h : H q = none) : Same H (upd H q o) := fun b u e => by
  rw [upd_ne (ne_of_none e h)]
  exact e
theorem ext_at {H : Hp} {p : Addr} {o : HO} : Ext p H (upd H p o) := fun b u e n => by
  rw [upd_ne n]
  exact e
/-- the bag of draws at p -/
def Bag (H : Hp) (p : Addr) : Prop := ∃ x y c : Int, H p = some (.lst [.int x, .int y, .int c])
def spPick : Sp := fun vs H Q _ => ∃ (p : Addr) (m : Int), vs = [.ref p, .int m] ∧ 0 < m ∧ m.natAbs.log2 < 9000 ∧ Bag H p ∧ ∀ (k : Int) (H' : Hp), 0 ≤ k → k < m → Bag H' p → Ext p H H' → Q (.int k) H'
def spBag : Sp := fun vs H Q _ => ∃ c : Int, vs = [.int c] ∧ ∀ (p : Addr) (H' : Hp), H p = none → Bag H' p → Same H H' → Q (.ref p) H'
end Fm
end FFmBase
section FFmDat
set_option Elab.async false
set_option maxRecDepth 100000
namespace Fm
open PySem PySem.Spec PyProof.Rows L2
/-- the data that a value stands for: tuples, lists, the empty dict, flat things; no list or dict of it stands at p -/
inductive Dat (H : Hp) (p : Addr) : V → PyData → Prop
  | non : Dat H p .non .none
  | bl (b : Bool) : Dat H p (.bl b) (.bool b)
  | int (i : Int) : Dat H p (.int i) (.int i)
  | str (x : Str) : Dat H p (.str x) (.str x)
  | tup {a : Addr} {xs : List V} {ds : List PyData} : H a = some (.tup xs) → a ≠ p → xs.length = ds.length → (∀ (i : Nat) (x : V) (d : PyData), xs[i]? = some x → ds[i]? = some d → Dat H p x d) → Dat H p (.ref a) (.tuple ds)
  | lst {a : Addr} {xs : List V} {ds : List PyData} : H a = some (.lst xs) → a ≠ p → xs.length = ds.length → (∀ (i : Nat) (x : V) (d : PyData), xs[i]? = some x → ds[i]? = some d → Dat H p x d) → Dat H p (.ref a) (.list ds)
  | dct {a : Addr} : H a = some (.dK []) → a ≠ p → Dat H p (.ref a) (.dict [])
theorem Dat.ext {H H' : Hp} {p : Addr} {v : V} {d : PyData} (e : Ext p H H') (h : Dat H p v d) : Dat H' p v d := by
  induction h with
  | non => exact .non
  | bl b => exact .bl b
  | int i => exact .int i
  | str x => exact .str x
  | tup h1 h2 h3 _ ih => exact .tup (e _ _ h1 h2) h2 h3 ih
  | lst h1 h2 h3 _ ih => exact .lst (e _ _ h1 h2) h2 h3 ih
  | dct h1 h2 => exact .dct (e _ _ h1 h2) h2
theorem Dat.same {H H' : Hp} {p : Addr} {v : V} {d : PyData} (e : Same H H') (h : Dat H p v d) : Dat H' p v d := h.ext (Same.ext e p)
/-- rows of data -/
abbrev Dats (H : Hp) (p : Addr) (xs : List V) (ds : List PyData) : Prop := xs.length = ds.length ∧ ∀ (i : Nat) (x : V) (d : PyData), xs[i]? = some x → ds[i]? = some d → Dat H p x d
theorem Dats.ext {H H' : Hp} {p : Addr} {xs : List V} {ds : List PyData} (e : Ext p H H') (h : Dats H p xs ds) : Dats H' p xs ds := ⟨h.1, fun i x d a b => (h.2 i x d a b).ext e⟩
theorem Dats.nil {H : Hp} {p : Addr} : Dats H p [] [] := ⟨rfl, fun _ _ _ a _ => by simp at a⟩
theorem Dats.snoc {H : Hp} {p : Addr} {xs : List V} {ds : List PyData} {v : V} {d : PyData} (h : Dats H p xs ds) (k : Dat H p v d) : Dats H p (xs ++ [v]) (ds ++ [d]) := by
  refine ⟨by simp [h.1], fun i x e a b => ?_⟩
  by_cases hi : i < xs.length
  · rw [List.getElem?_append_left hi] at a
    rw [List.getElem?_append_left (by rw [← h.1]; exact hi)] at b
    exact h.2 i x e a b
  · rw [List.getElem?_append_right (by omega)] at a
    rw [List.getElem?_append_right (by rw [← h.1]; omega)] at b
    rw [h.1] at a
    cases e0 : i - ds.length with
    | zero =>
      rw [e0] at a b
      simp at a b
      subst a b
      exact k
    | succ j =>
      rw [e0] at a
      simp at a
theorem Dats.cons {H : Hp} {p : Addr} {xs : List V} {ds : List PyData} {v : V} {d : PyData} (k : Dat H p v d) (h : Dats H p xs ds) : Dats H p (v :: xs) (d :: ds) := by
  refine ⟨by simp [h.1], fun i x e a b => ?_⟩
  cases i with
  | zero =>
    simp at a b
    subst a b
    exact k
  | succ j =>
    simp at a b
    exact h.2 j x e a b
theorem Dats.ints {H : Hp} {p : Addr} (ns : List Int) : Dats H p (ns.map V.int) (ns.map PyData.int) := by
  refine ⟨by simp, fun i x d a b => ?_⟩
  rw [List.getElem?_map] at a b
  cases e : ns[i]? with
  | none => rw [e] at a; cases a
  | some n =>
    rw [e] at a b
    simp at a b
    subst a b
    exact .int n
theorem Dats.at {H : Hp} {p : Addr} {xs : List V} {ds : List PyData} (h : Dats H p xs ds) {i : Nat} {x : V} (e : xs[i]? = some x) : ∃ d, ds[i]? = some d ∧ Dat H p x d := by
  have hi : i < xs.length := (List.getElem?_eq_some_iff.mp e).1
  have hj : i < ds.length := by rw [← h.1]; exact hi
  exact ⟨ds[i], List.getElem?_eq_getElem hj, h.2 i x _ e (List.getElem?_eq_getElem hj)⟩
theorem Dats.back {H : Hp} {p : Addr} {xs : List V} {ds : List PyData} (h : Dats H p xs ds) {i : Nat} {d : PyData} (e : ds[i]? = some d) : ∃ x, xs[i]? = some x ∧ Dat H p x d := by
  have hi : i < ds.length := (List.getElem?_eq_some_iff.mp e).1
  have hj : i < xs.length := by rw [h.1]; exact hi
  exact ⟨xs[i], List.getElem?_eq_getElem hj, h.2 i _ d (List.getElem?_eq_getElem hj) e⟩
/-- a new tuple of data -/
theorem Dat.new {H : Hp} {p q : Addr} {xs : List V} {ds : List PyData} (hq : H q = none) (hp : q ≠ p) (h : Dats H p xs ds) : Dat (upd H q (.tup xs)) p (.ref q) (.tuple ds) :=
  .tup upd_same hp h.1 fun i x d a b => (h.2 i x d a b).same (same_new hq)
theorem Dat.newL {H : Hp} {p q : Addr} {xs : List V} {ds : List PyData} (hq : H q = none) (hp : q ≠ p) (h : Dats H p xs ds) : Dat (upd H q (.lst xs)) p (.ref q) (.list ds) :=
  .lst upd_same hp h.1 fun i x d a b => (h.2 i x d a b).same (same_new hq)
theorem Dat.isTup {H : Hp} {p : Addr} {v : V} {ds : List PyData} (h : Dat H p v (.tuple ds)) : ∃ a xs, v = .ref a ∧ H a = some (.tup xs) ∧ a ≠ p ∧ Dats H p xs ds := by
  cases h with
  | tup h1 h2 h3 h4 => exact ⟨_, _, rfl, h1, h2, h3, h4⟩
theorem Dat.isInt {H : Hp} {p : Addr} {v : V} {i : Int} (h : Dat H p v (.int i)) : v = .int i := by
  cases h with
  | int i => rfl
/-! ### types -/
def tyName : PyData → String
  | .none => "NoneType"
  | .bool _ => "bool"
  | .int _ => "int"
  | .str _ => "str"
  | .list _ => "list"
  | .tuple _ => "tuple"
  | .dict _ => "dict"
theorem Dat.ty {K : PySem.W.Frag} {H : Hp} {p : Addr} {v : V} {d : PyData} (h : Dat H p v d) : TyX K H v (.type (tyName d)) := by
  cases h with
  | non => exact .base .non
  | bl b => exact .base (.bl b)
  | int i => exact .base (.int i)
  | str x => exact .base (.str x)
  | tup h1 => exact .base (.tup h1)
  | lst h1 => exact .base (.lst h1)
  | dct h1 => exact .base (.dK h1)
def isI : PyData → Bool
  | .int _ => true
  | .bool _ => true
  | _ => false
def isB : PyData → Bool
  | .bool _ => true
  | _ => false
def isTu : PyData → Bool
  | .tuple _ => true
  | _ => false
theorem kit_int : ∀ d : PyData, kitB (tyName d) "int" = some (isI d)
  | .none => (by decide +kernel : kitB "NoneType" "int" = some false)
  | .bool _ => (by decide +kernel : kitB "bool" "int" = some true)
  | .int _ => (by decide +kernel : kitB "int" "int" = some true)
  | .str _ => (by decide +kernel : kitB "str" "int" = some false)
  | .list _ => (by decide +kernel : kitB "list" "int" = some false)
  | .tuple _ => (by decide +kernel : kitB "tuple" "int" = some false)
  | .dict _ => (by decide +kernel : kitB "dict" "int" = some false)
theorem kit_bool : ∀ d : PyData, kitB (tyName d) "bool" = some (isB d)
  | .none => (by decide +kernel : kitB "NoneType" "bool" = some false)
  | .bool _ => (by decide +kernel : kitB "bool" "bool" = some true)
  | .int _ => (by decide +kernel : kitB "int" "bool" = some false)
  | .str _ => (by decide +kernel : kitB "str" "bool" = some false)
  | .list _ => (by decide +kernel : kitB "list" "bool" = some false)
  | .tuple _ => (by decide +kernel : kitB "tuple" "bool" = some false)
  | .dict _ => (by decide +kernel : kitB "dict" "bool" = some false)
theorem kit_tuple : ∀ d : PyData, kitB (tyName d) "tuple" = some (isTu d)
  | .none => (by decide +kernel : kitB "NoneType" "tuple" = some false)
  | .bool _ => (by decide +kernel : kitB "bool" "tuple" = some false)
  | .int _ => (by decide +kernel : kitB "int" "tuple" = some false)
  | .str _ => (by decide +kernel : kitB "str" "tuple" = some false)
  | .list _ => (by decide +kernel : kitB "list" "tuple" = some false)
  | .tuple _ => (by decide +kernel : kitB "tuple" "tuple" = some true)
  | .dict _ => (by decide +kernel : kitB "dict" "tuple" = some false)
theorem isTu_iff {d : PyData} : isTu d = true ↔ ∃ ds, d = .tuple ds := by
  cases d <;> simp [isTu]
/-! ### texts -/
def noList : PyData → Bool
  | .list _ => false
  | .tuple xs => xs.attach.all fun ⟨x, _⟩ => noList x
  | _ => true
theorem noList_tup {ds : List PyData} (h : noList (.tuple ds) = true) : ∀ d ∈ ds, noList d = true := by
  intro d hd
  unfold noList at h
  rw [List.all_eq_true] at h
  exact h ⟨d, hd⟩ (List.mem_attach _ _)
theorem noList_of {ds : List PyData} (h : ∀ d ∈ ds, noList d = true) : noList (.tuple ds) = true := by
  unfold noList
  rw [List.all_eq_true]
  exact fun ⟨d, hd⟩ _ => h d hd
theorem readsAll_of {h : Heap} : ∀ {xs : List V} {us : List Value} {ds : List PyData}, Vals xs us → xs.length = ds.length →
    (∀ (i : Nat) (x : V) (d : PyData), xs[i]? = some x → ds[i]? = some d → ∀ u, RelV x u → ∃ as, Reads h u d as ∧ (noList d = true → sysModules ∉ as)) →
    ∃ as, ReadsAll h us ds as ∧ ((∀ d ∈ ds, noList d = true) → sysModules ∉ as)
  | [], _, ds, r, hl, _ => by
    cases r
    cases ds with
    | nil => exact ⟨[], .nil, fun _ => by simp⟩
    | cons d r => simp at hl
  | x :: xs, _, ds, r, hl, hr => by
    cases r with
    | cons r1 r2 =>
      cases ds with
      | nil => simp at hl
      | cons d ds =>
        obtain ⟨a1, h1, n1⟩ := hr 0 x d rfl rfl _ r1
        obtain ⟨a2, h2, n2⟩ := readsAll_of r2 (by simpa using hl) fun i y e q1 q2 => hr (i + 1) y e (by simpa using q1) (by simpa using q2)
        exact ⟨a1 ++ a2, .cons h1 h2, fun hn hm => by
          rcases List.mem_append.mp hm with hm | hm
          · exact n1 (hn d List.mem_cons_self) hm
          · exact n2 (fun e he => hn e (List.mem_cons_of_mem _ he)) hm⟩
theorem Dat.reads {X : Cx} {pins : List (Addr × Obj)} {σ : L2.St} {H : Hp} {s : Shared} {p : Addr} {v : V} {d : PyData} (I : Inv X pins σ H s) (h : Dat H p v d) :
    ∀ u, RelV v u → ∃ as, Reads s.heap u d as ∧ (noList d = true → sysModules ∉ as) := by
  induction h with
  | non => intro u r; cases r; exact ⟨[], .none, fun _ => by simp⟩
  | bl b => intro u r; cases r; exact ⟨[], .bool b, fun _ => by simp⟩
  | int i => intro u r; obtain ⟨t, rfl⟩ := r; exact ⟨[], .int i t, fun _ => by simp⟩
  | str x => intro u r; obtain ⟨t, rfl⟩ := r; exact ⟨[], .str x t, fun _ => by simp⟩
  | tup h1 h2 h3 _ ih =>
    intro u r
    cases r
    obtain ⟨its, rv, ⟨o, e, hc, n, hd⟩, _⟩ := I.tuple (SqT.of h1)
    obtain ⟨as, ha, hn⟩ := readsAll_of rv h3 ih
    exact ⟨as, .tuple e hc hd (by simpa using ha), fun z => hn (noList_tup z)⟩
  | lst h1 h2 h3 _ ih =>
    intro u r
    cases r
    obtain ⟨its, rv, ⟨o, n, e, hc, _, hd⟩, _⟩ := I.list (SqL.of h1)
    obtain ⟨as, ha, hn⟩ := readsAll_of rv h3 ih
    exact ⟨_, .list e hc hd (by simpa using ha), fun z => by unfold noList at z; cases z⟩
  | @dct a h1 h2 =>
    intro u r
    cases r
    obtain ⟨_, hs, vs, kv, o, es, ep, e, hx, hd, he⟩ := (show ObjOk X.prog X.w H s.heap a (.dK []) from I.hok a _ h1)
    cases kv
    have e0 : es.toList = [] := by
      have q := he.2.1
      cases z : es.toList with
      | nil => rfl
      | cons x r =>
        rw [z] at q
        exact absurd q (by intro w; cases w)
    refine ⟨_, .dict (as := []) (bs := []) e hx.1 hd (by rw [e0]; exact .nil) (by rw [e0]; exact .nil), fun _ hm => ?_⟩
    simp at hm
    rw [hm] at hs
    simp at hs
/-- a bound of what is shown -/
structure Fit (n k : Nat) (d : PyData) : Prop where
  len : d.shown.length ≤ n
  dep : d.depth ≤ k
  sh : d.showable = true
  ok : d.hasDict = false ∨ noList d = true
theorem fit_int {i : Int} (h : i.natAbs < 10 ^ 40) : Fit 41 0 (.int i) := by
  refine ⟨?_, ?_, ?_, ?_⟩
  · have q := int_text_length_le10 (a := i) (k := 40) (by decide) h
    simp only [PyData.shown]
    show (Str.ofString (toString i)).length ≤ 41
    rw [PySem.ofString_length]
    omega
  · simp only [PyData.depth]; omega
  · simp only [PyData.showable]
    have l : i.natAbs < 2 ^ 133 := Nat.lt_of_lt_of_le h (by decide)
    have l2 := PySem.Flt.log2_lt_of (by decide : 0 < 133) l
    exact decide_eq_true (by omega)
  · exact .inl (by simp only [PyData.hasDict])
theorem fit_bool (b : Bool) : Fit 5 0 (.bool b) := by
  refine ⟨?_, ?_, ?_, ?_⟩
  · simp only [PyData.shown]
    cases b <;> decide
  · simp only [PyData.depth]; omega
  · simp only [PyData.showable]
  · exact .inl (by simp only [PyData.hasDict])
theorem fit_none : Fit 5 0 .none := by
  refine ⟨?_, ?_, ?_, ?_⟩
  · simp only [PyData.shown]
    decide
  · simp only [PyData.depth]; omega
  · simp only [PyData.showable]
  · exact .inl (by simp only [PyData.hasDict])
theorem fit_str {x : Str} (h : (reprText x).length ≤ 41) : Fit 41 0 (.str x) := by
  refine ⟨?_, ?_, ?_, ?_⟩
  · simpa only [PyData.shown] using h
  · simp only [PyData.depth]; omega
  · simp only [PyData.showable]
  · exact .inl (by simp only [PyData.hasDict])
theorem Fit.mono {n k n' k' : Nat} {d : PyData} (F : Fit n k d) (h : n ≤ n') (h' : k ≤ k') : Fit n' k' d := ⟨Nat.le_trans F.len h, Nat.le_trans F.dep h', F.sh, F.ok⟩
theorem all_fit {n k : Nat} : ∀ {ds : List PyData}, (∀ d ∈ ds, Fit n k d) → piled (PyData.shownAll ds) ≤ (n + 2) * ds.length ∧ PyData.depthAll ds ≤ k ∧ PyData.showableAll ds = true ∧ (PyData.shownAll ds).length = ds.length
  | [], _ => by simp [PyData.shownAll, PyData.depthAll, PyData.showableAll, piled]
  | d :: r, h => by
    obtain ⟨h1, h2, h3, h4⟩ := all_fit fun e he => h e (List.mem_cons_of_mem _ he)
    have F := h d List.mem_cons_self
    have l := F.len
    have e := F.dep
    refine ⟨?_, ?_, ?_, ?_⟩
    · simp only [PyData.shownAll, piled_cons, List.length_cons]
      rw [Nat.mul_add]
      omega
    · simp only [PyData.depthAll]
      omega
    · simp only [PyData.showableAll, F.sh, h3, Bool.and_self]
    · simp only [PyData.shownAll, List.length_cons, h4]
theorem hasDict_all : ∀ {ds : List PyData}, (∀ d ∈ ds, d.hasDict = false) → PyData.hasDictAll ds = false
  | [], _ => by simp only [PyData.hasDictAll]
  | d :: r, h => by
    simp only [PyData.hasDictAll, h d List.mem_cons_self, hasDict_all fun e he => h e (List.mem_cons_of_mem _ he), Bool.or_self]
theorem tupleText_len (ts : List Str) : (tupleText ts).length ≤ piled ts + 3 := by
  unfold tupleText
  rw [strLen_append, strLen_append]
  have e : (Str.ofString (if ts.length == 1 then ",)" else ")" : String)).length ≤ 2 := by split <;> decide
  have e1 : ("(" : Str).length = 1 := rfl
  by_cases h : ts = []
  · subst h
    have : (Str.join ", " []).length = 0 := rfl
    omega
  · have := join_length_add ts h
    omega
theorem listText_len (ts : List Str) : (listText ts).length ≤ piled ts + 3 := by
  cases ts with
  | nil => decide
  | cons t r =>
    have h := textFrom_length_pos r 1 (("[" : Str) ++ (if (0 : Nat) > 0 then ", " else "" : String) ++ t) (Nat.succ_pos 0)
    have e : (("[" : Str) ++ (if (0 : Nat) > 0 then ", " else "" : String) ++ t).length = 1 + t.length := by rw [strLen_append, strLen_append]; rfl
    show (textFrom 1 (("[" : Str) ++ (if (0 : Nat) > 0 then ", " else "" : String) ++ t) r ++ "]").length ≤ _
    rw [strLen_append, h, e, piled_cons]
    have e2 : ("]" : Str).length = 1 := rfl
    omega
theorem fit_tup {n k : Nat} {ds : List PyData} (h : ∀ d ∈ ds, Fit n k d) (hn : ∀ d ∈ ds, noList d = true) : Fit ((n + 2) * ds.length + 3) (k + 1) (.tuple ds) := by
  obtain ⟨h1, h2, h3, h4⟩ := all_fit h
  refine ⟨?_, ?_, ?_, ?_⟩
  · simp only [PyData.shown]
    exact Nat.le_trans (tupleText_len _) (by omega)
  · simp only [PyData.depth]; omega
  · simpa only [PyData.showable] using h3
  · exact .inr (noList_of hn)
/-- tuples and lists without a dict -/
theorem fit_tupD {n k : Nat} {ds : List PyData} (h : ∀ d ∈ ds, Fit n k d) (hn : ∀ d ∈ ds, d.hasDict = false) : Fit ((n + 2) * ds.length + 3) (k + 1) (.tuple ds) := by
  obtain ⟨h1, h2, h3, h4⟩ := all_fit h
  refine ⟨?_, ?_, ?_, ?_⟩
  · simp only [PyData.shown]
    exact Nat.le_trans (tupleText_len _) (by omega)
  · simp only [PyData.depth]; omega
  · simpa only [PyData.showable] using h3
  · exact .inl (by simp only [PyData.hasDict]; exact hasDict_all hn)
theorem fit_lst {n k : Nat} {ds : List PyData} (h : ∀ d ∈ ds, Fit n k d) (hn : ∀ d ∈ ds, d.hasDict = false) : Fit ((n + 2) * ds.length + 3) (k + 1) (.list ds) := by
  obtain ⟨h1, h2, h3, h4⟩ := all_fit h
  refine ⟨?_, ?_, ?_, ?_⟩
  · simp only [PyData.shown]
    exact Nat.le_trans (listText_len _) (by omega)
  · simp only [PyData.depth]; omega
  · simpa only [PyData.showable] using h3
  · exact .inl (by simp only [PyData.hasDict]; exact hasDict_all hn)
theorem call_repr {X : Cx} (hg : X.A.guards = some []) (hu : X.A.units + 64 < cLine) : CallR X (.builtin "repr") (fun xs H Q => ∃ (v : V) (p : Addr) (d : PyData) (n k : Nat), xs = [v] ∧ Dat H p v d ∧ Fit n k d ∧ n ≤ sizeLine ∧ k ≤ 60 ∧ Q (.str d.shown) H) := by
  intro pins s σ H xs us Q I r h
  obtain ⟨v, p, d, n, k, rfl, hd, F, hn, hk, q⟩ := h
  obtain ⟨u, rfl, ru⟩ := vals1 r
  obtain ⟨as, R, hm⟩ := hd.reads I u ru
  have hz : d.shown.length ≤ sizeLine := Nat.le_trans F.len hn
  have fin : ∀ tk t, EP X pins σ Q (.str d.shown t) { s with toks := tk } := fun tk t => ⟨.str d.shown, H, I.tok tk, ⟨t, rfl⟩, q⟩
  cases hd with
  | non => cases ru; exact PySem.P.repr_of_none (by simpa only [PyData.shown] using fin _ _)
  | bl b => cases ru; exact PySem.P.repr_of_bool (by simpa only [PyData.shown] using fin _ _)
  | int i => obtain ⟨t, rfl⟩ := ru; exact PySem.P.repr_of_int (by simpa only [PyData.showable, decide_eq_true_eq] using F.sh) (by simpa only [PyData.shown] using fin _ _)
  | str x => obtain ⟨t, rfl⟩ := ru; exact PySem.P.repr_of_str (by simpa only [PyData.shown] using fin _ _) (by simpa only [PyData.shown] using hz)
  | tup h1 h2 h3 h4 =>
    cases ru
    exact repr_of_reads' R F.sh (fun hd => hm (F.ok.resolve_left (by rw [hd]; exact Bool.noConfusion))) hg (by have := F.dep; omega) (fun _ _ e => e) (fun h' u tk hk' => ⟨.str _, H, I.kept (t' := tk) hk', ⟨u, rfl⟩, q⟩) hz
  | lst h1 h2 h3 h4 =>
    cases ru
    exact repr_of_reads' R F.sh (fun hd => hm (F.ok.resolve_left (by rw [hd]; exact Bool.noConfusion))) hg (by have := F.dep; omega) (fun _ _ e => e) (fun h' u tk hk' => ⟨.str _, H, I.kept (t' := tk) hk', ⟨u, rfl⟩, q⟩) hz
  | dct h1 h2 =>
    cases ru
    exact repr_of_reads' R F.sh (fun hd => hm (F.ok.resolve_left (by rw [hd]; exact Bool.noConfusion))) hg (by have := F.dep; omega) (fun _ _ e => e) (fun h' u tk hk' => ⟨.str _, H, I.kept (t' := tk) hk', ⟨u, rfl⟩, q⟩) hz
end Fm
end FFmDat
section FFmLoop
set_option Elab.async false
set_option maxRecDepth 100000
namespace Fm
open PySem PySem.Spec PyProof.Rows L2
/-- a loop over what J yields -/
def ForB (J : It) (g : TG) (tb : TS) (D : Ends) (σ : L2.St) (H : Hp) : Prop := ∃ W : Nat → Nat → L2.St → Hp → Prop, (∃ m, W 0 m σ H) ∧ ∀ i m σ H, W i m σ H →
  (J.stop i H ∧ D.nx σ H) ∨ (J.go i H ∧ ∃ N : L2.St → Hp → Prop, (∀ σ' H', N σ' H' → ∃ m', m' < m ∧ W (i + 1) m' σ' H') ∧ ∀ x H', J.yld i H x H' → g x σ H' fun σ2 H2 => tb { D with nx := N, ct := N, bk := D.nx } σ2 H2)
theorem tFor_eq {wi : TI} {g : TG} {tb : TS} {D : Ends} {σ : L2.St} {H : Hp} : tFor wi g tb D σ H = wi σ H fun J H1 => ForB J g tb D σ H1 := rfl
/-- a comprehension over what J yields, its list at D -/
def LcB (J : It) (g : TG) (tt : TT) (te : TE) (vs : List Nat) (σ : L2.St) (H1 : Hp) (D : Addr) (Qd : Hp → Prop) : Prop := ∃ W : Nat → Nat → Hp → Prop, (∃ m, W 0 m (upd H1 D (.lst []))) ∧ ∀ i m H, W i m H →
  (J.stop i H ∧ Qd H) ∨ (J.go i H ∧ ∃ Nx : Hp → Prop, (∀ H', Nx H' → ∃ m', m' < m ∧ W (i + 1) m' H') ∧ ∀ x H', J.yld i H x H' → g x (wipe σ vs) H' fun σ2 H2 => wipe σ2 vs = wipe σ vs ∧ tt σ2 H2 fun b H3 =>
    if b = true then te σ2 H3 fun y H4 => ∃ acc, H4 D = some (.lst acc) ∧ acc.length < sizeLine ∧ Nx (upd H4 D (.lst (acc ++ [y]))) else Nx H3)
theorem tLc_eq {wi : TI} {g : TG} {tt : TT} {te : TE} {vs : List Nat} {σ : L2.St} {H : Hp} {Q : VK} : tLc wi g tt te vs σ H Q = wi σ H fun J H1 => ∀ A, H1 A = none → LcB J g tt te vs σ H1 A (fun H => Q (.ref A) H) := rfl
section
variable {K : PySem.W.Frag} {a : Addr} {xs : List V} {g : TG} {tb : TS} {D : Ends} {σ : L2.St} {H : Hp}
theorem fT (Pv : Nat → L2.St → Hp → Prop) (h0 : Pv 0 σ H) (hl : ∀ i σ H, i ≤ xs.length → Pv i σ H → SqT K H a xs)
    (hs : ∀ i x σ H, xs[i]? = some x → Pv i σ H → g x σ H fun σ2 H2 => tb { D with nx := Pv (i + 1), ct := Pv (i + 1), bk := D.nx } σ2 H2) (hd : ∀ σ H, Pv xs.length σ H → D.nx σ H) : ForB (Itt K a) g tb D σ H := for_tup Pv h0 hl hs hd
theorem fL (Pv : Nat → L2.St → Hp → Prop) (h0 : Pv 0 σ H) (hl : ∀ i σ H, i ≤ xs.length → Pv i σ H → SqL K H a xs)
    (hs : ∀ i x σ H, xs[i]? = some x → Pv i σ H → g x σ H fun σ2 H2 => tb { D with nx := Pv (i + 1), ct := Pv (i + 1), bk := D.nx } σ2 H2) (hd : ∀ σ H, Pv xs.length σ H → D.nx σ H) : ForB (Itl K a) g tb D σ H := for_list Pv h0 hl hs hd
theorem fR {lo : Int} {n : Nat} (Pv : Nat → L2.St → Hp → Prop) (h0 : Pv 0 σ H)
    (hs : ∀ i σ H, i < n → Pv i σ H → g (.int (lo + i)) σ H fun σ2 H2 => tb { D with nx := Pv (i + 1), ct := Pv (i + 1), bk := D.nx } σ2 H2) (hd : ∀ σ H, Pv n σ H → D.nx σ H) : ForB (Itr lo n) g tb D σ H := for_range Pv h0 hs hd
end
section
variable {K : PySem.W.Frag} {a : Addr} {xs : List V} {g : TG} {tt : TT} {te : TE} {vs : List Nat} {σ : L2.St} {H1 : Hp} {D : Addr} {Qd : Hp → Prop}
theorem lR {lo : Int} {n : Nat} (Pv : Nat → Hp → Prop) (h0 : Pv 0 (upd H1 D (.lst [])))
    (hs : ∀ i H, i < n → Pv i H → g (.int (lo + i)) (wipe σ vs) H fun σ2 H2 => wipe σ2 vs = wipe σ vs ∧ tt σ2 H2 fun b H3 =>
      if b = true then te σ2 H3 fun y H4 => ∃ acc, H4 D = some (.lst acc) ∧ acc.length < sizeLine ∧ Pv (i + 1) (upd H4 D (.lst (acc ++ [y]))) else Pv (i + 1) H3) (hd : ∀ H, Pv n H → Qd H) : LcB (Itr lo n) g tt te vs σ H1 D Qd := lc_range Pv h0 hs hd
theorem lL (Pv : Nat → Hp → Prop) (h0 : Pv 0 (upd H1 D (.lst []))) (hl : ∀ i H, i ≤ xs.length → Pv i H → SqL K H a xs)
    (hs : ∀ i x H, xs[i]? = some x → Pv i H → g x (wipe σ vs) H fun σ2 H2 => wipe σ2 vs = wipe σ vs ∧ tt σ2 H2 fun b H3 =>
      if b = true then te σ2 H3 fun y H4 => ∃ acc, H4 D = some (.lst acc) ∧ acc.length < sizeLine ∧ Pv (i + 1) (upd H4 D (.lst (acc ++ [y]))) else Pv (i + 1) H3) (hd : ∀ H, Pv xs.length H → Qd H) : LcB (Itl K a) g tt te vs σ H1 D Qd := lc_list Pv h0 hl hs hd
theorem lT (Pv : Nat → Hp → Prop) (h0 : Pv 0 (upd H1 D (.lst []))) (hl : ∀ i H, i ≤ xs.length → Pv i H → SqT K H a xs)
    (hs : ∀ i x H, xs[i]? = some x → Pv i H → g x (wipe σ vs) H fun σ2 H2 => wipe σ2 vs = wipe σ vs ∧ tt σ2 H2 fun b H3 =>
      if b = true then te σ2 H3 fun y H4 => ∃ acc, H4 D = some (.lst acc) ∧ acc.length < sizeLine ∧ Pv (i + 1) (upd H4 D (.lst (acc ++ [y]))) else Pv (i + 1) H3) (hd : ∀ H, Pv xs.length H → Qd H) : LcB (Itt K a) g tt te vs σ H1 D Qd := lc_tup Pv h0 hl hs hd
end
/-! ### what a house is, as data -/
def UpTo (mv : V) (d : PyData) : Prop := ∃ i : Int, d = .int i ∧ 0 ≤ i ∧ ∀ M, mv = .int M → i ≤ M
def RowD (m : Nat) (d : PyData) : Prop := ∃ ds, d = .tuple ds ∧ ds.length = m ∧ ∀ e ∈ ds, ∃ i : Int, e = .int i ∧ 0 ≤ i ∧ i < m
def cellD (rs : List PyData) (a b : Nat) : PyData := match rs[a]? with
  | some (.tuple r) => r[b]?.getD .none
  | _ => .none
def TabD (m : Nat) (d : PyData) : Prop := ∃ rs, d = .tuple rs ∧ rs.length = m ∧ (∀ r ∈ rs, RowD m r) ∧ ∀ a b, a < m → b < m → cellD rs a b = cellD rs b a
def FloorD (m : Nat) (d : PyData) : Prop := ∃ s u, d = .tuple [s, u] ∧ TabD m s ∧ TabD m u
def HouseN (m n : Nat) (d : PyData) : Prop := ∃ fs, d = .tuple fs ∧ fs.length = n ∧ 1 ≤ n ∧ n ≤ 4 ∧ 1 ≤ m ∧ m ≤ 6 ∧ ∀ f ∈ fs, FloorD m f
def HouseD (d : PyData) : Prop := ∃ m n, HouseN m n d
/-! ### promises of the program's looks -/
def spWhole : Sp := fun vs H Q _ => ∃ (v : V) (p : Addr) (d : PyData), vs = [v] ∧ Dat H p v d ∧ ∀ b : Bool, (b = true ↔ ∃ i, d = .int i) → Q (.bl b) H
def spUpTo : Sp := fun vs H Q _ => ∃ (v mv : V) (p : Addr) (d : PyData), vs = [v, mv] ∧ Dat H p v d ∧ (mv = .non ∨ ∃ M, mv = .int M) ∧ ∀ b : Bool, (b = true ↔ UpTo mv d) → Q (.bl b) H
def spTupOf : Sp := fun vs H Q _ => ∃ (v : V) (n : Int) (p : Addr) (d : PyData), vs = [v, .int n] ∧ Dat H p v d ∧ ∀ b : Bool, (b = true ↔ ∃ ds, d = .tuple ds ∧ (ds.length : Int) = n) → Q (.bl b) H
def spAre : Sp := fun vs H Q _ => ∃ (v mv : V) (n : Int) (p : Addr) (d : PyData), vs = [v, .int n, mv] ∧ Dat H p v d ∧ (mv = .non ∨ ∃ M, mv = .int M) ∧
  ∀ b : Bool, (b = true ↔ ∃ ds, d = .tuple ds ∧ (ds.length : Int) = n ∧ ∀ e ∈ ds, UpTo mv e) → Q (.bl b) H
def spTable : Sp := fun vs H Q _ => ∃ (v : V) (m : Nat) (p : Addr) (d : PyData), vs = [v, .int m] ∧ m ≤ 1000 ∧ Dat H p v d ∧ ∀ b : Bool, (b = true ↔ TabD m d) → Q (.bl b) H
def spHouse : Sp := fun vs H Q _ => ∃ (v : V) (p : Addr) (d : PyData), vs = [v] ∧ Dat H p v d ∧ ∀ b : Bool, (b = true ↔ HouseD d) → Q (.bl b) H
end Fm
end FFmLoop
section FFmTry
set_option Elab.async false
set_option linter.all false
set_option maxRecDepth 100000
set_option maxHeartbeats 2000000
namespace Fm
open PySem PySem.Spec PyProof.Rows L2
/-- an exception of the class cls, caught and kept at a -/
def ExK (cls : Value) (d : Option Addr) (a : Addr) : HO := .ext fun h => ∃ (oe : Obj) (vs : Array Value), h.get? a = some oe ∧ Zc cls d oe ∧ oe.data = .fields vs
section
variable {X : Cx} {pins : List (Addr × Obj)} {σ : L2.St} {H : Hp} {s sI : Shared}
/-- what is pinned, and is new since the entry, may be tracked -/
theorem track {a : Addr} {oe : Obj} {vs : Array Value} {cls : Value} {d : Option Addr} (I : Inv X ((a, oe) :: pins) σ H s) (hz : Zc cls d oe) (hv : oe.data = .fields vs)
    (h0 : X.s_0.heap.get? a = none) (hp : ∀ q ∈ X.pn ++ pins, q.1 ≠ a) : Inv X pins σ (upd H a (ExK cls d a)) s := by
  obtain ⟨ga, na, nl, nf, nc⟩ := I.pin (a, oe) (List.mem_append_right _ List.mem_cons_self)
  dsimp only at ga na nl nf nc
  have nb : ∀ {b o}, X.s_0.heap.get? b = some o → b ≠ a := fun {b o} e z => by
    rw [z, h0] at e
    cases e
  have hne : ∀ {b u}, H b = some u → b ≠ a := fun {b u} e => ne_of_none e na
  refine ⟨I.ok, I.os, I.bare, ⟨fun b o e n x y => ?_, fun b o e n x y => ?_, fun b o e n x => ?_, fun b o e x => ?_, fun b xs e => ?_, fun b o u e => ?_, fun b ps e => ?_⟩, I.loc, I.cell, ?_, fun x c e => ?_, fun q hq => ?_, fun b u e => ?_, I.len⟩
  · exact I.base.keep b o e n x y
  · exact I.base.slot b o e n x y
  · rw [upd_ne (nb e)]
    exact I.base.free b o e n x
  · exact I.base.there b o e x
  · have q := I.base.tups b xs e
    rw [upd_ne (hne q)]
    exact q
  · have q := I.base.frzs b o u e
    rw [upd_ne (hne q)]
    exact q
  · obtain ⟨m, q⟩ := I.base.tbls b ps e
    exact ⟨m, by rw [upd_ne (hne q)]; exact q⟩
  · rw [upd_ne (Ne.symm nl)]
    exact I.free
  · have hca : c ≠ a := fun z => by
      obtain ⟨v, o, ho, hd⟩ := I.cell x c e
      rw [z, ga] at ho
      cases ho
      exact nc v hd
    rw [upd_ne hca]
    exact I.freeC x c e
  · have hq2 : q ∈ X.pn ++ (a, oe) :: pins := by
      rcases List.mem_append.mp hq with z | z
      · exact List.mem_append_left _ z
      · exact List.mem_append_right _ (List.mem_cons_of_mem _ z)
    obtain ⟨e1, e2, e3⟩ := I.pin q hq2
    exact ⟨e1, by rw [upd_ne (hp q hq)]; exact e2, e3⟩
  · by_cases hb : b = a
    · subst hb
      rw [upd_same] at e
      cases e
      exact ⟨⟨oe, vs, ga, hz, hv⟩, ⟨oe, ga⟩, fun h1 h2 ⟨o, v, q, r⟩ k => ⟨o, v, k o q, r⟩⟩
    · rw [upd_ne hb] at e
      exact (I.hok b u e).stay (fun c w _ q => q) (fun c q => by rw [upd_ne (hne q)]; exact q) fun c xs q => by rw [upd_ne (hne q)]; exact q
end
/-- what the clause wishes that keeps its exception in a name: i the clause's own name, j the name that keeps it -/
def wKeep (K : PySem.W.Frag) (c : Value) (i j : Nat) (D : Ends) : WX := fun cls d σ H =>
  PySem.W.exmOne K cls c = some true ∧ ∀ a, H a = none → D.nx (((σ.set i (some (.ref a))).set j (some (.ref a))).set i none) (upd H a (ExK cls d a))
section
variable {X : Cx} {x n y : Str} {c : Value} {i j : Nat} {body : List Stmt} {np pos pos' py pn sp : Pos} {tb : WX → TS}
theorem ps_try_keep (hs : X.stack = X.env :: X.outer) (hf : X.env.frame = some X.env.locals) (hex : X.ex = []) (hN : X.N.Nodup) (hi : X.N[i]? = some n) (hln : X.env.kindOf n = some .local) (hj : X.N[j]? = some y) (hly : X.env.kindOf y = some .local) (hc : Names X x c)
    (hd1 : (n == ("__debug__" : Str)) = false) (hd2 : (n == ("__classdict__" : Str)) = false) (hsw : swapsWith (.Name n pn) (some (.Name y py)) sp.line X.env = pure false) (hil : i < X.N.length)
    (hb : ∀ (W : WX) (pn : List (Addr × Obj)) (xe : Value → Shared → Prop), Takes (X.tr pn xe) W → PassesOwn (model X.prog X.w) X.A X.env xe → PSs (X.tr pn xe) body (tb W)) :
    PS X (.Try body [.ExceptHandler (some (.Name x np)) (some n) [.Assign [.Name y py] (.Name n pn) sp] pos'] [] [] pos) (fun D σ H => tb (wKeep X.K c i j D) D σ H) := by
  refine ⟨fun pins s σ H D I h => ?_⟩
  have ok := I.ok
  have fr1 : X.A.frames = some (X.env :: X.outer) := by rw [ok.frames, hs]
  have lc1 : Loc X.env.scope n := .inl hln
  refine wpAny_Try_except ?_
  refine wpAny_mono ((hb (wKeep X.K c i j D) (X.pn ++ pins) (fun e t1 => wpAny (model X.prog X.w) X.A (noteFrame e X.env) (fun _ t2 => wpAny (model X.prog X.w) X.A (setFlight e none) (fun _ t3 =>
    wpAny (model X.prog X.w) X.A (handleBy e X.env [.ExceptHandler (some (.Name x np)) (some n) [.Assign [.Name y py] (.Name n pn) sp] pos']) (SP X pins D) X.xe t3) X.xe t2) X.xe t1) (fun u s' xx => ?_) PassesOwn.looking).run [] s σ H D (I.toTry _) h) (fun f s1 hsp => ?_) (fun e s1 he => he)
  · obtain ⟨a, B, sI, pins', σ1, H1, cls, d, rfl, J0, nb, up, sky, na, os, ag, hx1, hyes⟩ := xx
    have J : Inv X pins σ1 H1 sI := J0.ofTry ok
    have sk : Sky B (X.env :: X.outer) a (Zc cls d) X.env.locals s'.heap := hs ▸ sky
    show wpAny (model X.prog X.w) X.A (noteFrame (.ref a) X.env) _ _ _
    refine Sky.land Zc.steady fr1 hf sk fun g3 f3 u3 => ?_
    have K3 : Inv X pins σ1 H1 { s' with heap := g3 } := J.landed nb f3.1 (up.trans u3) os ag
    obtain ⟨o3, v3, e3, z3, d3⟩ := f3.there
    have off : a ∉ frs (X.env :: X.outer) := fun hm => by
      obtain ⟨_, o', e', hq⟩ := (show g3.FunFrames B (X.env :: X.outer) from f3.2.2.1).mem hm
      rw [e3] at e'
      cases e'
      exact hq _ d3
    have offL : a ≠ X.env.locals := fun z => off (List.mem_filterMap.mpr ⟨X.env, List.mem_cons_self, by rw [hf, z]⟩)
    have offF : a ∉ X.fs := fun hm => by
      obtain ⟨e, he, q⟩ := List.mem_filterMap.mp hm
      exact off (List.mem_filterMap.mpr ⟨e, List.mem_cons_of_mem _ he, q⟩)
    have newI : sI.heap.get? a = none := by
      cases q : sI.heap.get? a with
      | none => rfl
      | some o =>
        have z := nb a o q (by rw [hs]; exact off)
        rw [f3.2.1] at z
        cases z
    have new0 : X.s_0.heap.get? a = none := by
      cases q : X.s_0.heap.get? a with
      | none => rfl
      | some o =>
        obtain ⟨o', z⟩ := J.base.there a o q (by rw [hex]; exact fun z => nomatch z)
        rw [newI] at z
        cases z
    have S3 := K3.suite e3 d3 na offL offF
    refine wpAny_handleBy_cons (codeAny_handlers_test ?_) (by intro q; cases q)
    have LT : PySem.W.Looks (model X.prog X.w) g3 (typeOf (.ref a)) cls := fun A Q E s k q => wpAny_typeOf_ref (k _ _ e3) (by rw [z3.1]; exact q)
    have LM := PySem.W.exm_one (M := model X.prog X.w) K3.kIn LT hx1
    have tst : ∀ {Q : Value → Shared → Prop} {E : Value → Shared → Prop}, Q c { s' with heap := g3 } → wpAny (model X.prog X.w) (X.A.mark (some (.ref a))) (eval (.Name x np) X.env) Q E { s' with heap := g3 } := fun {Q E} q => by
      obtain ⟨hg, hdb, hm | ⟨hm, hv, hnn⟩⟩ := hc
      · exact ld_glob (X := X.suite a ((a, o3) :: (X.pn ++ pins))) S3 hg hm q hdb
      · exact ld_blt (X := X.suite a ((a, o3) :: (X.pn ++ pins))) S3 hg hm hv q hnn hdb
    refine tst (LM.here ?_)
    refine codeAny_handlers_suite_as ?_
    refine HandSPX.lands_againZ f3 fun g4 f4 u4 => ?_
    have K4 : Inv X pins σ1 H1 { s' with heap := g4 } := J.landed nb f4.1 ((up.trans u3).trans u4) os ag
    obtain ⟨o4, v4, e4, z4, d4⟩ := f4.there
    have S4 := K4.suite e4 d4 na offL offF
    refine store_ok (X := X.suite a ((a, o4) :: (X.pn ++ pins))) (v := .ref a) S4 hN hi lc1 rfl (fun s5 S5 => ?_) (.inr hln)
    have step : PSs (X.suite a ((a, o4) :: (X.pn ++ pins))) [.Assign [.Name y py] (.Name n pn) sp] (tSeq (tAsg (tVar i) (gName j)) tNext) :=
      pss_cons (ps_set (i := j) hN hj (.inl hly) (pe_var (i := i) hi (.inl hln) hd1 hd2) hsw (.inr hly)) pss_nil
    have hlen : i < σ1.length := by rw [J.len]; exact hil
    refine wpAny_mono (step.run [] s5 _ H1 { nx := fun σ6 H6 => σ6 = (σ1.set i (some (.ref a))).set j (some (.ref a)) ∧ H6 = H1, rt := fun _ _ => False } S5 ⟨.ref a, by rw [List.getElem?_set_self hlen], rfl, rfl⟩) (fun f s6 hsp => ?_) (fun _ _ z => False.elim z)
    cases f with
    | next =>
      obtain ⟨σ6, H6, S6, rfl, rfl⟩ := hsp
      have U : Inv X ((a, o4) :: pins) ((σ1.set i (some (.ref a))).set j (some (.ref a))) H6 s6 := ⟨ok, S6.os, S6.bare, S6.base, S6.loc, S6.cell, S6.free, S6.freeC, fun q hq => S6.pin q (List.mem_append_left _ (by
        rcases List.mem_append.mp hq with z | z
        · exact List.mem_cons_of_mem _ (List.mem_append_left _ z)
        · rcases List.mem_cons.mp z with z | z
          · rw [z]; exact List.mem_cons_self
          · exact List.mem_cons_of_mem _ (List.mem_append_right _ z))), S6.hok, S6.len⟩
      refine gone_ok U hN hi hln fun s7 J7 => ?_
      refine ⟨_, _, track J7 z4 d4 new0 (fun q hq z => ?_), hyes a na⟩
      have e := (J.pin q hq).1
      rw [z, newI] at e
      cases e
    | brk =>
      obtain ⟨_, _, _, q⟩ := hsp
      exact False.elim q
    | cont =>
      obtain ⟨_, _, _, q⟩ := hsp
      exact False.elim q
    | ret u =>
      obtain ⟨_, _, _, _, _, q⟩ := hsp
      exact False.elim q
  · cases f with
    | next =>
      obtain ⟨σ', H', J', q⟩ := hsp
      exact wpAny_execs_nil ⟨σ', H', J'.ofTry ok, q⟩
    | brk =>
      obtain ⟨σ', H', J', q⟩ := hsp
      exact ⟨σ', H', J'.ofTry ok, q⟩
    | cont =>
      obtain ⟨σ', H', J', q⟩ := hsp
      exact ⟨σ', H', J'.ofTry ok, q⟩
    | ret u =>
      obtain ⟨v, σ', H', J', r, q⟩ := hsp
      exact ⟨v, σ', H', J'.ofTry ok, r, q⟩
end
end Fm
end FFmTry
section FFmExc
set_option Elab.async false
set_option linter.all false
set_option maxRecDepth 100000
set_option maxHeartbeats 2000000
namespace Fm
open PySem PySem.Spec PyProof.Rows L2
/-- an error class of the program, straight under MeetError at M -/
structure Exn (K : PySem.W.Frag) (mg : Str → Option Value) (x : Str) (C M : Addr) : Prop where
  g : mg x = some (.ref C)
  e : PySem.W.excIn K C [.type "ValueError", .type "Exception", .type "BaseException", .type "object"] "ValueError.__new__" = true
  k : PySem.W.keepIn K (.ref C) = true
  b : PySem.W.subIn K (.ref C) (.type "BaseException") = some true
  t : PySem.W.typeIn K (.ref C) = some (.type "type")
  c : ExcC K C
  m : PySem.W.exmOne K (.ref C) (.ref M) = some true
/-- isinstance(e, c), e a kept error -/
def rIsK (K : PySem.W.Frag) (D : Addr) : List V → Hp → VK → Prop := fun xs H Q => ∃ (a : Addr) (c : V) (u : Value) (b : Bool), xs = [.ref a, c] ∧ H a = some (ExK (.ref D) none a) ∧ ClsV c u ∧ PySem.W.kitOne K (.ref D) u = some b ∧ Q (.bl b) H
def rIsKT (K : PySem.W.Frag) (D : Addr) : List V → Hp → VK → Prop := fun xs H Q => ∃ (a tp : Addr) (cs : List V) (us : List Value) (b : Bool), xs = [.ref a, .ref tp] ∧ H a = some (ExK (.ref D) none a) ∧ H tp = some (.tup cs) ∧ Paired ClsV cs us ∧ PySem.W.kitAny K (.ref D) us = some b ∧ Q (.bl b) H
section
variable {X : Cx} {D : Addr}
theorem kept_inst {pins : List (Addr × Obj)} {σ : L2.St} {H : Hp} {s : Shared} {a : Addr} (I : Inv X pins σ H s) (h : H a = some (ExK (.ref D) none a)) : ∃ oe, PySem.W.InstAt s.heap a oe D none := by
  obtain ⟨⟨oe, vs, hg, hz, hv⟩, _, _⟩ := I.hok a _ h
  obtain ⟨oc, od, oda, osl⟩ := oe
  obtain ⟨h1, h2⟩ := hz
  dsimp only at h1 h2 hv
  subst h1 h2 hv
  exact ⟨_, hg, rfl, rfl, trivial⟩
theorem call_isK (C : ExcC X.K D) : CallR X (.builtin "isinstance") (rIsK X.K D) := by
  intro pins s σ H xs us Q I r h
  obtain ⟨a, c, u, b, rfl, ha, hc, e, q⟩ := h
  obtain ⟨u1, u2, rfl, r1, r2⟩ := vals2 r
  cases r1
  have e2 := hc.eq r2
  subst e2
  obtain ⟨oe, J⟩ := kept_inst I ha
  exact PySem.W.kia_one (PySem.W.handS_kitx_exc C.hg C.hk C.hs C.hd C.ha C.hn C.ht C.hm) I.kIn J e (fun z => nomatch z) fun tk => ⟨.bl b, H, I.tok tk, rfl, q⟩
theorem call_isKT (C : ExcC X.K D) : CallR X (.builtin "isinstance") (rIsKT X.K D) := by
  intro pins s σ H xs us Q I r h
  obtain ⟨a, tp, cs, ws, b, rfl, ha, hT, hc, e, q⟩ := h
  obtain ⟨u1, u2, rfl, r1, r2⟩ := vals2 r
  cases r1
  cases (show u2 = Value.ref tp from r2)
  obtain ⟨oe, J⟩ := kept_inst I ha
  obtain ⟨_, its, rv, o, h1, h2, n, h3⟩ := (show ObjOk X.prog X.w H s.heap tp (.tup cs) from I.hok tp _ hT)
  have e3 := ClsV.all hc rv
  subst e3
  obtain ⟨oc, od, dt, sl⟩ := o
  simp only at h2 h3
  subst h2 h3
  exact PySem.W.kia_tup (PySem.W.handS_kitx_exc C.hg C.hk C.hs C.hd C.ha C.hn C.ht C.hm) I.kIn J h1 e (fun z => nomatch z) fun tk => ⟨.bl b, H, I.tok tk, rfl, q⟩
end
/-- raise C('..') of such a class -/
theorem ps_raiseE {X : Cx} {W : WX} {x m : Str} {C M : Addr} {j : Nat} {p p2 p3 pos : Pos} (hc : X.calm = true) (tk : Takes X W) (E : Exn X.K X.mg x C M) (hg : Gl X x) (hd : (x == ("__debug__" : Str)) = false := by decide) :
    PS X (.Raise (some (.Call (.Name x p) [.Constant (.str m) j p2] [] p3)) none pos) (fun _ σ H => W (.ref C) none σ H) :=
  ps_raise hc tk (pmk_own PySem.F.excBase_ValueError E.e E.g E.k (raises_own E.b E.t) hg hd)
/-- size's promise: C is NoHouse -/
def spSize (C : Addr) : Sp := fun vs H Q E => ∃ (v : V) (p : Addr) (d : PyData), vs = [v] ∧ Dat H p v d ∧ (∀ m n, HouseN m n d → ∀ q H', H q = none → H' q = some (.tup [.int m, .int n]) → Same H H' → Q (.ref q) H') ∧ (¬ HouseD d → E (.ref C) none H)
end Fm
end FFmExc
section FFmEnd
set_option Elab.async false
set_option linter.all false
set_option maxRecDepth 100000
set_option maxHeartbeats 2000000
namespace Fm
open PySem PySem.Spec PyProof.Rows L2
/-- a def's promise where no text is being made of anything around it, and nothing is raised -/
def RunG (P : Program) (w : World) (K : PySem.W.Frag) (mg : Str → Option Value) (base : Heap) (k : Nat) (f : Addr) (fd : FuncData) (ps : List Str) (sp : Sp) : Prop :=
  ∀ (A : Around) (outer : List Env) (s : Shared) (H : Hp) (args : Args) (us : List Value) (vs : List V) (Q : VK), A.guards = some [] → Room k A → Env0 P w K mg base A outer s H → BindsTo s fd args (ps.zip us) → Vals vs us → vs.length = ps.length → sp vs H Q E0 →
    codeAny (model P w) A (.call (.ref f) args) (fun r s' => ∃ u, r = .ok (.ret u) ∧ CE outer P w H s Q u s') s
theorem run_g {P : Program} {w : World} {K : PySem.W.Frag} {mg : Str → Option Value} {base : Heap} {x : Str} {st : Stmt} {f : Addr} {fd : FuncData} {N ps : List Str} {k : Nat} {sp : Sp} (F : Fun K x x st f fd) (S : FnScope N ps (defScope st))
    (b : ∀ (cdv : Value) (A : Around) (outer : List Env) (s : Shared) (H : Hp) (vs : List V) (Q : VK), (A.deeper (envOfC x (defScope st) s.heap.objs.size f cdv)).guards = some [] → Room k (A.deeper (envOfC x (defScope st) s.heap.objs.size f cdv)) → sp vs H Q E0 →
      ∃ t, PSs (cxOf CX0 P w K mg base N x (defScope st) f cdv A outer s H E0).nox (defBody st) t ∧ t { nx := fun _ H' => Q .non H', rt := Q } (start N vs) H) : RunG P w K mg base (k + 1) f fd ps sp := by
  obtain ⟨oc, od, kV, doc, pm, an, cdv, ct, osl, rfl, lk, hcd⟩ := F.ex
  intro A outer s H args us vs Q hg hr e0 hb r hl hsp
  have KX : K.In s.heap := e0.mod.kin.keeps fun c o e => (e0.bs c o e).1
  have nl : s.heap.NoLimit := e0.mod.nolimit.keeps fun c o e => (e0.bs c o e).1
  have kinds : ∀ z ∈ ps.zip us, (defScope st).names.lookup z.1 = some .local ∨ ((defScope st).names.lookup z.1 = some .cell ∧ ((cellsFrom (s.heap.objs.size + 1) (defScope st).names []).lookup z.1).isSome = true) := fun ⟨n, v⟩ hz => by
    rcases S.par n (List.of_mem_zip hz).1 with q | q
    · exact .inl q
    · exact .inr ⟨q, PySem.W.cellsFrom_some _ _ _ (.inl q)⟩
  refine codeAny_call_function hr.depth (KX _ _ lk) rfl S.co S.gen rfl (PySem.W.codeRec_of KX hcd) (hb _ _ _ _ ?_)
  refine wpAny_newFunctionEnv_cells S.kind kinds fun env he s1 y => ?_
  subst he
  refine ⟨nl.keeps y.toInCall.keep, codeAny_func ?_⟩
  obtain ⟨t, ht, hq⟩ := b cdv A outer s H vs Q hg (hr.deeper _) hsp
  have I := inv_start (CX := CX0) (P := P) (w := w) (qual := x) (f := f) (cd := cdv) (E := E0) S hr.hd e0 hl r y
  refine wpAny_mono (ht.nox.run [] s1 (start N vs) H _ I hq) (fun fl s' hs => ?_) (fun e s' hs => ?_)
  · cases fl with
    | ret u =>
      obtain ⟨v, σ', H', J, rv, q⟩ := hs
      exact ⟨u, rfl, v, H', J.os, J.bare, J.base, J.hok, rv, q⟩
    | next =>
      obtain ⟨σ', H', J, q⟩ := hs
      exact ⟨.none, rfl, .non, H', J.os, J.bare, J.base, J.hok, rfl, q⟩
    | brk =>
      obtain ⟨_, _, _, q⟩ := hs
      exact False.elim q
    | cont =>
      obtain ⟨_, _, _, q⟩ := hs
      exact False.elim q
  · exact wpAny_mono hs (fun _ _ z => False.elim z) fun _ _ z => False.elim z
/-- the law's call, at what the top has left -/
theorem end_g {P : Program} {w : World} {K : PySem.W.Frag} {mg mb : Str → Option Value} {k : Nat} {fa a : Addr} {fd : FuncData} {x : Str} {sp : Sp} {t : Shared} {vs : List Value} {ns : List Int}
    (KX : K.In t.heap) (g1 : t.heap.Ns mainGlobals mg) (g2 : t.heap.Ns builtinsNs mb) (g3 : ∀ y : Str, y ≠ "__name__" → mb y = bootBuiltins y) (g4 : t.heap.NoLimit) (g5 : t.gens = #[])
    (ha : t.heap.get? a = some { cls := .type "list", data := .seq vs.toArray }) (hi : IntsAre vs ns) (hl : ns.length ≤ sizeLine) (hr : Room k callerA)
    (F : ∀ base : Heap, K.In base → base.Ns mainGlobals mg → RunG P w K mg base k fa fd [x] sp) (hb : ∀ (s : Shared) (u : Value), BindsTo s fd ⟨[u], []⟩ [(x, u)])
    (hs : ∀ H : Hp, SqL K H a (ns.map V.int) → (∀ b, H b = none ∨ b = a) → sp [.ref a] H (fun v _ => v = .bl true) E0) :
    codeAny (model P w) callerA (.call (.ref fa) ⟨[.ref a], []⟩) (fun r s' => r = .ok (.ret (.bool true)) ∧ OldK t.heap s'.heap ∧ s'.os = t.os ∧ AllBare s'.gens) t := by
  have rv := vals_ints hi
  have lv := hi.length
  suffices core : ∀ H : Hp, SqL K H a (ns.map V.int) → HOk P w H t.heap → (∀ b, H b = none ∨ (b = a ∧ ∃ o us, H b = some (.frz o (.lst us)))) → (H a ≠ none → K.lookup a = none) →
      codeAny (model P w) callerA (.call (.ref fa) ⟨[.ref a], []⟩) (fun r s' => r = .ok (.ret (.bool true)) ∧ OldK t.heap s'.heap ∧ s'.os = t.os ∧ AllBare s'.gens) t by
    cases hk : K.lookup a with
    | some o =>
      have e := KX a o hk
      rw [ha] at e
      cases e
      exact core (fun _ => none) (.inr ⟨_, vs.toArray, _, hk, rfl, rfl, rfl, by rw [List.size_toArray, lv]; exact hl, by simpa using rv⟩) (fun b u z => by cases (show (none : Option HO) = some u from z)) (fun b => .inl rfl) fun z => absurd rfl z
    | none =>
      have at1 : ∀ b u, (if b = a then some (HO.frz { cls := .type "list", data := .seq vs.toArray } (.lst (ns.map V.int))) else none) = some u → b = a ∧ u = .frz { cls := .type "list", data := .seq vs.toArray } (.lst (ns.map V.int)) := fun b u z => by
        by_cases hba : b = a
        · rw [if_pos hba] at z
          exact ⟨hba, (Option.some.inj z).symm⟩
        · rw [if_neg hba] at z
          cases z
      refine core (fun b => if b = a then some (.frz { cls := .type "list", data := .seq vs.toArray } (.lst (ns.map V.int))) else none) (.inl (.inr ⟨{ cls := .type "list", data := .seq vs.toArray }, if_pos rfl⟩)) (fun b u z => ?_) (fun b => ?_) fun _ => hk
      · obtain ⟨rfl, rfl⟩ := at1 b u z
        exact ⟨ha, by rw [List.length_map]; exact hl, vs, _, rv, ha⟩
      · by_cases hba : b = a
        · exact .inr ⟨hba, _, _, if_pos hba⟩
        · exact .inl (if_neg hba)
  intro H hS hok hA hK
  have ex : ∀ {b : Addr} {u : HO}, H b = some u → b = a := fun {b u} e => by
    rcases hA b with z | ⟨z, _⟩
    · rw [e] at z
      cases z
    · exact z
  have off : ∀ {b : Addr} {o : Obj} {es : Array DictEntry} {ep : Nat}, t.heap.get? b = some o → o.data = .dict es ep → H b = none := fun {b o es ep} e d => by
    cases q : H b with
    | none => rfl
    | some u =>
      rw [ex q, ha] at e
      cases e
      cases (show Data.seq vs.toArray _ = Data.dict es ep from d)
  have ns : ∀ {b : Addr} {m : Str → Option Value}, t.heap.Ns b m → (hidT t.heap H).Ns b m := fun {b m} ⟨o, es, ep, e, d, r⟩ => ⟨o, es, ep, hidT_get e (off e d), d, r⟩
  have kin : K.In (hidT t.heap H) := fun b o e => hidT_get (KX b o e) (by
    cases q : H b with
    | none => rfl
    | some u =>
      have z := ex q
      subst z
      rw [hK (by rw [q]; exact fun y => by cases y)] at e
      cases e)
  have md : Mod K mg (hidT t.heap H) := ⟨kin, ns g1, ⟨mb, ns g2, g3⟩, let ⟨mc, y1, y2⟩ := g4; ⟨mc, ns y1, y2⟩⟩
  have e0 : Env0 P w K mg (hidT t.heap H) callerA [] t H := ⟨rfl, md, fun b o e => of_hidT e, Nat.le_of_eq (hidT_size _ _), trivial, fun b z => (by cases z), hok, .of_eq g5⟩
  refine codeAny_mono (F _ kin (ns g1) callerA [] t H ⟨[.ref a], []⟩ [.ref a] [.ref a] _ rfl hr e0 (hb t (.ref a)) (.cons rfl .nil) rfl (hs H hS fun b => (hA b).imp id fun z => z.1)) fun r s' h => ?_
  obtain ⟨u, rfl, v, H', os, bare, un, hok', r', q⟩ := h
  have q' : v = .bl true := q
  subst q'
  obtain rfl : u = Value.bool true := r'
  refine ⟨rfl, OldK.of_keep fun b o e => ?_, os, bare⟩
  rcases hA b with q | ⟨_, ob, us, q⟩
  · exact un.keep b o e q (by intro z; cases z) (by intro z; cases z)
  · obtain ⟨d1, _⟩ := hok b _ q
    obtain ⟨d2, _⟩ := hok' b _ (un.frzs b ob _ q)
    rw [e] at d1
    cases d1
    exact d2
/-- the goal that k_head leaves -/
theorem walk_g {l : PySem.W.OpenLaw} {n k : Nat} {q : Program} {loose : List Str} {XP : (Str → Option Value) → Heap → Prop} {YP : World → Heap → Prop} {d : DefRec} {K : Params → PySem.W.Frag} {sp : PySem.W.Frag → Sp} {x : Str}
    (hn : l.most = some n) (hn2 : n ≤ sizeLine) (hdf : d.params.defaults = []) (hr : Room k callerA) (hY : ∀ (w : World) (h : Heap), YP w h → (K w.params).In h)
    (F : ∀ (w : World) (mg : Str → Option Value) (fa : Addr) (h : Heap), (K w.params).In h → h.Ns mainGlobals mg → mg d.name = some (.ref fa) →
      ∃ fd : FuncData, (∀ (s : Shared) (u : Value), BindsTo s fd ⟨[u], []⟩ [(x, u)]) ∧ ∀ base : Heap, (K w.params).In base → base.Ns mainGlobals mg → RunG l.prog w (K w.params) mg base k fa fd [x] (sp (K w.params)))
    (hs : ∀ (K : PySem.W.Frag) (H : Hp) (a : Addr) (ns : List Int), ns.length ≤ n → SqL K H a (ns.map V.int) → (∀ b, H b = none ∨ b = a) → sp K [.ref a] H (fun v _ => v = .bl true) E0) :
    PySem.W.WalkO q loose XP YP l.row.toRowW d [] (fun f vs => PySem.call f vs) := by
  refine Att.attach_call hn hdf fun w s0 t mg mb fa o pm cd doc a vs ns G Y ho hd hcd hmg hobj hints hlen hg => ?_
  have KX := hY w _ Y
  obtain ⟨fd, hb, hF⟩ := F w mg fa _ KX G.T.g hmg
  exact end_g KX G.T.g G.T.b G.T.builtins G.T.nolimit hg hobj hints (Nat.le_trans hlen hn2) hr hF hb fun H h1 h2 => hs _ H a ns hlen h1 h2
end Fm
end FFmEnd
section FFmSeq
set_option Elab.async false
set_option linter.all false
set_option maxRecDepth 100000
set_option maxHeartbeats 4000000
namespace Fm
open PySem PySem.Spec PyProof.Rows L2 HT
theorem rev_adjust (n : Nat) : Builtin.Slice.sliceAdjust none none (-1) (n : Int) = ((n : Int) - 1, -1) := by
  unfold Builtin.Slice.sliceAdjust
  simp
theorem rev_places (n : Nat) : Builtin.Slice.slicePlaces ((n : Int) - 1) (-1) (-1) = n := by
  unfold Builtin.Slice.slicePlaces
  have h1 : ¬ ((-1 : Int) > 0) := by decide
  simp only [h1, if_false]
  have e : ((n : Int) - 1 - -1 - 1) / (- -1) = (n : Int) - 1 := by
    rw [show (- -1 : Int) = 1 by decide, Int.ediv_one]
    omega
  rw [e]
  split <;> omega
theorem fm_congr {α β : Type} {f g : α → Option β} : ∀ {l : List α}, (∀ x ∈ l, f x = g x) → l.filterMap f = l.filterMap g
  | [], _ => rfl
  | x :: r, h => by
    rw [List.filterMap_cons, List.filterMap_cons, h x List.mem_cons_self, fm_congr fun y hy => h y (List.mem_cons_of_mem _ hy)]
theorem rev_pick (xs : Array Value) : ((List.range xs.size).filterMap fun (m : Nat) => xs[((xs.size : Int) - 1 + (m : Int) * -1).toNat]?).toArray = xs.toList.reverse.toArray := by
  congr 1
  have h := PySem.W.krv_all xs
  rw [← h, ← List.filterMap_reverse, ← PySem.W.krv_range, List.filterMap_map]
  apply fm_congr
  intro m hm
  have := List.mem_range.mp hm
  have e : ((xs.size : Int) - 1 + (m : Int) * -1).toNat = xs.size - 1 - m := by omega
  rw [e]
  rfl
section
variable {prog : Program} {w : World} {A : Around} {E : Value → Shared → Prop} {s : Shared}
theorem rev_applied {sl : Addr} {vs : Value} {n : Nat} {Q : Int × Int × Nat → Shared → Prop} (hs : s.heap.IsSliceOf sl .none .none vs) (ps : IsPart vs (some (-1))) (h : Q ((n : Int) - 1, -1, n) s) :
    wpAny (model prog w) A (Builtin.Slice.sliceApplied (.ref sl) (pure (n : Int))) Q E s := by
  obtain ⟨os, hos, hcs, hds⟩ := id hs
  unfold Builtin.Slice.sliceApplied Builtin.Slice.sliceFields
  refine wpAny_bind (wpAny_bind (wpAny_field hos hds (x := .none) rfl (wpAny_bind (wpAny_field hos hds (x := .none) rfl (wpAny_bind (wpAny_field hos hds (x := vs) rfl (wpAny_pure ?_)))))))
  refine wpAny_bind (slicePart_ ps ?_)
  show wpAny _ _ (if ((-1 : Int) == 0) = true then _ else _) _ _ s
  rw [if_neg (by decide)]
  refine wpAny_bind (slicePart_none (wpAny_bind (slicePart_none (wpAny_bind (wpAny_pure ?_)))))
  show wpAny _ _ (match Builtin.Slice.sliceAdjust none none (-1) (n : Int) with | (lo, hi) => pure (lo, (-1 : Int), Builtin.Slice.slicePlaces lo hi (-1))) _ _ s
  rw [rev_adjust]
  show wpAny _ _ (pure ((n : Int) - 1, (-1 : Int), Builtin.Slice.slicePlaces ((n : Int) - 1) (-1) (-1))) _ _ s
  rw [rev_places]
  exact wpAny_pure h
theorem rev_item {t sl : Addr} {items : Array Value} {vs : Value} {Q : Value → Shared → Prop} (ht : IsTup s.heap t items) (hs : s.heap.IsSliceOf sl .none .none vs) (ps : IsPart vs (some (-1)))
    (h : Q (.ref s.heap.objs.size) { s with heap := s.heap.push { cls := .type "tuple", data := .seq items.toList.reverse.toArray } }) (hsz : items.size ≤ sizeLine) : wpAny (model prog w) A (getItem (.ref t) (.ref sl)) Q E s := by
  have ok : sizeOk (.seq items.toList.reverse.toArray) := by
    show items.toList.reverse.toArray.size ≤ sizeLine
    rw [List.size_toArray, List.length_reverse, Array.length_toList]
    exact hsz
  obtain ⟨os, hos, hcs, hds⟩ := id hs
  have tS : s.TypeIs (.ref sl) "slice" := ⟨os, hos, hcs⟩
  unfold getItem
  try with_reducible refine wpAny_holding ?_
  first | refine wpAny_bind (wpAny_pure ?_) | skip
  refine wpAny_bind (wpAny_sequenceKey ht.typeIs (by decide) ?_)
  refine wpAny_bind (wpAny_callSpecial?_slot (name := Str.ofString "__getitem__") ht.typeIs PyProof.Rows.slot_tuple_getitem
    (wpAny_call_entry PyProof.Rows.slot_tuple_getitem ht.typeIs entry_tuple_getitem ?_ (args_tuple_getitem _ _)))
  show wpAny _ _ (Builtin.Tuple.tupleItemsOf (.ref t) >>= _) _ _ s
  refine wpAny_bind (tupleItemsOf_ ht (wpAny_bind (wpAny_typeOf tS ?_)))
  rw [if_pos (by decide)]
  refine wpAny_bind (rev_applied hs ps ?_)
  have no : ¬ ((((items.size : Int) - 1) == 0 && (-1 : Int) == 1 && items.size == items.size) = true) := by
    rw [show ((-1 : Int) == 1) = false by decide, Bool.and_false, Bool.false_and]
    exact Bool.false_ne_true
  show wpAny _ _ (if (((items.size : Int) - 1) == 0 && (-1 : Int) == 1 && items.size == items.size) = true then _ else _) _ _ s
  rw [if_neg no, rev_pick]
  first
    | exact wpAny_bind (m := Builtin.Tuple.tupleExact _) (wpAny_newObj_type (wpAny_pure ⟨_, rfl, wpAny_pure h⟩) ok)
    | exact wpAny_bind (m := Builtin.Tuple.tupleExact _) (wpAny_newObj_type (wpAny_bind (wpAny_pure (wpAny_pure ⟨_, rfl, wpAny_pure h⟩))) ok)
    | exact wpAny_bind (wpAny_bind (m := Builtin.Tuple.tupleExact _) (wpAny_newObj_type (wpAny_pure (wpAny_pure ⟨_, rfl, wpAny_pure h⟩)) ok))
    | exact wpAny_bind (wpAny_bind (m := Builtin.Tuple.tupleExact _) (wpAny_newObj_type (wpAny_pure ⟨_, rfl, wpAny_pure h⟩) ok))
end
/-- t[::-1], a tuple -/
def tRevT (K : PySem.W.Frag) (te : TE) : TE := fun σ H Q => te σ H fun x H1 => ∃ a xs, x = .ref a ∧ SqT K H1 a xs ∧ ∀ p, H1 p = none → Q (.ref p) (upd H1 p (.tup xs.reverse))
theorem pe_REV {X : Cx} {e : Expr} {te : TE} {k : Nat} {p1 p2 p3 pos : Pos} (he : PE X e te) : PE X (.Subscript e (.Slice none none (some (.UnaryOp .USub (.Constant (.int 1) k p1) p2)) p3) pos) (tRevT X.K te) := by
  refine ⟨fun pins s σ H Q I h => ?_⟩
  refine Subscript_ (thn (he.run pins s σ H _ I h) fun v s1 ⟨x, H1, I1, r1, q1⟩ => ?_)
  obtain ⟨a, xs, ex, hx, q⟩ := q1
  subst ex
  cases r1
  have st : PO X (some (.UnaryOp .USub (.Constant (.int 1) k p1) p2)) (tPart (tUn (rU fun i => .int (-i)) (tC (.int 1)))) := po_some (pe_un un_neg pe_int)
  refine wpAny_Slice (thn (po_none.run pins s1 σ H1 (fun o H2 => o = none ∧ H2 = H1) I1 ⟨rfl, rfl⟩) fun vl s2 ⟨l, H2, I2, pl, el, e2⟩ => ?_)
  subst el e2
  refine thn (po_none.run pins s2 σ H2 (fun o H3 => o = none ∧ H3 = H2) I2 ⟨rfl, rfl⟩) fun vu s3 ⟨u, H3, I3, pu, eu, e3⟩ => ?_
  subst eu e3
  refine thn (st.run pins s3 σ H3 (fun o H4 => o = some (-1) ∧ H4 = H3) I3 ⟨1, rfl, -1, rfl, rfl, rfl⟩) fun vs s4 ⟨o, H4, I4, ps, eo, e4⟩ => ?_
  subst eo e4
  have I5 : Inv X pins σ H4 { s4 with heap := s4.heap.push { cls := .type "slice", data := .fields #[vl, vu, vs] } } := I4.kept (t' := s4.toks) fun b ob q => Heap.get?_push_of_some _ q
  obtain ⟨its, r, ht, hz⟩ := I5.tuple hx
  cases pl
  cases pu
  show wpAny (model X.prog X.w) X.A (subscriptTail e (.Slice none none (some (.UnaryOp .USub (.Constant (.int 1) k p1) p2)) p3) (.ref a) (.ref s4.heap.objs.size)) (EP X pins σ Q) X.xe { s4 with heap := s4.heap.push { cls := .type "slice", data := .fields #[.none, .none, vs] } }
  refine tail_any (ops := [.ref a, .ref s4.heap.objs.size]) ht.typeIs (PyProof.Rows.slot_tuple_getitem.lookup) ?_ (by with_unfolding_all rfl)
  refine rev_item ht (Heap.IsSliceOf.new _ .none .none vs) ps ?_ (by rw [List.size_toArray, ← r.length]; exact hz)
  refine ⟨.ref _, _, I5.laid (t' := s4.toks) (o := .tup xs.reverse) (fun b ob q => Heap.get?_push_of_some _ q) (Nat.le_refl _) ?_, rfl, q _ (I5.hok.fresh (Nat.le_refl _))⟩
  exact ⟨by rw [List.length_reverse]; exact hz, _, r.reverse, IsTup.new _ _⟩
/-- a tuple once -/
theorem once_meets (l : Addr) (items : Array Value) (n : Nat) (dd : Option Addr) (sl : Array (Option Value)) (u : Tok) :
    Meets (Builtin.«tuple.__mul__» ⟨[.ref l, .int 1 u], []⟩) (fun _ R s => s.heap.get? l = some { cls := .type "tuple", dict := dd, data := .seq items n, slots := sl } ∧ R (.ok (.ret (.ref l))) s) :=
  .of_wp fun prog w A R s h => by
    obtain ⟨hp, g, d, tk, os⟩ := s
    obtain ⟨hl, h⟩ := h
    have f1 := AutoSeq1.idx_int
    have c1 : (items.isEmpty || (1 : Int) == 1) = true := by simp
    wp_walk using wpAny_loadPart' hl
    repeat (first
      | (refine wpAny_ite_true (decide_eq_true c1) ?_; wp_walk using wpAny_loadPart' hl)
      | (refine wpAny_ite_true c1 ?_; wp_walk using wpAny_loadPart' hl))
    exact ⟨_, rfl, h⟩
def rOnce (K : PySem.W.Frag) : R2 := fun x y H Q => ∃ l xs, x = .ref l ∧ y = .int 1 ∧ SqT K H l xs ∧ Q (.ref l) H
theorem op_once {X : Cx} : OpR X (binaryOp .Mult) (rOnce X.K) := by
  intro pins s σ H x y v u Q I rx ry h
  obtain ⟨l, xs, rfl, rfl, hT, q⟩ := h
  cases rx
  obtain ⟨t, rfl⟩ := ry
  obtain ⟨its, r, ⟨⟨cls, dd, data, sl⟩, ho, hc, n, hd⟩, hs⟩ := I.tuple hT
  simp only at hc hd
  subst hc hd
  refine wpAny_binaryOp_repeat_ref (T := "tuple") (U := "int") (by decide) ⟨_, ho, rfl⟩ (fun s' => typeIs_int s' 1 t) noFill_tuple_mul F.fills_int_mul F.slot_int_rmul repeat_tuple F.slot_int_index.lookup
    (call_meets F.slot_int_rmul (typeIs_int s 1 t) F.entry_int_rmul (F.args_int_rmul_2 _ _) (int_rmul_tuple 1 t l its.toArray n dd sl)
      ⟨ho, rfl, ⟨_, ho, rfl⟩, call_meets F.slot_tuple_mul ⟨_, ho, rfl⟩ F.entry_tuple_mul (F.args_tuple_mul_2 _ _) (once_meets l its.toArray n dd sl t) ⟨ho, ⟨.ref l, H, I, rfl, q⟩⟩⟩)
/-- t * k, k one or more -/
def rTimes (K : PySem.W.Frag) : R2 := fun x y H Q => rOnce K x y H Q ∨ rRepT K x y H Q
theorem op_times {X : Cx} : OpR X (binaryOp .Mult) (rTimes X.K) := op_once.or op_repT
def rLenS (K : PySem.W.Frag) : List V → Hp → VK → Prop := fun xs H Q => ∃ p ys, xs = [.ref p] ∧ (SqL K H p ys ∨ SqT K H p ys) ∧ Q (.int ys.length) H
theorem call_lenS {X : Cx} : CallR X (.builtin "len") (rLenS X.K) := call_len_seq
def rTupOf (K : PySem.W.Frag) : List V → Hp → VK → Prop := fun xs H Q => ∃ p ys, xs = [.ref p] ∧ ((SqL K H p ys ∧ ∀ l, H l = none → Q (.ref l) (upd H l (.tup ys))) ∨ (SqT K H p ys ∧ Q (.ref p) H))
theorem call_tupOf {X : Cx} : CallR X (.type "tuple") (rTupOf X.K) := call_tuple_of
def rLstOf (K : PySem.W.Frag) : List V → Hp → VK → Prop := fun xs H Q => ∃ p ys, xs = [.ref p] ∧ (SqL K H p ys ∨ SqT K H p ys) ∧ ∀ l, H l = none → Q (.ref l) (upd H l (.lst ys))
theorem call_lstOf {X : Cx} : CallR X (.type "list") (rLstOf X.K) := call_list_of
end Fm
end FFmSeq
section FQ1
set_option Elab.async false
set_option linter.all false
set_option maxRecDepth 100000
set_option maxHeartbeats 4000000
local macro_rules | `(tactic| walk_at "ne") => `(tactic| first | assumption | (apply Ne.symm; assumption) | exact L2.ne_of_none (by assumption) (by assumption) | exact Ne.symm (L2.ne_of_none (by assumption) (by assumption)))
local macro_rules | `(tactic| walk_at "hl") => `(tactic| first | assumption | exact L2.upd_same | (refine Eq.trans (L2.upd_ne (by walk_at "ne")) ?_; walk_at "hl"))
local macro_rules | `(tactic| walk_at "sd") => `(tactic| first | (with_reducible show (_ : Int) < _; omega) | (with_reducible show (_ : Int) ≤ _; omega) | assumption | decide | exact ⟨by assumption, by assumption⟩ | exact ⟨by decide, by decide⟩ | exact Or.inr ⟨by decide, by decide⟩ | exact Or.inl ⟨by omega, by omega⟩ | rfl)
local macro_rules | `(tactic| walk_at "st1") => `(tactic| first
  | refine ⟨_, rfl, ?_⟩
  | refine ⟨_, _, rfl, rfl, ?_⟩
  | refine ⟨_, _, rfl, ?_⟩
  | (refine ⟨_, _, _, _, rfl, rfl, L2.SqL.of (by walk_at "hl"), rfl, ?_⟩)
  | (refine ⟨_, _, _, _, rfl, rfl, L2.SqT.of (by walk_at "hl"), rfl, ?_⟩)
  | (refine ⟨_, _, _, _, rfl, rfl, (by walk_at "hl"), rfl, ?_⟩)
  | (refine And.intro (by walk_at "sd") ?_)
  )
local macro_rules | `(tactic| walk_at "st") => `(tactic| repeat walk_at "st1")
local macro_rules | `(tactic| walk_at "op") => `(tactic| try dsimp only [L2.tSeq, L2.tAsg, L2.tOp, L2.tVar, L2.tC, L2.gSub, L2.rI, L2.rI0, L2.rIxL, L2.rIxT, L2.rSetL, L2.tIfS, L2.tTest, L2.tRet, L2.gName, L2.tNext, L2.tAnd, L2.tOr, L2.tNot, L2.tAndV, L2.tOrV, L2.tNotV, L2.tB, L2.tCB, L2.tCons, L2.tNil, L2.tCall, L2.tTup, L2.tLst, L2.tChain, L2.tUn, L2.tPar, L2.tDrop, L2.tIf, L2.tBM, L2.tBM0, L2.rAppend, L2.rCat, L2.rIsi, L2.rIsiT, L2.gTup, L2.gCons, L2.gNil, Fm.tFor_eq, Fm.tLc_eq, L2.iTup, L2.iList, L2.iRng1, L2.iRng2, L2.tSl, L2.tPart, L2.tNoPart, L2.rSlL, L2.rEq, L2.rNe, L2.rU, L2.rEqD, L2.rNeD, Fm.tRevT, Fm.rLenS, Fm.rTupOf, Fm.rLstOf, L2.tDNewK, L2.tCallS, L2.WE, Fm.wKeep, Fm.rIsK, Fm.rIsKT, List.cons_append, List.nil_append, L2.tYes])
namespace Fm
open PySem PySem.Spec PyProof.Rows L2
def top (i : Nat) : Stmt := PySem.Challenge.pw_floormeet_k22_who_comes_where.main.body.getD i (.Pass ⟨0, 0, 0, 0⟩)
abbrev s_is_whole : Stmt := top 7
abbrev N_is_whole : List Str := ["thing"]
theorem sc_is_whole : FnScope N_is_whole ["thing"] (defScope s_is_whole) := ⟨rfl, rfl, rfl, by decide +kernel, rfl, by decide +kernel, by decide +kernel⟩
abbrev s_is_up_to : Stmt := top 8
abbrev N_is_up_to : List Str := ["thing", "most"]
theorem sc_is_up_to : FnScope N_is_up_to ["thing", "most"] (defScope s_is_up_to) := ⟨rfl, rfl, rfl, by decide +kernel, rfl, by decide +kernel, by decide +kernel⟩
abbrev s_is_tuple_of : Stmt := top 9
abbrev N_is_tuple_of : List Str := ["thing", "many"]
theorem sc_is_tuple_of : FnScope N_is_tuple_of ["thing", "many"] (defScope s_is_tuple_of) := ⟨rfl, rfl, rfl, by decide +kernel, rfl, by decide +kernel, by decide +kernel⟩
abbrev s_are_up_to : Stmt := top 10
abbrev N_are_up_to : List Str := ["thing", "many", "most", "number"]
theorem sc_are_up_to : FnScope N_are_up_to ["thing", "many", "most"] (defScope s_are_up_to) := ⟨rfl, rfl, rfl, by decide +kernel, rfl, by decide +kernel, by decide +kernel⟩
section
variable {P : Program} {w : World} {K : PySem.W.Frag} {mg : Str → Option Value} {base : Heap}
theorem ok_is_whole (D : Df K mg "is_whole" s_is_whole ["thing"]) (T : Nms mg) : CallOk P w K mg base CX0 1 "is_whole" ["thing"] spWhole := by
  refine df_ok D sc_is_whole (fun vs H Q E h => ?_) (fun f cdv A outer s H vs Q E hr h => ?_)
  · obtain ⟨v, p, d, rfl, _⟩ := h
    rfl
  · obtain ⟨v, p, d, rfl, hd, k⟩ := h
    have nd := sc_is_whole.nd
    refine ⟨_, (pss_one (ps_ret (pe_and (pe_callB (r := rIsi K) call_isi (by rfl) T.n_isinstance (by decide +kernel) (pa_cons (pv 0) (pa_cons (pe_bltn (v := .ty "int") (by rfl) T.n_int (by decide +kernel) rfl) pa_nil))) (pe_one (pe_not (pe_callB (r := rIsi K) call_isi (by rfl) T.n_isinstance (by decide +kernel) (pa_cons (pv 0) (pa_cons (pe_bltn (v := .ty "bool") (by rfl) T.n_bool (by decide +kernel) rfl) pa_nil)))))))), ?_⟩
    walk_at "op"
    walk_at "st"
    refine ⟨_, _, _, _, _, rfl, .ty _, hd.ty, kit_ty (kit_int d), ?_⟩
    walk_at "st"
    refine ite2 (fun c1 => ?_) (fun c1 => ?_)
    · walk_at "st"
      refine ⟨_, _, _, _, _, rfl, .ty _, hd.ty, kit_ty (kit_bool d), ?_⟩
      walk_at "st"
      refine k _ ?_
      cases d <;> simp_all [isI, isB]
    · refine k _ ?_
      cases d <;> simp_all [isI, isB]
theorem ok_is_up_to (D : Df K mg "is_up_to" s_is_up_to ["thing", "most"]) (T : Nms mg) (c_is_whole : CallOk P w K mg base CX0 1 "is_whole" ["thing"] spWhole) : CallOk P w K mg base CX0 2 "is_up_to" ["thing", "most"] spUpTo := by
  refine df_ok D sc_is_up_to (fun vs H Q E h => ?_) (fun f cdv A outer s H vs Q E hr h => ?_)
  · obtain ⟨v, mv, p, d, rfl, _⟩ := h
    rfl
  · obtain ⟨v, mv, p, d, rfl, hd, hm, k⟩ := h
    have nd := sc_is_up_to.nd
    refine ⟨_, (pss_cons (ps_if (PW.pt (pw_or (pt_not (pt_val (pe_cc c_is_whole (hr.mono (by omega)) (pa_cons (pv 0) pa_nil)))) (pw_or1 (pt_cmpR op_lt (pv 0) pe_int (nomark _))))) (pss_one (ps_ret pe_bl)) pss_nil)
      (pss_one (ps_ret (pe_or (pe_cmpR op_isN (pv 1) pe_non (nomark _)) (pe_one (pe_cmpR op_le (pv 0) (pv 1) (nomark _))))))), ?_⟩
    walk_at "op"
    walk_at "st"
    refine ⟨v, p, d, rfl, hd, fun b hb => ?_⟩
    walk_at "st"
    cases b with
    | false =>
      refine iteT (iteT (k false ⟨fun z => Bool.noConfusion z, fun ⟨i, e, _⟩ => hb.mpr ⟨i, e⟩⟩))
    | true =>
      obtain ⟨i, rfl⟩ := hb.mp rfl
      obtain rfl := hd.isInt
      refine iteF ?_
      walk_at "st"
      refine ite2 (fun c0 => ?_) (fun c0 => ?_)
      · refine k false ⟨fun z => Bool.noConfusion z, fun ⟨j, e, h0, _⟩ => ?_⟩
        cases e
        have := of_decide_eq_true c0
        omega
      · have c1 : 0 ≤ i := by
          have := of_decide_eq_false (Bool.eq_false_iff.mpr c0)
          omega
        walk_at "st"
        rcases hm with rfl | ⟨M, rfl⟩
        · refine iteT (k true ⟨fun _ => ⟨i, rfl, c1, fun M z => by cases z⟩, fun _ => rfl⟩)
        · refine iteF ?_
          walk_at "st"
          refine k _ ⟨fun z => ⟨i, rfl, c1, fun N e => ?_⟩, fun ⟨j, e, _, hM⟩ => ?_⟩
          · cases e
            exact of_decide_eq_true z
          · cases e
            exact decide_eq_true (hM M rfl)
theorem ok_is_tuple_of (D : Df K mg "is_tuple_of" s_is_tuple_of ["thing", "many"]) (T : Nms mg) : CallOk P w K mg base CX0 1 "is_tuple_of" ["thing", "many"] spTupOf := by
  refine df_ok D sc_is_tuple_of (fun vs H Q E h => ?_) (fun f cdv A outer s H vs Q E hr h => ?_)
  · obtain ⟨v, n, p, d, rfl, _⟩ := h
    rfl
  · obtain ⟨v, n, p, d, rfl, hd, k⟩ := h
    have nd := sc_is_tuple_of.nd
    refine ⟨_, (pss_one (ps_ret (pe_and (pe_callB (r := rIsi K) call_isi (by rfl) T.n_isinstance (by decide +kernel) (pa_cons (pv 0) (pa_cons (pe_bltn (v := .ty "tuple") (by rfl) T.n_tuple (by decide +kernel) rfl) pa_nil))) (pe_one (pe_cmpR op_eq (pe_callB (r := rLenS K) call_lenS (by rfl) T.n_len (by decide +kernel) (pa_cons (pv 0) pa_nil)) (pv 1) (nomark _)))))), ?_⟩
    walk_at "op"
    walk_at "st"
    refine ⟨_, _, _, _, _, rfl, .ty _, hd.ty, kit_ty (kit_tuple d), ?_⟩
    walk_at "st"
    refine ite2 (fun c1 => ?_) (fun c1 => ?_)
    · obtain ⟨ds, rfl⟩ := isTu_iff.mp c1
      obtain ⟨a, xs, rfl, ha, _, hs⟩ := hd.isTup
      walk_at "st"
      refine ⟨_, _, rfl, .inr (SqT.of ha), ?_⟩
      walk_at "st"
      refine k _ ⟨fun z => ⟨ds, rfl, ?_⟩, fun ⟨es, e, z⟩ => ?_⟩
      · have := of_decide_eq_true z
        cases this
        rw [hs.1]
      · cases e
        rw [← hs.1] at z
        exact decide_eq_true (by rw [z])
    · exact k false ⟨fun z => Bool.noConfusion z, fun ⟨ds, e, _⟩ => absurd (isTu_iff.mpr ⟨ds, e⟩) c1⟩
theorem ok_are_up_to (D : Df K mg "are_up_to" s_are_up_to ["thing", "many", "most"]) (T : Nms mg) (c_is_tuple_of : CallOk P w K mg base CX0 1 "is_tuple_of" ["thing", "many"] spTupOf)
    (c_is_up_to : CallOk P w K mg base CX0 2 "is_up_to" ["thing", "most"] spUpTo) : CallOk P w K mg base CX0 3 "are_up_to" ["thing", "many", "most"] spAre := by
  refine df_ok D sc_are_up_to (fun vs H Q E h => ?_) (fun f cdv A outer s H vs Q E hr h => ?_)
  · obtain ⟨v, mv, n, p, d, rfl, _⟩ := h
    rfl
  · obtain ⟨v, mv, n, p, d, rfl, hd, hm, k⟩ := h
    have nd := sc_are_up_to.nd
    refine ⟨_, (pss_cons (ps_if (pt_not (pt_val (pe_cc c_is_tuple_of (hr.mono (by omega)) (pa_cons (pv 0) (pa_cons (pv 1) pa_nil))))) (pss_one (ps_ret pe_bl)) pss_nil)
      (pss_cons (ps_for PassesOwn.never rfl (pi_tup (pv 0)) (pg_name (i := 3) nd rfl (Or.inl rfl)) (pss_one (ps_if (pt_not (pt_val (pe_cc c_is_up_to (hr.mono (by omega)) (pa_cons (pv 3) (pa_cons (pv 2) pa_nil))))) (pss_one (ps_ret pe_bl)) pss_nil)))
      (pss_one (ps_ret pe_bl)))), ?_⟩
    walk_at "op"
    walk_at "st"
    refine ⟨v, n, p, d, rfl, hd, fun b hb => ?_⟩
    walk_at "st"
    cases b with
    | false =>
      refine iteT (k false ⟨fun z => Bool.noConfusion z, fun ⟨ds, e, hl, _⟩ => hb.mpr ⟨ds, e, hl⟩⟩)
    | true =>
      obtain ⟨ds, rfl, hl⟩ := hb.mp rfl
      obtain ⟨a, xs, rfl, ha, _, hs⟩ := hd.isTup
      refine iteF ?_
      walk_at "st"
      refine ⟨⟨_, SqT.of ha⟩, fT (xs := xs) (fun i σ H' => H' = H ∧ (∃ u, σ = [some (.ref a), some (.int n), some mv, u]) ∧ ∀ j e, j < i → ds[j]? = some e → UpTo mv e)
        ⟨rfl, ⟨none, rfl⟩, fun j e hj => absurd hj (Nat.not_lt_zero j)⟩ (fun i σ H' _ ⟨e, _⟩ => by rw [e]; exact SqT.of ha) ?_ ?_⟩
      · rintro i x σ H' hx ⟨rfl, ⟨u, rfl⟩, hi⟩
        obtain ⟨e, he, hde⟩ := hs.at hx
        walk_at "op"
        walk_at "st"
        refine ⟨x, mv, p, e, rfl, hde, hm, fun b hb => ?_⟩
        walk_at "st"
        cases b with
        | false =>
          refine iteT (k false ⟨fun z => Bool.noConfusion z, fun ⟨es, e1, _, h2⟩ => ?_⟩)
          cases e1
          exact hb.mpr (h2 e (List.mem_of_getElem? he))
        | true =>
          refine iteF ⟨rfl, ⟨_, rfl⟩, fun j e' hj he' => ?_⟩
          by_cases hji : j = i
          · subst hji
            rw [he] at he'
            cases he'
            exact hb.mp rfl
          · exact hi j e' (by omega) he'
      · rintro σ H' ⟨rfl, _, hi⟩
        walk_at "op"
        refine k true ⟨fun _ => ⟨ds, rfl, hl, fun e he => ?_⟩, fun _ => rfl⟩
        obtain ⟨j, hj⟩ := List.getElem?_of_mem he
        exact hi j e (by rw [hs.1]; exact (List.getElem?_eq_some_iff.mp hj).1) hj
end
end Fm
end FQ1
section FQ2
set_option Elab.async false
set_option linter.all false
set_option maxRecDepth 100000
set_option maxHeartbeats 4000000
local macro_rules | `(tactic| walk_at "ne") => `(tactic| first | assumption | (apply Ne.symm; assumption) | exact L2.ne_of_none (by assumption) (by assumption) | exact Ne.symm (L2.ne_of_none (by assumption) (by assumption)))
local macro_rules | `(tactic| walk_at "hl") => `(tactic| first | assumption | exact L2.upd_same | (refine Eq.trans (L2.upd_ne (by walk_at "ne")) ?_; walk_at "hl"))
local macro_rules | `(tactic| walk_at "sd") => `(tactic| first | (with_reducible show (_ : Int) < _; omega) | (with_reducible show (_ : Int) ≤ _; omega) | assumption | decide | exact ⟨by assumption, by assumption⟩ | exact ⟨by decide, by decide⟩ | exact Or.inr ⟨by decide, by decide⟩ | exact Or.inl ⟨by omega, by omega⟩ | rfl)
local macro_rules | `(tactic| walk_at "st1") => `(tactic| first
  | refine ⟨_, rfl, ?_⟩
  | refine ⟨_, _, rfl, rfl, ?_⟩
  | refine ⟨_, _, rfl, ?_⟩
  | (refine ⟨_, _, _, _, rfl, rfl, L2.SqL.of (by walk_at "hl"), rfl, ?_⟩)
  | (refine ⟨_, _, _, _, rfl, rfl, L2.SqT.of (by walk_at "hl"), rfl, ?_⟩)
  | (refine ⟨_, _, _, _, rfl, rfl, (by walk_at "hl"), rfl, ?_⟩)
  | (refine And.intro (by walk_at "sd") ?_)
  )
local macro_rules | `(tactic| walk_at "st") => `(tactic| repeat walk_at "st1")
local macro_rules | `(tactic| walk_at "op") => `(tactic| try dsimp only [L2.tSeq, L2.tAsg, L2.tOp, L2.tVar, L2.tC, L2.gSub, L2.rI, L2.rI0, L2.rIxL, L2.rIxT, L2.rSetL, L2.tIfS, L2.tTest, L2.tRet, L2.gName, L2.tNext, L2.tAnd, L2.tOr, L2.tNot, L2.tAndV, L2.tOrV, L2.tNotV, L2.tB, L2.tCB, L2.tCons, L2.tNil, L2.tCall, L2.tTup, L2.tLst, L2.tChain, L2.tUn, L2.tPar, L2.tDrop, L2.tIf, L2.tBM, L2.tBM0, L2.rAppend, L2.rCat, L2.rIsi, L2.rIsiT, L2.gTup, L2.gCons, L2.gNil, Fm.tFor_eq, Fm.tLc_eq, L2.iTup, L2.iList, L2.iRng1, L2.iRng2, L2.tSl, L2.tPart, L2.tNoPart, L2.rSlL, L2.rEq, L2.rNe, L2.rU, L2.rEqD, L2.rNeD, Fm.tRevT, Fm.rLenS, Fm.rTupOf, Fm.rLstOf, L2.tDNewK, L2.tCallS, L2.WE, Fm.wKeep, Fm.rIsK, Fm.rIsKT, List.cons_append, List.nil_append, L2.tYes])
namespace Fm
open PySem PySem.Spec PyProof.Rows L2
abbrev s_is_table : Stmt := top 15
abbrev N_is_table : List Str := ["thing", "m", "row", "a", "b"]
theorem sc_is_table : FnScope N_is_table ["thing", "m"] (defScope s_is_table) := ⟨rfl, rfl, rfl, by decide +kernel, rfl, by decide +kernel, by decide +kernel⟩
section
variable {P : Program} {w : World} {K : PySem.W.Frag} {mg : Str → Option Value} {base : Heap}
theorem row_iff {m : Nat} {d : PyData} : (∃ ds, d = .tuple ds ∧ (ds.length : Int) = m ∧ ∀ e ∈ ds, UpTo (.int ((m : Int) - 1)) e) ↔ RowD m d := by
  constructor
  · rintro ⟨ds, rfl, hl, h⟩
    refine ⟨ds, rfl, by omega, fun e he => ?_⟩
    obtain ⟨i, rfl, h0, hM⟩ := h e he
    exact ⟨i, rfl, h0, by have := hM _ rfl; omega⟩
  · rintro ⟨ds, rfl, hl, h⟩
    refine ⟨ds, rfl, by omega, fun e he => ?_⟩
    obtain ⟨i, rfl, h0, hM⟩ := h e he
    exact ⟨i, rfl, h0, fun M z => by cases z; omega⟩
theorem cell_at {H : Hp} {p : Addr} {xs : List V} {ds : List PyData} {m : Nat} (hs : Dats H p xs ds) (hl : ds.length = m) (hr : ∀ r ∈ ds, RowD m r) {a b : Nat} (ha : a < m) (hb : b < m) :
    ∃ (ra : Addr) (ys : List V) (i : Int), xs[a]? = some (.ref ra) ∧ H ra = some (.tup ys) ∧ ys[b]? = some (.int i) ∧ cellD ds a b = .int i ∧ 0 ≤ i ∧ i < m := by
  have e1 : ds[a]? = some ds[a] := List.getElem?_eq_getElem (by omega)
  obtain ⟨es, he, hes, hi⟩ := hr ds[a] (List.getElem_mem _)
  obtain ⟨x, hx, hd⟩ := hs.back e1
  rw [he] at hd
  obtain ⟨ra, ys, rfl, hra, _, hy⟩ := hd.isTup
  have e2 : es[b]? = some es[b] := List.getElem?_eq_getElem (by omega)
  obtain ⟨i, hei, h0, h1⟩ := hi es[b] (List.getElem_mem _)
  obtain ⟨y, hyb, hyd⟩ := hy.back e2
  rw [hei] at hyd
  obtain rfl := hyd.isInt
  refine ⟨ra, ys, i, hx, hra, hyb, ?_, h0, h1⟩
  unfold cellD
  rw [e1, he]
  simp only [e2, hei, Option.getD_some]
theorem ok_is_table (D : Df K mg "is_table" s_is_table ["thing", "m"]) (T : Nms mg) (c_is_tuple_of : CallOk P w K mg base CX0 1 "is_tuple_of" ["thing", "many"] spTupOf)
    (c_are_up_to : CallOk P w K mg base CX0 3 "are_up_to" ["thing", "many", "most"] spAre) : CallOk P w K mg base CX0 4 "is_table" ["thing", "m"] spTable := by
  refine df_ok D sc_is_table (fun vs H Q E h => ?_) (fun f cdv A outer s H vs Q E hr h => ?_)
  · obtain ⟨v, m, p, d, rfl, _⟩ := h
    rfl
  · obtain ⟨v, m, p, d, rfl, hm, hd, k⟩ := h
    have nd := sc_is_table.nd
    refine ⟨_, (pss_cons (ps_if (pt_not (pt_val (pe_cc c_is_tuple_of (hr.mono (by omega)) (pa_cons (pv 0) (pa_cons (pv 1) pa_nil))))) (pss_one (ps_ret pe_bl)) pss_nil)
      (pss_cons (ps_for PassesOwn.never rfl (pi_tup (pv 0)) (pg_name (i := 2) nd rfl (Or.inl rfl)) (pss_one (ps_if (pt_not (pt_val (pe_cc c_are_up_to (hr.mono (by omega)) (pa_cons (pv 2) (pa_cons (pv 1) (pa_cons (pe_op op_sub (pv 1) pe_int) pa_nil)))))) (pss_one (ps_ret pe_bl)) pss_nil)))
      (pss_cons (ps_for PassesOwn.never rfl (pi_range1 rfl T.n_range (pa_cons (pv 1) pa_nil)) (pg_name (i := 3) nd rfl (Or.inl rfl)) (pss_one (ps_for PassesOwn.never rfl (pi_range1 rfl T.n_range (pa_cons (pv 3) pa_nil)) (pg_name (i := 4) nd rfl (Or.inl rfl)) (pss_one (ps_if (pt_cmpR op_ne (pe_ix (r := rIxT K) ix_tup (pe_ix (r := rIxT K) ix_tup (pv 0) (pv 3) (fun _ _ => rfl)) (pv 4) (fun _ _ => rfl)) (pe_ix (r := rIxT K) ix_tup (pe_ix (r := rIxT K) ix_tup (pv 0) (pv 4) (fun _ _ => rfl)) (pv 3) (fun _ _ => rfl)) (nomark _)) (pss_one (ps_ret pe_bl)) pss_nil)))))
      (pss_one (ps_ret pe_bl))))), ?_⟩
    walk_at "op"
    walk_at "st"
    refine ⟨v, m, p, d, rfl, hd, fun b hb => ?_⟩
    walk_at "st"
    cases b with
    | false =>
      refine iteT (k false ⟨fun z => Bool.noConfusion z, fun ⟨ds, e, hl, _⟩ => hb.mpr ⟨ds, e, by omega⟩⟩)
    | true =>
      obtain ⟨ds, rfl, hl'⟩ := hb.mp rfl
      have hl : ds.length = m := by omega
      obtain ⟨a, xs, rfl, ha, _, hs⟩ := hd.isTup
      refine iteF ?_
      walk_at "st"
      refine ⟨⟨_, SqT.of ha⟩, fT (xs := xs) (fun i σ H' => H' = H ∧ (∃ u, σ = [some (.ref a), some (.int m), u, none, none]) ∧ ∀ j e, j < i → ds[j]? = some e → RowD m e)
        ⟨rfl, ⟨none, rfl⟩, fun j e hj => absurd hj (Nat.not_lt_zero j)⟩ (fun i σ H' _ ⟨e, _⟩ => by rw [e]; exact SqT.of ha) ?_ ?_⟩
      · rintro i x σ H' hx ⟨rfl, ⟨u, rfl⟩, hi⟩
        obtain ⟨e, he, hde⟩ := hs.at hx
        walk_at "op"
        walk_at "st"
        refine ⟨x, _, m, p, e, rfl, hde, .inr ⟨_, rfl⟩, fun b hb => ?_⟩
        rw [row_iff] at hb
        walk_at "st"
        cases b with
        | false =>
          refine iteT (k false ⟨fun z => Bool.noConfusion z, fun ⟨es, e1, _, h2, _⟩ => ?_⟩)
          cases e1
          exact hb.mpr (h2 e (List.mem_of_getElem? he))
        | true =>
          refine iteF ⟨rfl, ⟨_, rfl⟩, fun j e' hj he' => ?_⟩
          by_cases hji : j = i
          · subst hji
            rw [he] at he'
            cases he'
            exact hb.mp rfl
          · exact hi j e' (by omega) he'
      · rintro σ H' ⟨rfl, ⟨u, rfl⟩, hi⟩
        have hrow : ∀ r ∈ ds, RowD m r := fun r hr => by
          obtain ⟨j, hj⟩ := List.getElem?_of_mem hr
          exact hi j r (by rw [hs.1]; exact (List.getElem?_eq_some_iff.mp hj).1) hj
        walk_at "op"
        walk_at "st"
        rw [Int.toNat_natCast]
        refine fR (fun i σ H1 => H1 = H' ∧ (∃ u1 u2 u3, σ = [some (.ref a), some (.int m), u1, u2, u3]) ∧ ∀ x y, x < i → y < x → cellD ds x y = cellD ds y x)
          ⟨rfl, ⟨_, _, _, rfl⟩, fun x y hx => absurd hx (Nat.not_lt_zero x)⟩ ?_ ?_
        · rintro i σ H1 hi1 ⟨rfl, ⟨u1, u2, u3, rfl⟩, hsy⟩
          rw [Int.zero_add]
          walk_at "op"
          walk_at "st"
          rw [Int.toNat_natCast]
          refine fR (fun j σ H2 => H2 = H1 ∧ (∃ u1 u3, σ = [some (.ref a), some (.int m), u1, some (.int i), u3]) ∧ ∀ y, y < j → cellD ds i y = cellD ds y i)
            ⟨rfl, ⟨_, _, rfl⟩, fun y hy => absurd hy (Nat.not_lt_zero y)⟩ ?_ ?_
          · rintro j σ H2 hj ⟨rfl, ⟨u1, u3, rfl⟩, hsj⟩
            rw [Int.zero_add]
            obtain ⟨ra, ya, x1, a1, a2, a3, a4, _⟩ := cell_at hs hl hrow (a := i) (b := j) hi1 (by omega)
            obtain ⟨rb, yb, x2, b1, b2, b3, b4, _⟩ := cell_at hs hl hrow (a := j) (b := i) (by omega) hi1
            walk_at "op"
            walk_at "st"
            refine ⟨_, _, _, _, rfl, rfl, SqT.of ha, atI_nat a1, ?_⟩
            walk_at "st"
            refine ⟨_, _, _, _, rfl, rfl, SqT.of a2, atI_nat a3, ?_⟩
            walk_at "st"
            refine ⟨_, _, _, _, rfl, rfl, SqT.of ha, atI_nat b1, ?_⟩
            walk_at "st"
            refine ⟨_, _, _, _, rfl, rfl, SqT.of b2, atI_nat b3, rfl, ?_⟩
            walk_at "st"
            refine ite2 (fun c0 => ?_) (fun c0 => ?_)
            · refine k false ⟨fun z => Bool.noConfusion z, fun ⟨es, e1, _, _, h3⟩ => ?_⟩
              cases e1
              have q := h3 i j hi1 (by omega)
              rw [a4, b4] at q
              cases q
              simp at c0
            · refine ⟨rfl, ⟨_, _, rfl⟩, fun y hy => ?_⟩
              by_cases hyj : y = j
              · subst hyj
                rw [a4, b4]
                simp at c0
                rw [c0]
              · exact hsj y (by omega)
          · rintro σ H2 ⟨rfl, ⟨u1, u3, rfl⟩, hsj⟩
            refine ⟨rfl, ⟨_, _, _, rfl⟩, fun x y hx hy => ?_⟩
            by_cases hxi : x = i
            · subst hxi
              exact hsj y hy
            · exact hsy x y (by omega) hy
        · rintro σ H1 ⟨rfl, _, hsy⟩
          walk_at "op"
          refine k true ⟨fun _ => ⟨ds, rfl, hl, hrow, fun x y hx hy => ?_⟩, fun _ => rfl⟩
          rcases Nat.lt_trichotomy x y with h | h | h
          · exact (hsy y x hy h).symm
          · rw [h]
          · exact hsy x y hx h
end
end Fm
end FQ2
section FQ3
set_option Elab.async false
set_option linter.all false
set_option maxRecDepth 100000
set_option maxHeartbeats 4000000
local macro_rules | `(tactic| walk_at "ne") => `(tactic| first | assumption | (apply Ne.symm; assumption) | exact L2.ne_of_none (by assumption) (by assumption) | exact Ne.symm (L2.ne_of_none (by assumption) (by assumption)))
local macro_rules | `(tactic| walk_at "hl") => `(tactic| first | assumption | exact L2.upd_same | (refine Eq.trans (L2.upd_ne (by walk_at "ne")) ?_; walk_at "hl"))
local macro_rules | `(tactic| walk_at "sd") => `(tactic| first | (with_reducible show (_ : Int) < _; omega) | (with_reducible show (_ : Int) ≤ _; omega) | assumption | decide | exact ⟨by assumption, by assumption⟩ | exact ⟨by decide, by decide⟩ | exact Or.inr ⟨by decide, by decide⟩ | exact Or.inl ⟨by omega, by omega⟩ | rfl)
local macro_rules | `(tactic| walk_at "st1") => `(tactic| first
  | refine ⟨_, rfl, ?_⟩
  | refine ⟨_, _, rfl, rfl, ?_⟩
  | refine ⟨_, _, rfl, ?_⟩
  | (refine ⟨_, _, _, _, rfl, rfl, L2.SqL.of (by walk_at "hl"), rfl, ?_⟩)
  | (refine ⟨_, _, _, _, rfl, rfl, L2.SqT.of (by walk_at "hl"), rfl, ?_⟩)
  | (refine ⟨_, _, _, _, rfl, rfl, (by walk_at "hl"), rfl, ?_⟩)
  | (refine And.intro (by walk_at "sd") ?_)
  )
local macro_rules | `(tactic| walk_at "st") => `(tactic| repeat walk_at "st1")
local macro_rules | `(tactic| walk_at "op") => `(tactic| try dsimp only [L2.tSeq, L2.tAsg, L2.tOp, L2.tVar, L2.tC, L2.gSub, L2.rI, L2.rI0, L2.rIxL, L2.rIxT, L2.rSetL, L2.tIfS, L2.tTest, L2.tRet, L2.gName, L2.tNext, L2.tAnd, L2.tOr, L2.tNot, L2.tAndV, L2.tOrV, L2.tNotV, L2.tB, L2.tCB, L2.tCons, L2.tNil, L2.tCall, L2.tTup, L2.tLst, L2.tChain, L2.tUn, L2.tPar, L2.tDrop, L2.tIf, L2.tBM, L2.tBM0, L2.rAppend, L2.rCat, L2.rIsi, L2.rIsiT, L2.gTup, L2.gCons, L2.gNil, Fm.tFor_eq, Fm.tLc_eq, L2.iTup, L2.iList, L2.iRng1, L2.iRng2, L2.tSl, L2.tPart, L2.tNoPart, L2.rSlL, L2.rEq, L2.rNe, L2.rU, L2.rEqD, L2.rNeD, Fm.tRevT, Fm.rLenS, Fm.rTupOf, Fm.rLstOf, L2.tDNewK, L2.tCallS, L2.WE, Fm.wKeep, Fm.rIsK, Fm.rIsKT, List.cons_append, List.nil_append, L2.tYes])
namespace Fm
open PySem PySem.Spec PyProof.Rows L2
abbrev s_is_house : Stmt := top 14
abbrev N_is_house : List Str := ["thing", "floor", "first", "stay", "up"]
theorem sc_is_house : FnScope N_is_house ["thing"] (defScope s_is_house) := ⟨rfl, rfl, rfl, by decide +kernel, rfl, by decide +kernel, by decide +kernel⟩
section
variable {P : Program} {w : World} {K : PySem.W.Frag} {mg : Str → Option Value} {base : Heap}
theorem ok_is_house (D : Df K mg "is_house" s_is_house ["thing"]) (T : Nms mg) {tF tN : Tok} (c_MOST_FLOORS : mg "MOST_FLOORS" = some (.int 4 tF)) (c_MOST_NUMBERS : mg "MOST_NUMBERS" = some (.int 6 tN))
    (c_is_tuple_of : CallOk P w K mg base CX0 1 "is_tuple_of" ["thing", "many"] spTupOf) (c_is_table : CallOk P w K mg base CX0 4 "is_table" ["thing", "m"] spTable) : CallOk P w K mg base CX0 5 "is_house" ["thing"] spHouse := by
  refine df_ok D sc_is_house (fun vs H Q E h => ?_) (fun f cdv A outer s H vs Q E hr h => ?_)
  · obtain ⟨v, p, d, rfl, _⟩ := h
    rfl
  · obtain ⟨v, p, d, rfl, hd, k⟩ := h
    have nd := sc_is_house.nd
    refine ⟨_, (pss_cons (ps_if (PW.pt (pw_or (pt_not (pt_val (pe_callB (r := rIsi K) call_isi (by rfl) T.n_isinstance (by decide +kernel) (pa_cons (pv 0) (pa_cons (pe_bltn (v := .ty "tuple") (by rfl) T.n_tuple (by decide +kernel) rfl) pa_nil))))) (pw_or1 (pt_not (pt_chain op_le op_le pe_int (pe_callB (r := rLenS K) call_lenS (by rfl) T.n_len (by decide +kernel) (pa_cons (pv 0) pa_nil)) (pe_glob (v := .int 4) rfl c_MOST_FLOORS ⟨_, rfl⟩)))))) (pss_one (ps_ret pe_bl)) pss_nil)
      (pss_cons (ps_for PassesOwn.never rfl (pi_tup (pv 0)) (pg_name (i := 1) nd rfl (Or.inl rfl)) (pss_one (ps_if (pt_not (pt_val (pe_cc c_is_tuple_of (hr.mono (by omega)) (pa_cons (pv 1) (pa_cons pe_int pa_nil))))) (pss_one (ps_ret pe_bl)) pss_nil)))
      (pss_cons (ps_set (i := 2) nd rfl (Or.inl rfl) (pe_ix (r := rIxT K) ix_tup (pe_ix (r := rIxT K) ix_tup (pv 0) pe_int (fun _ _ => rfl)) pe_int (fun _ _ => rfl)))
      (pss_cons (ps_if (PW.pt (pw_or (pt_not (pt_val (pe_callB (r := rIsi K) call_isi (by rfl) T.n_isinstance (by decide +kernel) (pa_cons (pv 2) (pa_cons (pe_bltn (v := .ty "tuple") (by rfl) T.n_tuple (by decide +kernel) rfl) pa_nil))))) (pw_or1 (pt_not (pt_chain op_le op_le pe_int (pe_callB (r := rLenS K) call_lenS (by rfl) T.n_len (by decide +kernel) (pa_cons (pv 2) pa_nil)) (pe_glob (v := .int 6) rfl c_MOST_NUMBERS ⟨_, rfl⟩)))))) (pss_one (ps_ret pe_bl)) pss_nil)
      (pss_cons (ps_for PassesOwn.never rfl (pi_tup (pv 0)) (pg_tup rfl (pgs_cons (pg_name (i := 3) nd rfl (Or.inl rfl)) (pgs_cons (pg_name (i := 4) nd rfl (Or.inl rfl)) pgs_nil))) (pss_one (ps_if (PW.pt (pw_or (pt_not (pt_val (pe_cc c_is_table (hr.mono (by omega)) (pa_cons (pv 3) (pa_cons (pe_callB (r := rLenS K) call_lenS (by rfl) T.n_len (by decide +kernel) (pa_cons (pv 2) pa_nil)) pa_nil))))) (pw_or1 (pt_not (pt_val (pe_cc c_is_table (hr.mono (by omega)) (pa_cons (pv 4) (pa_cons (pe_callB (r := rLenS K) call_lenS (by rfl) T.n_len (by decide +kernel) (pa_cons (pv 2) pa_nil)) pa_nil)))))))) (pss_one (ps_ret pe_bl)) pss_nil)))
      (pss_one (ps_ret pe_bl))))))), ?_⟩
    walk_at "op"
    walk_at "st"
    refine ⟨_, _, _, _, _, rfl, .ty _, hd.ty, kit_ty (kit_tuple d), ?_⟩
    walk_at "st"
    by_cases ht : isTu d = true
    · obtain ⟨ds, rfl⟩ := isTu_iff.mp ht
      obtain ⟨a, xs, rfl, ha, _, hs⟩ := hd.isTup
      refine iteF ?_
      walk_at "st"
      refine ⟨_, _, rfl, .inr (SqT.of ha), ?_⟩
      walk_at "st"
      by_cases hlo : 1 ≤ xs.length ∧ xs.length ≤ 4
      · rw [decide_eq_true (show (1 : Int) ≤ (xs.length : Int) by omega)]
        refine iteT ?_
        walk_at "st"
        rw [decide_eq_true (show (xs.length : Int) ≤ 4 by omega)]
        refine iteF ?_
        walk_at "st"
        refine ⟨⟨_, SqT.of ha⟩, fT (xs := xs) (fun i σ H' => H' = H ∧ (∃ u, σ = [some (.ref a), u, none, none, none]) ∧ ∀ j e, j < i → ds[j]? = some e → ∃ es, e = .tuple es ∧ es.length = 2)
          ⟨rfl, ⟨none, rfl⟩, fun j e hj => absurd hj (Nat.not_lt_zero j)⟩ (fun i σ H' _ ⟨e, _⟩ => by rw [e]; exact SqT.of ha) ?_ ?_⟩
        · rintro i x σ H' hx ⟨rfl, ⟨u, rfl⟩, hi⟩
          obtain ⟨e, he, hde⟩ := hs.at hx
          walk_at "op"
          walk_at "st"
          refine ⟨x, 2, p, e, rfl, hde, fun b hb => ?_⟩
          walk_at "st"
          cases b with
          | false =>
            refine iteT (k false ⟨fun z => Bool.noConfusion z, fun ⟨m, n, fs, e1, _, _, _, _, _, h3⟩ => ?_⟩)
            cases e1
            obtain ⟨s1, u1, e2, _⟩ := h3 e (List.mem_of_getElem? he)
            exact hb.mpr ⟨_, e2, rfl⟩
          | true =>
            refine iteF ⟨rfl, ⟨_, rfl⟩, fun j e' hj he' => ?_⟩
            by_cases hji : j = i
            · subst hji
              rw [he] at he'
              cases he'
              obtain ⟨es, e1, e2⟩ := hb.mp rfl
              exact ⟨es, e1, by omega⟩
            · exact hi j e' (by omega) he'
        · rintro σ H' ⟨rfl, ⟨u, rfl⟩, hi⟩
          have hpair : ∀ (j : Nat) (e : PyData), ds[j]? = some e → ∃ s1 u1, e = .tuple [s1, u1] := fun j e he => by
            obtain ⟨es, e1, e2⟩ := hi j e (by rw [hs.1]; exact (List.getElem?_eq_some_iff.mp he).1) he
            match es, e2 with
            | [s1, u1], _ => exact ⟨s1, u1, e1⟩
          have hd0 : ds[0]? = some ds[0] := List.getElem?_eq_getElem (by rw [← hs.1]; omega)
          obtain ⟨s0, u0, e0⟩ := hpair 0 _ hd0
          rw [e0] at hd0
          obtain ⟨x0, hx0, hdx0⟩ := hs.back hd0
          obtain ⟨a0, y0, rfl, ha0, _, hs0⟩ := hdx0.isTup
          obtain ⟨z0, hz0, hdz0⟩ := hs0.back (i := 0) (d := s0) rfl
          walk_at "op"
          walk_at "st"
          refine ⟨_, _, _, _, rfl, rfl, SqT.of ha, atI_nat (j := 0) hx0, ?_⟩
          walk_at "st"
          refine ⟨_, _, _, _, rfl, rfl, SqT.of ha0, atI_nat (j := 0) hz0, ?_⟩
          walk_at "st"
          refine ⟨_, _, _, _, _, rfl, .ty _, hdz0.ty, kit_ty (kit_tuple s0), ?_⟩
          walk_at "st"
          have hfirst : ∀ m n, HouseN m n (.tuple ds) → TabD m s0 := fun m n ⟨fs, e1, _, _, _, _, _, h3⟩ => by
            cases e1
            obtain ⟨s1, u1, e2, h4, _⟩ := h3 _ (List.mem_of_getElem? hd0)
            cases e2
            exact h4
          by_cases ht0 : isTu s0 = true
          · obtain ⟨es0, rfl⟩ := isTu_iff.mp ht0
            obtain ⟨af, yf, rfl, haf, _, hsf⟩ := hdz0.isTup
            refine iteF ?_
            walk_at "st"
            refine ⟨_, _, rfl, .inr (SqT.of haf), ?_⟩
            walk_at "st"
            have hm0 : ∀ m n, HouseN m n (.tuple ds) → m = yf.length ∧ 1 ≤ m ∧ m ≤ 6 := fun m n hN => by
              obtain ⟨rs, e1, e2, _⟩ := hfirst m n hN
              cases e1
              obtain ⟨_, _, _, _, _, q1, q2, _⟩ := hN
              exact ⟨by rw [hsf.1, e2], q1, q2⟩
            by_cases hm1 : 1 ≤ yf.length ∧ yf.length ≤ 6
            · rw [decide_eq_true (show (1 : Int) ≤ (yf.length : Int) by omega)]
              refine iteT ?_
              walk_at "st"
              rw [decide_eq_true (show (yf.length : Int) ≤ 6 by omega)]
              refine iteF ?_
              walk_at "st"
              refine ⟨⟨_, SqT.of ha⟩, fT (xs := xs) (fun i σ H1 => H1 = H' ∧ (∃ u1 u2 u3, σ = [some (.ref a), u1, some (.ref af), u2, u3]) ∧ ∀ j e, j < i → ds[j]? = some e → FloorD yf.length e)
                ⟨rfl, ⟨_, _, _, rfl⟩, fun j e hj => absurd hj (Nat.not_lt_zero j)⟩ (fun i σ H1 _ ⟨e, _⟩ => by rw [e]; exact SqT.of ha) ?_ ?_⟩
              · rintro i x σ H1 hx ⟨rfl, ⟨u1, u2, u3, rfl⟩, hfl⟩
                obtain ⟨e, he, hde⟩ := hs.at hx
                obtain ⟨s1, v1, rfl⟩ := hpair i e he
                obtain ⟨ai, yi, rfl, hai, _, hsi⟩ := hde.isTup
                have hlen : yi.length = 2 := hsi.1
                match yi, hlen with
                | [w1, w2], _ =>
                have hw1 : Dat H1 p w1 s1 := hsi.2 0 w1 s1 rfl rfl
                have hw2 : Dat H1 p w2 v1 := hsi.2 1 w2 v1 rfl rfl
                walk_at "op"
                refine ⟨ai, _, rfl, SqT.of hai, rfl, _, _, rfl, _, _, rfl, rfl, ?_⟩
                walk_at "op"
                walk_at "st"
                refine ⟨_, _, rfl, .inr (SqT.of haf), ?_⟩
                refine ⟨w1, yf.length, p, s1, rfl, by omega, hw1, fun b1 hb1 => ?_⟩
                walk_at "st"
                cases b1 with
                | false =>
                  refine iteT (iteT (k false ⟨fun z => Bool.noConfusion z, fun ⟨m, n, hN⟩ => ?_⟩))
                  obtain ⟨rfl, _, _⟩ := hm0 m n hN
                  obtain ⟨fs, e1, _, _, _, _, _, h3⟩ := hN
                  cases e1
                  obtain ⟨s2, v2, e2, h4, _⟩ := h3 _ (List.mem_of_getElem? he)
                  cases e2
                  exact hb1.mpr h4
                | true =>
                  refine iteF ?_
                  walk_at "st"
                  refine ⟨_, _, rfl, .inr (SqT.of haf), ?_⟩
                  refine ⟨w2, yf.length, p, v1, rfl, by omega, hw2, fun b2 hb2 => ?_⟩
                  walk_at "st"
                  cases b2 with
                  | false =>
                    refine iteT (k false ⟨fun z => Bool.noConfusion z, fun ⟨m, n, hN⟩ => ?_⟩)
                    obtain ⟨rfl, _, _⟩ := hm0 m n hN
                    obtain ⟨fs, e1, _, _, _, _, _, h3⟩ := hN
                    cases e1
                    obtain ⟨s2, v2, e2, _, h4⟩ := h3 _ (List.mem_of_getElem? he)
                    cases e2
                    exact hb2.mpr h4
                  | true =>
                    refine iteF ⟨rfl, ⟨_, _, _, rfl⟩, fun j e' hj he' => ?_⟩
                    by_cases hji : j = i
                    · subst hji
                      rw [he] at he'
                      cases he'
                      exact ⟨s1, v1, rfl, hb1.mp rfl, hb2.mp rfl⟩
                    · exact hfl j e' (by omega) he'
              · rintro σ H1 ⟨rfl, _, hfl⟩
                walk_at "op"
                refine k true ⟨fun _ => ⟨yf.length, xs.length, ds, rfl, hs.1.symm, hlo.1, hlo.2, hm1.1, hm1.2, fun e he => ?_⟩, fun _ => rfl⟩
                obtain ⟨j, hj⟩ := List.getElem?_of_mem he
                exact hfl j e (by rw [hs.1]; exact (List.getElem?_eq_some_iff.mp hj).1) hj
            · have no : ¬ HouseD (.tuple ds) := fun ⟨m, n, hN⟩ => by
                obtain ⟨e1, q1, q2⟩ := hm0 m n hN
                exact hm1 (by omega)
              by_cases h1 : 1 ≤ yf.length
              · rw [decide_eq_true (show (1 : Int) ≤ (yf.length : Int) by omega)]
                refine iteT ?_
                walk_at "st"
                rw [decide_eq_false (show ¬ (yf.length : Int) ≤ 6 by omega)]
                exact iteT (k false ⟨fun z => Bool.noConfusion z, fun z => (no z).elim⟩)
              · rw [decide_eq_false (show ¬ (1 : Int) ≤ (yf.length : Int) by omega)]
                refine iteF ?_
                walk_at "st"
                exact iteT (k false ⟨fun z => Bool.noConfusion z, fun z => (no z).elim⟩)
          · have no : ¬ HouseD (.tuple ds) := fun ⟨m, n, hN⟩ => by
              obtain ⟨rs, e1, _⟩ := hfirst m n hN
              exact ht0 (isTu_iff.mpr ⟨rs, e1⟩)
            rw [Bool.eq_false_iff.mpr ht0]
            exact iteT (iteT (k false ⟨fun z => Bool.noConfusion z, fun z => (no z).elim⟩))
      · have no : ¬ HouseD (.tuple ds) := fun ⟨m, n, fs, e1, e2, q1, q2, _⟩ => by
          cases e1
          exact hlo (by rw [hs.1]; omega)
        by_cases h1 : 1 ≤ xs.length
        · rw [decide_eq_true (show (1 : Int) ≤ (xs.length : Int) by omega)]
          refine iteT ?_
          walk_at "st"
          rw [decide_eq_false (show ¬ (xs.length : Int) ≤ 4 by omega)]
          exact iteT (k false ⟨fun z => Bool.noConfusion z, fun z => (no z).elim⟩)
        · rw [decide_eq_false (show ¬ (1 : Int) ≤ (xs.length : Int) by omega)]
          refine iteF ?_
          walk_at "st"
          exact iteT (k false ⟨fun z => Bool.noConfusion z, fun z => (no z).elim⟩)
    · have no : ¬ HouseD d := fun ⟨m, n, fs, e1, _⟩ => ht (isTu_iff.mpr ⟨fs, e1⟩)
      rw [Bool.eq_false_iff.mpr ht]
      exact iteT (iteT (k false ⟨fun z => Bool.noConfusion z, fun z => (no z).elim⟩))
end
end Fm
end FQ3
section FR4
set_option Elab.async false
set_option linter.all false
set_option maxRecDepth 100000
set_option maxHeartbeats 4000000
local macro_rules | `(tactic| walk_at "ne") => `(tactic| first | assumption | (apply Ne.symm; assumption) | exact L2.ne_of_none (by assumption) (by assumption) | exact Ne.symm (L2.ne_of_none (by assumption) (by assumption)))
local macro_rules | `(tactic| walk_at "hl") => `(tactic| first | assumption | exact L2.upd_same | (refine Eq.trans (L2.upd_ne (by walk_at "ne")) ?_; walk_at "hl"))
local macro_rules | `(tactic| walk_at "sd") => `(tactic| first | (with_reducible show (_ : Int) < _; omega) | (with_reducible show (_ : Int) ≤ _; omega) | assumption | decide | exact ⟨by assumption, by assumption⟩ | exact ⟨by decide, by decide⟩ | exact Or.inr ⟨by decide, by decide⟩ | exact Or.inl ⟨by omega, by omega⟩ | rfl)
local macro_rules | `(tactic| walk_at "st1") => `(tactic| first
  | refine ⟨_, rfl, ?_⟩
  | refine ⟨_, _, rfl, rfl, ?_⟩
  | refine ⟨_, _, rfl, ?_⟩
  | (refine ⟨_, _, _, _, rfl, rfl, L2.SqL.of (by walk_at "hl"), rfl, ?_⟩)
  | (refine ⟨_, _, _, _, rfl, rfl, L2.SqT.of (by walk_at "hl"), rfl, ?_⟩)
  | (refine ⟨_, _, _, _, rfl, rfl, (by walk_at "hl"), rfl, ?_⟩)
  | (refine And.intro (by walk_at "sd") ?_)
  )
local macro_rules | `(tactic| walk_at "st") => `(tactic| repeat walk_at "st1")
local macro_rules | `(tactic| walk_at "op") => `(tactic| try dsimp only [L2.tSeq, L2.tAsg, L2.tOp, L2.tVar, L2.tC, L2.gSub, L2.rI, L2.rI0, L2.rIxL, L2.rIxT, L2.rSetL, L2.tIfS, L2.tTest, L2.tRet, L2.gName, L2.tNext, L2.tAnd, L2.tOr, L2.tNot, L2.tAndV, L2.tOrV, L2.tNotV, L2.tB, L2.tCB, L2.tCons, L2.tNil, L2.tCall, L2.tTup, L2.tLst, L2.tChain, L2.tUn, L2.tPar, L2.tDrop, L2.tIf, L2.tBM, L2.tBM0, L2.rAppend, L2.rCat, L2.rIsi, L2.rIsiT, L2.gTup, L2.gCons, L2.gNil, Fm.tFor_eq, Fm.tLc_eq, L2.iTup, L2.iList, L2.iRng1, L2.iRng2, L2.tSl, L2.tPart, L2.tNoPart, L2.rSlL, L2.rEq, L2.rNe, L2.rU, L2.rEqD, L2.rNeD, Fm.tRevT, Fm.rLenS, Fm.rTupOf, Fm.rLstOf, L2.tDNewK, L2.tCallS, L2.WE, Fm.wKeep, Fm.rIsK, Fm.rIsKT, List.cons_append, List.nil_append, L2.tYes])
namespace Fm
open PySem PySem.Spec PyProof.Rows L2
abbrev s_size : Stmt := top 16
abbrev N_size : List Str := ["house"]
theorem sc_size : FnScope N_size ["house"] (defScope s_size) := ⟨rfl, rfl, rfl, by decide +kernel, rfl, by decide +kernel, by decide +kernel⟩
section
variable {P : Program} {w : World} {K : PySem.W.Frag} {mg : Str → Option Value} {base : Heap}
theorem ok_size (D : Df K mg "size" s_size ["house"]) (T : Nms mg) {C M : Addr} (EX : Exn K mg "NoHouse" C M) (c_is_house : CallOk P w K mg base CX0 5 "is_house" ["thing"] spHouse) : CallOk P w K mg base (L2.CX P w) 6 "size" ["house"] (spSize C) := by
  refine df_okX D sc_size (fun vs H Q E h => ?_) (fun f cdv A outer s H vs Q E hr h => ?_)
  · obtain ⟨v, p, d, rfl, _⟩ := h
    rfl
  · obtain ⟨v, p, d, rfl, hd, k1, k2⟩ := h
    have nd := sc_size.nd
    refine ⟨_, (pss_cons (ps_if (pt_not (pt_val (pe_cc c_is_house (hr.mono (by omega)) (pa_cons (pv 0) pa_nil)))) (pss_one (ps_raiseE rfl (takes_of rfl rfl rfl rfl) EX rfl)) pss_nil)
      (pss_one (ps_ret (pe_tup (pa_cons (pe_callB (r := rLenS K) call_lenS (by rfl) T.n_len (by decide +kernel) (pa_cons (pe_ix (r := rIxT K) ix_tup (pe_ix (r := rIxT K) ix_tup (pv 0) pe_int (fun _ _ => rfl)) pe_int (fun _ _ => rfl)) pa_nil)) (pa_cons (pe_callB (r := rLenS K) call_lenS (by rfl) T.n_len (by decide +kernel) (pa_cons (pv 0) pa_nil)) pa_nil)))))), ?_⟩
    walk_at "op"
    walk_at "st"
    refine ⟨v, p, d, rfl, hd, fun b hb => ?_⟩
    walk_at "st"
    cases b with
    | false => exact iteT (k2 fun z => Bool.noConfusion (hb.mpr z))
    | true =>
      obtain ⟨m, n, hN⟩ := hb.mp rfl
      obtain ⟨fs, rfl, hl, h1, _, _, _, hf⟩ := id hN
      obtain ⟨a, xs, rfl, ha, _, hs⟩ := hd.isTup
      have hd0 : fs[0]? = some fs[0] := List.getElem?_eq_getElem (by omega)
      obtain ⟨s0, u0, e0, ⟨rs, e1, e2, _⟩, _⟩ := hf fs[0] (List.getElem_mem _)
      rw [e0] at hd0
      subst e1
      obtain ⟨x0, hx0, hdx0⟩ := hs.back hd0
      obtain ⟨a0, y0, rfl, ha0, _, hs0⟩ := hdx0.isTup
      obtain ⟨z0, hz0, hdz0⟩ := hs0.back (i := 0) rfl
      obtain ⟨af, yf, rfl, haf, _, hsf⟩ := hdz0.isTup
      refine iteF ?_
      walk_at "op"
      walk_at "st"
      refine ⟨_, _, _, _, rfl, rfl, SqT.of ha, atI_nat (j := 0) hx0, ?_⟩
      walk_at "st"
      refine ⟨_, _, _, _, rfl, rfl, SqT.of ha0, atI_nat (j := 0) hz0, ?_⟩
      refine ⟨_, _, rfl, .inr (SqT.of haf), ?_⟩
      walk_at "st"
      refine ⟨_, _, rfl, .inr (SqT.of ha), ?_⟩
      refine ⟨by show 2 ≤ sizeLine; decide, fun q hq => ?_⟩
      refine k1 m n hN q _ hq ?_ (same_new hq)
      rw [upd_same, hsf.1, e2, hs.1, hl]
end
end Fm
end FR4
section FFmMore
set_option Elab.async false
set_option linter.all false
set_option maxRecDepth 100000
set_option maxHeartbeats 4000000
namespace Fm
open PySem PySem.Spec PyProof.Rows L2
/-- the sum of a tuple's ints -/
def rSumT (K : PySem.W.Frag) : List V → Hp → VK → Prop := fun vs H Q => ∃ (a : Addr) (ns : List Int), vs = [V.ref a] ∧ SqT K H a (ns.map V.int) ∧ Q (.int ns.sum) H
theorem cr_sumT {X : Cx} (hc : X.calm = true) : CallR X (.builtin "sum") (rSumT X.K) := by
  intro pins s σ H vs us Q I r h
  obtain ⟨a, ns, rfl, hs, q⟩ := h
  obtain ⟨its, rv, ⟨o, ho, hcl, n, hd⟩, _⟩ := I.tuple hs
  obtain rfl := Vals.ref1 r
  have hi := rv.ints
  obtain ⟨xs, e⟩ := hi.allInts.items
  have hn : numsOf (PySem.intItems xs).toList = ns := by rw [← e]; exact hi.numsOf
  rw [nums_intItems] at hn
  rw [e] at hd
  refine PySem.W.ktm_sumG (I.ok.hd hc) ⟨o, ho, hcl, n, hd⟩ fun h' tk t' hk => ?_
  rw [preSum_eq, List.take_of_length_le (by simp), hn]
  exact ⟨.int _, H, I.kept hk, ⟨_, rfl⟩, q⟩
def rSumI (K : PySem.W.Frag) : List V → Hp → VK → Prop := fun vs H Q => rSum K vs H Q ∨ rSumT K vs H Q
theorem cr_sumI {X : Cx} (hc : X.calm = true) : CallR X (.builtin "sum") (rSumI X.K) := (cr_sum hc).or (cr_sumT hc)
/-- xs[i], read by xs[i] += e -/
def rGetL (K : PySem.W.Frag) : V → V → Hp → VK → Prop := fun x y H Q => ∃ (p : Addr) (xs : List V) (i : Nat) (v : V), x = .ref p ∧ y = .int i ∧ SqL K H p xs ∧ xs[i]? = some v ∧ Q v H
theorem get_list {X : Cx} : PGet X (rGetL X.K) := by
  intro pins s σ H o i ov iv Q I ro ri h
  obtain ⟨p, xs, i, z, rfl, rfl, hq, he, q⟩ := h
  cases ro
  obtain ⟨t, rfl⟩ := ri
  obtain ⟨its, r, pl, hz⟩ := I.list hq
  obtain ⟨u, eu, ru⟩ := r.get he
  have hi : i < xs.length := (List.getElem?_eq_some_iff.mp he).1
  have hn := line63
  refine wpAny_getItem_list pl.isList (by omega) (by omega) (x := u) (by simpa using eu) ?_
  exact ⟨z, H, I, ru, q⟩
/-- a tuple at a, its items counted -/
def IteT (K : PySem.W.Frag) (a : Addr) : It where
  go := fun i H => ∃ (xs : List V) (x : V), SqT K H a xs ∧ xs[i]? = some x
  yld := fun i H v H' => ∃ T x, v = .ref T ∧ H T = none ∧ H' = upd H T (.tup [.int (i : Nat), x]) ∧ ∀ xs, SqT K H a xs → xs[i]? = some x
  stop := fun i H => ∃ xs : List V, SqT K H a xs ∧ xs.length ≤ i
end Fm
end FFmMore
section FFmMore2
set_option Elab.async false
set_option linter.all false
set_option maxRecDepth 100000
set_option maxHeartbeats 4000000
namespace Fm
open PySem PySem.Spec PyProof.Rows L2
/-- the enumerate object e over the tuple at a, its iterator at it, i turns on -/
def EnT (a e it : Addr) (its : Array Value) (i : Nat) (h : Heap) : Prop := (∃ old, IsEnum h e it ((i : Nat) : Int) old) ∧ (h.IsTupleIter it a i ∧ h.IsTuple a its) ∧ e ≠ it ∧ a ≠ it ∧ e ≠ a
theorem turn_enumT {P : Program} {w : World} {K : PySem.W.Frag} {elts : List Expr} {kk : Nat} {tpos : Pos} (a e it : Addr) (hei : e ≠ it) (hai : a ≠ it) (hea : e ≠ a) :
    Turn P w K (.Tuple elts kk tpos) (IteT K a) [e, it] e (fun i h => (∃ old, IsEnum h e it ((i : Nat) : Int) old) ∧ h.IsTupleIter it a i) where
  mem := List.mem_cons_self
  obj := fun i h st b hb => by
    obtain ⟨⟨old, he⟩, o, ho, _, hd⟩ := st
    rcases List.mem_cons.mp hb with z | z
    · subst z
      exact ⟨_, he, fun v q => nomatch q⟩
    · obtain rfl := List.mem_singleton.mp z
      exact ⟨o, ho, fun v q => by rw [hd] at q; cases q⟩
  keep := fun i h h' st k => by
    obtain ⟨⟨old, he⟩, hi⟩ := st
    exact ⟨⟨old, k e List.mem_cons_self _ he⟩, hi.at fun o q => k it (List.mem_cons_of_mem _ List.mem_cons_self) o q⟩
  item := by
    intro X hP hw hK hc i pins s σ H E I hf st hg
    subst hP hw hK
    obtain ⟨⟨old, he⟩, hit⟩ := st
    obtain ⟨xs, x, hq, hx⟩ := hg
    obtain ⟨its, rv, ⟨o, ho, hoc, no, hod⟩, hz⟩ := I.tuple hq
    have ht : s.heap.IsTuple a its.toArray := ⟨o, ho, hoc, no, hod⟩
    obtain ⟨u, hu, ru⟩ := rv.get hx
    have hlt : i < its.toArray.size := by
      rw [List.size_toArray, ← rv.length]
      exact (List.getElem?_eq_some_iff.mp hx).1
    have hel : e < s.heap.objs.size := Heap.lt_size he
    have hil : it < s.heap.objs.size := by
      obtain ⟨_, q, _⟩ := hit
      exact Heap.lt_size q
    have hef : e ∉ [it, a] := by
      intro z
      rcases List.mem_cons.mp z with z | z
      · exact hei z
      · exact hea (List.mem_singleton.mp z)
    refine wpAny_pyNext_enum_itemD (Draws.tuple (prog := X.prog) (w := X.w) (A := X.A.in1) (show X.A.in1.handled = none from I.ok.hd hc) it a hai its.toArray) he ⟨hit, ht⟩ hlt hei hef fun y h' tk hy ho' st' hT hsz hk => ?_
    have ey : y = u := by
      have q : its.toArray[i]? = some u := by simpa using hu
      rw [q] at hy
      exact (Option.some.inj hy).symm
    subst ey
    refine ⟨_, rfl, wpAny_letOwnedTupleGo_enum (s := { s with heap := h', toks := tk + 1 }) ho' fun h2 he2 sb => ?_⟩
    have hT2 : h2.get? s.heap.objs.size = some { cls := .type "tuple", data := .seq #[.int i tk, y] } := (sb.2 _ (Nat.ne_of_gt hel)).trans hT
    have new : ObjOk X.prog X.w (upd H s.heap.objs.size (.tup [.int (i : Nat), x])) h2 s.heap.objs.size (.tup [.int (i : Nat), x]) := by
      refine ⟨by show 2 ≤ sizeLine; decide, [.int i tk, y], .cons ⟨_, rfl⟩ (.cons ru .nil), _, hT2, rfl, _, rfl⟩
    have old2 : ∀ b ob, b ∉ [e, it] → s.heap.get? b = some ob → h2.get? b = some ob := fun b ob hb q => by
      have n1 : b ≠ e := fun z => hb (z ▸ List.mem_cons_self)
      have n2 : b ≠ it := fun z => hb (z ▸ List.mem_cons_of_mem _ List.mem_cons_self)
      exact (sb.2 b n1).trans (hk b ob n1 n2 q)
    have I1 := I.turnedNew (t' := tk + 1) (ch := [e, it]) old2 hf (Nat.le_refl _) new
    refine ⟨.ref s.heap.objs.size, _, I1, rfl, ⟨_, x, rfl, I.hok.fresh (Nat.le_refl _), rfl, fun ys hy => ?_⟩, ⟨⟨y, ?_⟩, ?_⟩, fun b hb => ?_⟩
    · rw [I.tuple_inj hy hq]
      exact hx
    · have e1 : ((i + 1 : Nat) : Int) = (i : Int) + 1 := by omega
      rw [e1]
      exact he2
    · exact st'.1.at fun ob q => (sb.2 it (Ne.symm hei)).trans q
    · have hb' : b < s.heap.objs.size := by
        rcases List.mem_cons.mp hb with z | z
        · rw [z]; exact hel
        · rw [List.mem_singleton.mp z]; exact hil
      rw [upd_ne (Nat.ne_of_lt hb')]
      exact (hf b hb).1
  done := by
    intro X hP hw hK hc i pins s σ H E I hf st hg
    subst hP hw hK
    obtain ⟨⟨old, he⟩, hit⟩ := st
    obtain ⟨xs, hq, hx⟩ := hg
    obtain ⟨its, rv, ⟨o, ho, hoc, no, hod⟩, hz⟩ := I.tuple hq
    have ht : s.heap.IsTuple a its.toArray := ⟨o, ho, hoc, no, hod⟩
    obtain ⟨f0, f1, f2, f3, f4, f5⟩ := hf it (List.mem_cons_of_mem _ List.mem_cons_self)
    have hl : its.toArray.size ≤ i := by
      rw [List.size_toArray, ← rv.length]
      exact hx
    have D : Draws X.prog X.w X.A.in1 it [it, a] i (fun _ _ => False) (fun j h => j = i ∧ h.IsTupleIter it a i ∧ h.IsTuple a its.toArray) := {
      live := fun _ _ st => by
        obtain ⟨o, ho, _⟩ := st.2.1
        exact ⟨o, ho⟩
      frame := fun j h h' st hk => ⟨st.1, st.2.1.at fun o e => hk it List.mem_cons_self o e, st.2.2.at fun o e => hk a (List.mem_cons_of_mem _ List.mem_cons_self) o e⟩
      item := fun j s Q E hj st hQ => absurd st.1 (Nat.ne_of_lt hj)
      done := fun s Q E st hE => wpAny_nextOf_tuple_end (show X.A.in1.handled = none from I.ok.hd hc) st.2.1 st.2.2 (Array.getElem?_eq_none hl) hE }
    exact wpAny_pyNext_enum_endD D he ⟨rfl, hit, ht⟩ fun h' eb => ⟨rfl, I.turned (t' := s.toks) (fun b o hb q => eb b o hb q) f0 f1 f3 f4 f5⟩
  self := fun A i s Q E st h => by
    obtain ⟨⟨_, he⟩, _⟩ := st
    exact wpAny_pyIter_enum he h
end Fm
end FFmMore2
section FFmMore3
set_option Elab.async false
set_option linter.all false
set_option maxRecDepth 100000
set_option maxHeartbeats 4000000
namespace Fm
open PySem PySem.Spec PyProof.Rows L2
theorem meets_enumT (a : Addr) (its : Array Value) :
    Meets (Builtin.«enumerate.__new__» ⟨[.type "enumerate", .ref a], []⟩) (fun _ R s => s.heap.IsTuple a its ∧
      R (.ok (.ret (.ref (s.heap.push { cls := .type "tuple_iterator", data := .fields #[.ref a, .int 0 0] }).objs.size)))
        { s with heap := (s.heap.push { cls := .type "tuple_iterator", data := .fields #[.ref a, .int 0 0] }).push { cls := .type "enumerate", data := .fields #[.none, .bool false, .ref s.heap.objs.size, rawInt 0, .none, .none] } }) :=
  .of_wp fun prog w A R s hh => by
    obtain ⟨hp, g, d, tk, os⟩ := s
    obtain ⟨hT, hh⟩ := hh
    have hsub := PySem.sub_enumerate
    have it1 : ∀ {A' : Around} {E : Value → Shared → Prop} {Q : Value → Shared → Prop}, Q (.ref hp.objs.size) ⟨hp.push { cls := .type "tuple_iterator", data := .fields #[.ref a, .int 0 0] }, g, d, tk, os⟩ → wpAny (model prog w) A' (pyIter (.ref a)) Q E ⟨hp, g, d, tk, os⟩ :=
      fun q => wpAny_pyIter_tuple (s := ⟨hp, g, d, tk, os⟩) hT q
    wp_walk using it1
    refine wpAny_stack_any fun st => wpAny_pure ?_
    split
    · rename_i cc _ _ _ _ _
      cases (cc == Value.type "enumerate") <;> (wp_walk using it1; exact ⟨_, rfl, hh⟩)
    · wp_walk using it1
      exact ⟨_, rfl, hh⟩
theorem call_enumT {prog : Program} {w : World} {A : Around} {E : Value → Shared → Prop} {s : Shared} {a : Addr} {its : Array Value} {Q : Value → Shared → Prop} (hT : s.heap.IsTuple a its)
    (h : ∀ h', IsEnum h' (s.heap.objs.size + 1) s.heap.objs.size 0 .none → h'.IsTupleIter s.heap.objs.size a 0 → (∀ b o, s.heap.get? b = some o → h'.get? b = some o) → Q (.ref (s.heap.objs.size + 1)) { s with heap := h' }) :
    wpAny (model prog w) A (call (.type "enumerate") [.ref a]) Q E s := by
  refine callType_new F.called_enumerate (by decide) (F.typeCall_enumerate_1 _) (F.newCall_enumerate_1 _) (fun obj => F.args_object_init_2 obj _) F.entry_enumerate_new (meets_enumT a its) ⟨hT, ?_⟩
  let h1 := s.heap.push { cls := .type "tuple_iterator", data := .fields #[.ref a, .int 0 0] }
  have hz : h1.objs.size = s.heap.objs.size + 1 := Heap.size_push ..
  show _ ∧ _
  rw [hz]
  let h2 := h1.push { cls := .type "enumerate", data := .fields #[.none, .bool false, .ref s.heap.objs.size, rawInt 0, .none, .none] }
  have he : IsEnum h2 (s.heap.objs.size + 1) s.heap.objs.size 0 .none := by
    have q := Heap.get?_push_size h1 (o := { cls := .type "enumerate", data := .fields #[.none, .bool false, .ref s.heap.objs.size, rawInt 0, .none, .none] }) rfl
    rw [hz] at q
    exact q
  refine ⟨⟨_, he, rfl⟩, h h2 he ⟨_, Heap.get?_push_of_some _ (Heap.get?_push_size _ rfl), rfl, rfl⟩ fun b o x => Heap.get?_push_of_some _ (Heap.get?_push_of_some _ x)⟩
def iEnumT (K : PySem.W.Frag) (ta : TA) : TI := fun σ H R => ta σ H fun vs H1 => ∃ a xs, vs = [.ref a] ∧ SqT K H1 a xs ∧ R (IteT K a) H1
theorem pi_enumT {X : Cx} {e : Expr} {ta : TA} {p pos tpos : Pos} {elts : List Expr} {kk : Nat} (hg : Gl X "enumerate") (hm : X.mg "enumerate" = none) (ha : PA X [e] ta) (hs : starEach [e] X.env = [(false, eval e X.env)] := by rfl) :
    PI X (.Tuple elts kk tpos) (.Call (.Name "enumerate" p) [e] [] pos) (iEnumT X.K ta) := by
  refine ⟨fun pins s σ H R I h => ?_⟩
  refine Call_ (ld_blt I hg hm boot_enumerate (PyProof.Rows.callWith_type1 (thn (ha.run pos pins s σ H _ I h) fun us s1 ⟨vs, H1, I1, r1, q1⟩ => ?_) hs rfl))
  obtain ⟨a, xs, rfl, hq, q⟩ := q1
  obtain rfl := Vals.ref1 r1
  obtain ⟨its, rv, ⟨o, ho, hoc, no, hod⟩, hz⟩ := I1.tuple hq
  have hal : a < s1.heap.objs.size := Heap.lt_size ho
  refine call_enumT (its := its.toArray) ⟨o, ho, hoc, no, hod⟩ fun h' he hit hk => wpAny_pyIter_enum he ?_
  have I2 : Inv X pins σ H1 { s1 with heap := h' } := I1.kept (t' := s1.toks) hk
  refine ⟨s1.heap.objs.size + 1, [s1.heap.objs.size + 1, s1.heap.objs.size], _, _, H1, rfl, I2, turn_enumT a (s1.heap.objs.size + 1) s1.heap.objs.size (Nat.succ_ne_self _) (Nat.ne_of_lt hal) (Nat.ne_of_gt (Nat.lt_succ_of_lt hal)), ⟨⟨.none, he⟩, hit⟩, fun b hb => ?_, q⟩
  have hle : s1.heap.objs.size ≤ b := by
    rcases List.mem_cons.mp hb with z | z
    · rw [z]; exact Nat.le_succ _
    · rw [List.mem_singleton.mp z]; exact Nat.le_refl _
  exact I1.fpOk hle (I1.hok.fresh hle)
theorem walk_enumT {K : PySem.W.Frag} {a : Addr} {xs : List V} : Walk (IteT K a) xs.length (fun H => SqT K H a xs) (YPair (fun i => some (.int (i : Nat))) (fun i => xs[i]?)) where
  goes := fun i _ hi q => ⟨xs, xs[i], q, List.getElem?_eq_getElem hi⟩
  stops := fun _ q => ⟨xs, q, Nat.le_refl _⟩
  yields := fun i H v H' _ q y => by
    obtain ⟨T, x, h1, h2, h3, h4⟩ := y
    exact ⟨T, _, x, h1, h2, h3, rfl, h4 xs q⟩
theorem walk_zipT {K : PySem.W.Frag} {a b : Addr} {xs ys : List V} (hn : xs.length = ys.length) : Walk (RZ.ItzT K a b) xs.length (fun H => SqT K H a xs ∧ SqT K H b ys) (YPair (fun i => xs[i]?) (fun i => ys[i]?)) where
  goes := fun i _ hi q => ⟨xs, ys, xs[i], ys[i]'(by omega), q.1, q.2, List.getElem?_eq_getElem hi, List.getElem?_eq_getElem (by omega)⟩
  stops := fun _ q => ⟨xs, ys, q.1, q.2, .inl (Nat.le_refl _)⟩
  yields := fun i H v H' _ q y => by
    obtain ⟨T, x, z, h1, h2, h3, h4, h5⟩ := y
    exact ⟨T, x, z, h1, h2, h3, h4 xs q.1, h5 ys q.2⟩
section
variable {J : It} {n : Nat} {G : Hp → Prop} {Y : Nat → Hp → V → Hp → Prop}
theorem fI (w : Walk J n G Y) {g : TG} {tb : TS} {D : Ends} {σ : L2.St} {H : Hp} (Pv : Nat → L2.St → Hp → Prop) (h0 : Pv 0 σ H) (hG : ∀ i σ H, i ≤ n → Pv i σ H → G H)
    (hs : ∀ i x σ H H', i < n → Pv i σ H → Y i H x H' → g x σ H' fun σ2 H2 => tb { D with nx := Pv (i + 1), ct := Pv (i + 1), bk := D.nx } σ2 H2) (hd : ∀ σ H, Pv n σ H → D.nx σ H) : ForB J g tb D σ H := for_it w Pv h0 hG hs hd
theorem lI (w : Walk J n G Y) {g : TG} {tt : TT} {te : TE} {vs : List Nat} {σ : L2.St} {H1 : Hp} {D : Addr} {Qd : Hp → Prop} (Pv : Nat → Hp → Prop) (h0 : Pv 0 (upd H1 D (.lst []))) (hG : ∀ i H, i ≤ n → Pv i H → G H)
    (hs : ∀ i x H H', i < n → Pv i H → Y i H x H' → g x (wipe σ vs) H' fun σ2 H2 => wipe σ2 vs = wipe σ vs ∧ tt σ2 H2 fun b H3 =>
      if b = true then te σ2 H3 fun y H4 => ∃ acc, H4 D = some (.lst acc) ∧ acc.length < sizeLine ∧ Pv (i + 1) (upd H4 D (.lst (acc ++ [y]))) else Pv (i + 1) H3) (hd : ∀ H, Pv n H → Qd H) : LcB J g tt te vs σ H1 D Qd := lc_it w Pv h0 hG hs hd
end
end Fm
end FFmMore3
section FFmSumL
set_option Elab.async false
set_option linter.all false
set_option maxRecDepth 100000
set_option maxHeartbeats 4000000
namespace Fm
open PySem PySem.Spec PyProof.Rows L2
/-- the list at b holds us -/
def LstAt (h : Heap) (b : Addr) (us : List Value) : Prop := ∃ n, h.get? b = some { cls := .type "list", data := .seq us.toArray n }
section
variable {prog : Program} {w : World} {A : Around} {R : Result → Shared → Prop} {I : Addr} {fp wr : List Addr} {G : Array GenState → Array GenState → Prop} {n : Nat} {P : Nat → Value → Prop} {St : Nat → Shared → Prop}
/-- what is summed: lists -/
theorem sum_loop_lists (W : WalksS prog w A.in1 I fp wr G n P St) (parts : Nat → List Value) (hP : ∀ i v, P i v → ∃ b, v = .ref b) (hlive : ∀ i s, St i s → ∀ b ∈ wr, b < s.heap.objs.size) (B : Nat) (hB : ∀ i s, St i s → B ≤ s.heap.objs.size) (S : Addr) (hSf : S ∉ fp) :
    ∀ (k i : Nat) (s : Shared) (t : Addr) (us : List Value) (c : Nat), n - i = k → i ≤ n → St i s → s.heap.get? S = some { cls := .type "list", dict := none, data := .seq #[.ref t] c, slots := #[] } → LstAt s.heap t us → t ≠ S → t ∉ wr → 
    (∀ j b s', i ≤ j → j < n → P j (.ref b) → Moved (S :: wr) G s s' → LstAt s'.heap b (parts j) ∧ b ≠ S ∧ b ∉ wr) → (us ++ ((List.range n).drop i).flatMap parts).length ≤ sizeLine →
    (∀ s' t', Moved (S :: wr) G s s' → LstAt s'.heap t' (us ++ ((List.range n).drop i).flatMap parts) → ((t' = t ∧ i = n) ∨ (B ≤ t' ∧ i < n)) → R (.ok (.ret (.ref t'))) s') → codeAny (model prog w) A (.builtin "sum.loop" ⟨[.ref I, .ref S, rawInt 2, rawInt 0], []⟩) R s := by
  have hSw : S ∉ wr := fun h => hSf (W.sub _ h)
  have hsub : ∀ b ∈ wr, b ∈ S :: wr := fun b hb => List.mem_cons_of_mem _ hb
  intro k
  induction k with
  | zero =>
    intro i s t us c hk hi hst hS hT htS htw hparts hlen hR
    obtain rfl : i = n := by omega
    refine codeAny_builtin F.entry_sum_loop ?_
    rw [Around.under_plainId F.plain_sum_loop _]
    show wpAny _ A.in1 (seqItems? (.ref S) >>= _) _ _ s
    refine wpAny_bind (wpAny_seqItems hS rfl ?_)
    show wpAny _ A.in1 (tryCatch (pyNext (.ref I)) _ >>= _) _ _ s
    refine wpAny_bind (wpAny_tryCatch (W.done s _ _ hst fun s' hm => ?_))
    refine wpAny_pure (hR s' t (hm.mono hsub) ?_ (.inl ⟨rfl, rfl⟩))
    obtain ⟨m, e⟩ := hT
    have e0 : (List.range i).drop i = [] := by simp
    rw [e0, List.flatMap_nil, List.append_nil]
    exact ⟨m, hm.heap t _ htw e⟩
  | succ k ih =>
    intro i s t us c hk hi hst hS hT htS htw hparts hlen hR
    have hlt : i < n := by omega
    refine codeAny_builtin F.entry_sum_loop ?_
    rw [Around.under_plainId F.plain_sum_loop _]
    show wpAny _ A.in1 (seqItems? (.ref S) >>= _) _ _ s
    refine wpAny_bind (wpAny_seqItems hS rfl ?_)
    show wpAny _ A.in1 (tryCatch (pyNext (.ref I)) _ >>= _) _ _ s
    refine wpAny_bind (wpAny_tryCatch (W.item i s _ _ hlt hst fun v s' hPv hst' hm => ?_))
    obtain ⟨b, rfl⟩ := hP i v hPv
    have hS' := hm.heap S _ hSw hS
    obtain ⟨⟨nb, hb⟩, hbS, hbw⟩ := hparts i b s' (Nat.le_refl _) hlt hPv (hm.mono hsub)
    obtain ⟨nt, ht⟩ := hT
    have ht' := hm.heap t _ htw ht
    have e0 : (List.range n).drop i = i :: (List.range n).drop (i + 1) := by
      rw [List.drop_eq_getElem_cons (by simpa using hlt)]
      simp
    rw [e0, List.flatMap_cons] at hlen
    have hl2 : us.length + (parts i).length ≤ sizeLine := by
      rw [List.length_append, List.length_append] at hlen
      omega
    show wpAny _ A.in1 ((holding [Value.ref b] (binaryOp .Add (.ref t) (.ref b))).attempt >>= _) _ _ _
    refine wpAny_bind (wpAny_attempt (wpAny_holding (PySem.P.add_list ht' hb ?_ (by rw [List.size_toArray, List.size_toArray]; exact hl2))))
    let hp1 := s'.heap.push { cls := .type "list", data := .seq (us.toArray ++ (parts i).toArray) }
    have hS1 : hp1.get? S = _ := Heap.get?_push_of_some _ hS'
    show wpAny _ A.in1 (updateSeq S (fun _ => #[.ref s'.heap.objs.size]) >>= _) _ _ _
    refine wpAny_bind (wpAny_updateSeq hS1 rfl ?_)
    have hS2 := Heap.get?_update_self (Obj.mapSeq fun _ => #[Value.ref s'.heap.objs.size]) hS1 rfl
    refine wpAny_bind (wpAny_letGo ?_)
    refine wpAny_bind (wpAny_updateSeq hS2 rfl (wpAny_pure ⟨plainId_quiet F.plain_sum_loop _, ?_⟩))
    have eS : ∀ {x : Addr} {o : Obj}, x ≠ S → s'.heap.get? x = some o → ((hp1.update S (Obj.mapSeq fun _ => #[Value.ref s'.heap.objs.size])).update S (Obj.mapSeq fun _ => #[Value.ref s'.heap.objs.size])).get? x = some o := fun {x o} hx q =>
      (Heap.get?_update_other _ _ (Ne.symm hx)).trans ((Heap.get?_update_other _ _ (Ne.symm hx)).trans (Heap.get?_push_of_some _ q))
    have hSl : S < s'.heap.objs.size := Heap.lt_size hS'
    have nS : s'.heap.objs.size ≠ S := Nat.ne_of_gt hSl
    have hN : ((hp1.update S (Obj.mapSeq fun _ => #[Value.ref s'.heap.objs.size])).update S (Obj.mapSeq fun _ => #[Value.ref s'.heap.objs.size])).get? s'.heap.objs.size = some { cls := .type "list", data := .seq (us.toArray ++ (parts i).toArray) } :=
      (Heap.get?_update_other _ _ (Ne.symm nS)).trans ((Heap.get?_update_other _ _ (Ne.symm nS)).trans (Heap.get?_push_size _ rfl))
    have hmv : Moved (S :: wr) G s { s' with heap := (hp1.update S (Obj.mapSeq fun _ => #[Value.ref s'.heap.objs.size])).update S (Obj.mapSeq fun _ => #[Value.ref s'.heap.objs.size]) } :=
      (hm.mono hsub).then_heap (Nat.le_refl _) fun x o hx q => eS (fun z => hx (z ▸ List.mem_cons_self)) q
    refine ih (i + 1) _ s'.heap.objs.size (us ++ parts i) _ (by omega) hlt (W.frame _ s' _ _ hst' (Nat.le_refl _) fun x hx o q => eS (fun z => hSf (z ▸ hx)) q) (Heap.get?_update_self _ hS2 rfl) ⟨0, hN.trans (by simp)⟩ nS
      (fun z => Nat.lt_irrefl _ (hlive _ _ hst' _ z)) (fun j x s2 hj1 hj2 hpx hm2 => hparts j x s2 (by omega) hj2 hpx (Moved.trans W.gtrans hmv hm2)) (by rw [List.append_assoc]; exact hlen) fun s2 t2 hm2 hl2 hc => ?_
    refine hR s2 t2 (Moved.trans W.gtrans hmv hm2) (by rw [e0, List.flatMap_cons, ← List.append_assoc]; exact hl2) (.inr ⟨?_, hlt⟩)
    rcases hc with ⟨rfl, _⟩ | ⟨hc, _⟩
    · exact hB _ _ hst'
    · exact hc
end
theorem sub_list_str : isSubtype (.type "list") (.type "str") = pure false := by rw [isSubtype_type]; kernel_rfl
theorem sub_list_bytes : isSubtype (.type "list") (.type "bytes") = pure false := by rw [isSubtype_type]; kernel_rfl
theorem sub_list_bytearray : isSubtype (.type "list") (.type "bytearray") = pure false := by rw [isSubtype_type]; kernel_rfl
theorem args_sum2 (a b : Value) : argsOk "sum" ⟨[a, b], []⟩ := by unfold argsOk; kernel_rfl
section
variable {prog : Program} {w : World} {A : Around} {E : Value → Shared → Prop} {s : Shared}
theorem call_sum_lists {l t : Addr} {its : Array Value} {parts : Nat → List Value} {us : List Value} {Q : Value → Shared → Prop} (hh : A.handled = none) (hl : s.heap.IsList l its) (hr : ∀ i v, its[i]? = some v → ∃ b, v = .ref b ∧ LstAt s.heap b (parts i))
    (ht : LstAt s.heap t us) (hz : (us ++ (List.range its.size).flatMap parts).length ≤ sizeLine)
    (hQ : ∀ h' t', (∀ b o, s.heap.get? b = some o → h'.get? b = some o) → LstAt h' t' (us ++ (List.range its.size).flatMap parts) → ((t' = t ∧ its.size = 0) ∨ (s.heap.objs.size ≤ t' ∧ 0 < its.size)) → ∀ tk, Q (.ref t') { s with heap := h', toks := tk }) :
    wpAny (model prog w) A (call (.builtin "sum") [.ref l, .ref t]) Q E s := by
  obtain ⟨ol, hol, hcl, nl, hdl⟩ := id hl
  obtain ⟨nt, hot⟩ := id ht
  refine call_function_tree F.kind_sum F.plain_sum F.entry_sum (args_sum2 _ _) ?_
  unfold Builtin.«sum»
  simp only [List.length_cons, List.length_nil]
  rw [if_neg (by decide)]
  refine wpAny_bind (wpAny_of_eq (show Builtin.Builtins.bindParams "sum" ["start"] 0 ⟨[.ref t], []⟩ = pure [some (.ref t)] from rfl) ?_)
  refine wpAny_bind (wpAny_pyIter_list hl ?_)
  refine wpAny_bind (wpAny_pure ?_)
  let I := s.heap.objs.size
  let h1 := s.heap.push { cls := .type "list_iterator", data := .fields #[.ref l, .int 0 0] }
  have hot1 : h1.get? t = _ := Heap.get?_push_of_some _ hot
  have tt : ∀ (s' : Shared), s'.heap = h1 → s'.TypeIs (.ref t) "list" := fun s' e => ⟨_, by rw [e]; exact hot1, rfl⟩
  simp only [List.forIn_cons, List.forIn_nil]
  refine wpAny_bind (wpAny_bind (wpAny_bind (wpAny_isInstance (T := "list") (b := false) (tt _ rfl) sub_list_str ?_)))
  simp only [Bool.false_eq_true, if_false]
  refine wpAny_pure (wpAny_bind (wpAny_bind (wpAny_isInstance (T := "list") (b := false) (tt _ rfl) sub_list_bytes ?_)))
  simp only [Bool.false_eq_true, if_false]
  refine wpAny_pure (wpAny_bind (wpAny_bind (wpAny_isInstance (T := "list") (b := false) (tt _ rfl) sub_list_bytearray ?_)))
  simp only [Bool.false_eq_true, if_false]
  refine wpAny_pure (wpAny_pure ?_)
  refine wpAny_bind (wpAny_newObj_type ?_)
  refine wpAny_pure ⟨plainId_quiet F.plain_sum_loop _, ?_⟩
  have hlI : l ≠ I := Nat.ne_of_lt (Heap.lt_size hol)
  have htI : t ≠ I := Nat.ne_of_lt (Heap.lt_size hot)
  have hz1 : h1.objs.size = I + 1 := Heap.size_push ..
  have W0 := Walks.list (prog := prog) (w := w) (A := A.in1) (show A.in1.handled = none from hh) I l hlI its
  have W1 := W0.toS
  have hSI : h1.objs.size ≠ I := by
    rw [hz1]
    exact Nat.succ_ne_self _
  have hlS : l ≠ h1.objs.size := by
    rw [hz1]
    exact Nat.ne_of_lt (Nat.lt_succ_of_lt (Heap.lt_size hol))
  have htS : t ≠ h1.objs.size := by
    rw [hz1]
    exact Nat.ne_of_lt (Nat.lt_succ_of_lt (Heap.lt_size hot))
  have keep0 : ∀ {o : Obj} (b : Addr) (ob : Obj), s.heap.get? b = some ob → (h1.push o).get? b = some ob := fun b ob q => Heap.get?_push_of_some _ (Heap.get?_push_of_some _ q)
  have hdrop : (List.range its.size).drop 0 = List.range its.size := rfl
  refine sum_loop_lists W1 parts (fun i v hv => (hr i v hv).imp fun b q => q.1) (fun i s' st b hb => ?_) I (fun i s' st => ?_) h1.objs.size (fun z => ?_) its.size 0 _ t us _ (by omega) (Nat.zero_le _) ⟨⟨_, Heap.get?_push_of_some _ (Heap.get?_push_size _ rfl), rfl, rfl⟩, hl.at fun o e => keep0 l o e⟩ (Heap.get?_push_size _ rfl)
    ⟨_, keep0 t _ hot⟩ htS (fun z => htI (List.mem_singleton.mp z)) (fun j b s' _ hj hb hm => ?_) (by rw [hdrop]; exact hz) fun s' t' hm hl' hc => ?_
  · obtain rfl := List.mem_singleton.mp hb
    obtain ⟨_, q, _⟩ := st.1
    exact Heap.lt_size q
  · obtain ⟨_, q, _⟩ := st.1
    exact Nat.le_of_lt (Heap.lt_size q)
  · rcases List.mem_cons.mp z with z | z
    · exact hSI z
    · exact hlS (List.mem_singleton.mp z).symm
  · obtain ⟨b', eb, nb, hob⟩ := hr j _ hb
    cases eb
    have hbI : b ≠ I := Nat.ne_of_lt (Heap.lt_size hob)
    have hbS : b ≠ h1.objs.size := by
      rw [hz1]
      exact Nat.ne_of_lt (Nat.lt_succ_of_lt (Heap.lt_size hob))
    refine ⟨⟨nb, hm.heap b _ (fun z => ?_) (keep0 b _ hob)⟩, hbS, fun z => hbI (List.mem_singleton.mp z)⟩
    rcases List.mem_cons.mp z with z | z
    · exact hbS z
    · exact hbI (List.mem_singleton.mp z)
  · obtain ⟨h', g', d', tk', os'⟩ := s'
    obtain rfl : g' = s.gens := hm.gens
    obtain rfl : d' = s.drawn := hm.drawn
    obtain rfl : os' = s.os := hm.os
    refine hQ h' t' (fun b o q => hm.heap b o (fun z => ?_) (keep0 b o q)) (by rw [hdrop] at hl'; exact hl') (by rcases hc with ⟨a, b⟩ | ⟨a, b⟩; exact .inl ⟨a, b.symm⟩; exact .inr ⟨a, b⟩) tk'
    have hb := Heap.lt_size q
    rcases List.mem_cons.mp z with z | z
    · rw [z, hz1] at hb
      exact absurd hb (by show ¬ I + 1 < I; omega)
    · rw [List.mem_singleton.mp z] at hb
      exact Nat.lt_irrefl _ hb
end
/-- sum(xs, start), lists -/
def rSumL (K : PySem.W.Frag) : List V → Hp → VK → Prop := fun vs H Q => ∃ (a t : Addr) (xs zs : List V) (parts : Nat → List V), vs = [.ref a, .ref t] ∧ SqL K H a xs ∧ H t = some (.lst zs) ∧ 0 < xs.length ∧
  (∀ i x, xs[i]? = some x → ∃ b, x = .ref b ∧ H b = some (.lst (parts i))) ∧ (zs ++ (List.range xs.length).flatMap parts).length ≤ sizeLine ∧ ∀ p, H p = none → Q (.ref p) (upd H p (.lst (zs ++ (List.range xs.length).flatMap parts)))
theorem vals_flat {f : Nat → List V} {g : Nat → List Value} : ∀ {l : List Nat}, (∀ i ∈ l, Vals (f i) (g i)) → Vals (l.flatMap f) (l.flatMap g)
  | [], _ => .nil
  | i :: r, h => by
    rw [List.flatMap_cons, List.flatMap_cons]
    exact (h i List.mem_cons_self).append (vals_flat fun j hj => h j (List.mem_cons_of_mem _ hj))
theorem cr_sumL {X : Cx} (hc : X.calm = true) : CallR X (.builtin "sum") (rSumL X.K) := by
  intro pins s σ H vs us Q I r h
  obtain ⟨a, t, xs, zs, parts, rfl, hs, hz, h0, hp, hlen, q⟩ := h
  obtain ⟨u1, u2, rfl, r1, r2⟩ : ∃ u1 u2, us = [u1, u2] ∧ RelV (.ref a) u1 ∧ RelV (.ref t) u2 := by
    cases r with
    | cons r1 rr =>
      cases rr with
      | cons r2 rr =>
        cases rr
        exact ⟨_, _, rfl, r1, r2⟩
  cases r1
  cases r2
  obtain ⟨its, rv, hl, hlz⟩ := I.list hs
  obtain ⟨hzz, iz, nz, rz, ez⟩ := (show ObjOk X.prog X.w H s.heap t (.lst zs) from I.hok t _ hz)
  have ex : ∀ i, ∃ g : List Value, ∀ x, xs[i]? = some x → Vals (parts i) g ∧ ∃ b, x = .ref b ∧ LstAt s.heap b g := fun i => by
    cases e : xs[i]? with
    | none => exact ⟨[], fun x q => by cases q⟩
    | some x =>
      obtain ⟨b, rfl, hb⟩ := hp i x e
      obtain ⟨_, g, n, rg, eg⟩ := (show ObjOk X.prog X.w H s.heap b (.lst (parts i)) from I.hok b _ hb)
      exact ⟨g, fun y q => by cases q; exact ⟨rg, b, rfl, n, eg⟩⟩
  obtain ⟨g, hg⟩ := Classical.axiomOfChoice ex
  have hn : its.toArray.size = xs.length := by rw [List.size_toArray, rv.length]
  have vf : Vals (zs ++ (List.range xs.length).flatMap parts) (iz ++ (List.range xs.length).flatMap g) := rz.append (vals_flat fun i hi => by
    have hi' := List.mem_range.mp hi
    exact (hg i xs[i] (List.getElem?_eq_getElem hi')).1)
  refine call_sum_lists (parts := g) (us := iz) (I.ok.hd hc) hl.isList (fun i v hv => ?_) ⟨nz, ez⟩ (by rw [hn, ← vf.length]; exact hlen) fun h' t' hk hl' hcs tk => ?_
  · have hv' : its[i]? = some v := by simpa using hv
    have hi : i < xs.length := by
      rw [rv.length]
      exact (List.getElem?_eq_some_iff.mp hv').1
    obtain ⟨_, b, eb, hb⟩ := hg i xs[i] (List.getElem?_eq_getElem hi)
    obtain ⟨u, hu, ru⟩ := rv.get (List.getElem?_eq_getElem hi)
    rw [hv'] at hu
    cases hu
    rw [eb] at ru
    cases ru
    exact ⟨b, rfl, hb⟩
  · rw [hn] at hl' hcs
    rcases hcs with ⟨_, z⟩ | ⟨hge, _⟩
    · omega
    · obtain ⟨n', e'⟩ := hl'
      refine ⟨.ref t', _, I.laid (t' := tk) (a := t') (o := .lst (zs ++ (List.range xs.length).flatMap parts)) hk hge ⟨hlen, _, n', vf, e'⟩, rfl, q t' (I.hok.fresh hge)⟩
end Fm
end FFmSumL
section FK1
set_option Elab.async false
set_option linter.all false
set_option maxRecDepth 100000
set_option maxHeartbeats 4000000
local macro_rules | `(tactic| walk_at "ne") => `(tactic| first | assumption | (apply Ne.symm; assumption) | exact L2.ne_of_none (by assumption) (by assumption) | exact Ne.symm (L2.ne_of_none (by assumption) (by assumption)))
local macro_rules | `(tactic| walk_at "hl") => `(tactic| first | assumption | exact L2.upd_same | (refine Eq.trans (L2.upd_ne (by walk_at "ne")) ?_; walk_at "hl"))
local macro_rules | `(tactic| walk_at "sd") => `(tactic| first | (with_reducible show (_ : Int) < _; omega) | (with_reducible show (_ : Int) ≤ _; omega) | assumption | decide | exact ⟨by assumption, by assumption⟩ | exact ⟨by decide, by decide⟩ | exact Or.inr ⟨by decide, by decide⟩ | exact Or.inl ⟨by omega, by omega⟩ | rfl)
local macro_rules | `(tactic| walk_at "st1") => `(tactic| first
  | refine ⟨_, rfl, ?_⟩
  | refine ⟨_, _, rfl, rfl, ?_⟩
  | refine ⟨_, _, rfl, ?_⟩
  | (refine ⟨_, _, _, _, rfl, rfl, L2.SqL.of (by walk_at "hl"), rfl, ?_⟩)
  | (refine ⟨_, _, _, _, rfl, rfl, L2.SqT.of (by walk_at "hl"), rfl, ?_⟩)
  | (refine ⟨_, _, _, _, rfl, rfl, (by walk_at "hl"), rfl, ?_⟩)
  | (refine And.intro (by walk_at "sd") ?_)
  )
local macro_rules | `(tactic| walk_at "st") => `(tactic| repeat walk_at "st1")
local macro_rules | `(tactic| walk_at "op") => `(tactic| try dsimp only [L2.tSeq, L2.tAsg, L2.tOp, L2.tVar, L2.tC, L2.gSub, L2.rI, L2.rI0, L2.rIxL, L2.rIxT, L2.rSetL, L2.tIfS, L2.tTest, L2.tRet, L2.gName, L2.tNext, L2.tAnd, L2.tOr, L2.tNot, L2.tAndV, L2.tOrV, L2.tNotV, L2.tB, L2.tCB, L2.tCons, L2.tNil, L2.tCall, L2.tTup, L2.tLst, L2.tChain, L2.tUn, L2.tPar, L2.tDrop, L2.tIf, L2.tBM, L2.tBM0, L2.rAppend, L2.rCat, L2.rIsi, L2.rIsiT, L2.gTup, L2.gCons, L2.gNil, Fm.tFor_eq, Fm.tLc_eq, L2.iTup, L2.iList, L2.iRng1, L2.iRng2, L2.tSl, L2.tPart, L2.tNoPart, L2.rSlL, L2.rEq, L2.rNe, L2.rU, L2.rEqD, L2.rNeD, Fm.tRevT, Fm.rLenS, Fm.rTupOf, Fm.rLstOf, L2.tDNewK, L2.tCallS, L2.WE, Fm.wKeep, Fm.rIsK, Fm.rIsKT, List.cons_append, List.nil_append, L2.tYes])
namespace Fm
open PySem PySem.Spec PyProof.Rows L2
abbrev s_has_form : Stmt := top 18
abbrev N_has_form : List Str := ["thing", "m", "floors", "most", "counts"]
theorem sc_has_form : FnScope N_has_form ["thing", "m", "floors", "most"] (defScope s_has_form) := ⟨rfl, rfl, rfl, by decide +kernel, rfl, by decide +kernel, by decide +kernel⟩
section
variable {P : Program} {w : World} {K : PySem.W.Frag} {mg : Str → Option Value} {base : Heap}
/-! ### standings, as data -/
def rowD (r : List Int) : PyData := .tuple (r.map PyData.int)
def stD (rows : List (List Int)) (out : Int) : PyData := .tuple (rows.map rowD ++ [.int out])
structure StOk (m : Nat) (rows : List (List Int)) (out : Int) : Prop where
  len : ∀ r ∈ rows, r.length = m
  pos : ∀ r ∈ rows, ∀ c ∈ r, 0 ≤ c
  out : 0 ≤ out
theorem sl_init {K : PySem.W.Frag} {H : Hp} {Q : VK} {a : Addr} {xs : List V} {y : V} (h : SqT K H a (xs ++ [y])) (q : ∀ p, H p = none → Q (.ref p) (upd H p (.tup xs))) : rSlA K (.ref a) none (some (-1)) H Q := by
  have e1 : HT.sIx (xs ++ [y]).length 0 none = 0 := rfl
  have e2 : HT.sIx (xs ++ [y]).length (xs ++ [y]).length (some (-1)) = xs.length := by
    unfold HT.sIx
    rw [List.length_append]
    show (if (-1 : Int) < 0 then _ else _) = _
    rw [if_pos (by decide)]
    show ((-1 : Int) + ((xs.length + 1 : Nat) : Int)).toNat = _
    omega
  refine ⟨a, _, rfl, h, fun z => ?_, fun _ p hp => ?_⟩
  · rw [e2, List.length_append] at z
    have : ([y] : List V).length = 1 := rfl
    omega
  · have e3 : cutV (xs ++ [y]) none (some (-1)) = xs := by
      unfold cutV
      rw [e1, e2, List.drop_zero, Nat.sub_zero, List.take_left]
    rw [e3]
    exact q p hp
theorem atI_last {xs : List V} {y : V} (hl : xs.length ≤ 1000) : atI (xs ++ [y]) (-1) = some y := by
  unfold atI ixN
  rw [if_neg (by decide), List.length_append]
  have h1 : ([y] : List V).length = 1 := rfl
  rw [h1, if_pos (by omega)]
  show (xs ++ [y])[_]? = some y
  have e : ((-1 : Int) + ((xs.length + 1 : Nat) : Int)).toNat = xs.length := by omega
  rw [e]
  simp
/-- a standing's parts in the heap -/
theorem st_parts {H : Hp} {p : Addr} {v : V} {rows : List (List Int)} {out : Int} (h : Dat H p v (stD rows out)) : ∃ a xs, v = .ref a ∧ H a = some (.tup (xs ++ [.int out])) ∧ a ≠ p ∧ Dats H p xs (rows.map rowD) := by
  obtain ⟨a, ys, rfl, ha, np, hs⟩ := h.isTup
  have hl := hs.1
  rw [List.length_append] at hl
  have h1 : ([PyData.int out] : List PyData).length = 1 := rfl
  obtain ⟨x, hx, hdx⟩ := hs.back (i := (rows.map rowD).length) (d := .int out) (by simp)
  obtain rfl := hdx.isInt
  refine ⟨a, ys.take (rows.map rowD).length, rfl, ?_, np, by rw [List.length_take]; omega, fun i x d e1 e2 => ?_⟩
  · have e : ys = ys.take (rows.map rowD).length ++ [.int out] := by
      conv => lhs; rw [← List.take_append_drop (rows.map rowD).length ys]
      congr 1
      rw [List.drop_eq_getElem_cons (by omega), List.drop_eq_nil_of_le (by omega)]
      congr 1
      have := List.getElem?_eq_some_iff.mp hx
      exact this.2
    rw [← e]
    exact ha
  · have hi : i < (rows.map rowD).length := (List.getElem?_eq_some_iff.mp e2).1
    rw [List.getElem?_take_of_lt hi] at e1
    exact hs.2 i x d e1 (by rw [List.getElem?_append_left hi]; exact e2)
def spForm : Sp := fun vs H Q _ => ∃ (v : V) (p : Addr) (m n : Nat) (rows : List (List Int)) (out : Int), vs = [v, .int m, .int n, .non] ∧ Dat H p v (stD rows out) ∧ rows.length = n ∧ 1 ≤ n ∧ n ≤ 4 ∧ StOk m rows out ∧ ∀ H', Same H H' → Q (.bl true) H'
theorem ok_has_form (D : Df K mg "has_form" s_has_form ["thing", "m", "floors", "most"]) (T : Nms mg) (c_is_tuple_of : CallOk P w K mg base CX0 1 "is_tuple_of" ["thing", "many"] spTupOf)
    (c_is_up_to : CallOk P w K mg base CX0 2 "is_up_to" ["thing", "most"] spUpTo) (c_are_up_to : CallOk P w K mg base CX0 3 "are_up_to" ["thing", "many", "most"] spAre) : CallOk P w K mg base CX0 4 "has_form" ["thing", "m", "floors", "most"] spForm := by
  refine df_ok D sc_has_form (fun vs H Q E h => ?_) (fun f cdv A outer s H vs Q E hr h => ?_)
  · obtain ⟨v, p, m, n, rows, out, rfl, _⟩ := h
    rfl
  · obtain ⟨v, p, m, n, rows, out, rfl, hd, hn, hn1, hn4, ok, k⟩ := h
    obtain ⟨a, xs, rfl, ha, nap, hx⟩ := st_parts hd
    have nd := sc_has_form.nd
    refine ⟨_, (pss_cons (ps_if (PW.pt (pw_or (pt_not (pt_val (pe_cc c_is_tuple_of (hr.mono (by omega)) (pa_cons (pv 0) (pa_cons (pe_op op_add (pv 2) pe_int) pa_nil))))) (pw_or1 (pt_not (pt_val (pe_cc c_is_up_to (hr.mono (by omega)) (pa_cons (pe_ix (r := rIxT K) ix_tup (pv 0) (pe_un un_neg pe_int) (fun _ _ => rfl)) (pa_cons (pv 3) pa_nil)))))))) (pss_one (ps_ret pe_bl)) pss_nil)
      (pss_cons (ps_for PassesOwn.never rfl (pi_tup (pe_slice (r := rSlA K) sl_tupA (pv 0) po_none (po_some (pe_un un_neg pe_int)))) (pg_name (i := 4) nd rfl (Or.inl rfl)) (pss_one (ps_if (pt_not (pt_val (pe_cc c_are_up_to (hr.mono (by omega)) (pa_cons (pv 4) (pa_cons (pv 1) (pa_cons (pv 3) pa_nil)))))) (pss_one (ps_ret pe_bl)) pss_nil)))
      (pss_one (ps_ret pe_bl)))), ?_⟩
    walk_at "op"
    walk_at "st"
    refine ⟨_, _, p, _, rfl, hd, fun b hb => ?_⟩
    have hb1 : b = true := hb.mpr ⟨_, rfl, by simp [hn]⟩
    walk_at "st"
    subst hb1
    refine iteF ?_
    walk_at "st"
    refine ⟨_, _, _, _, rfl, rfl, SqT.of ha, atI_last (by rw [hx.1, List.length_map]; omega), ?_⟩
    walk_at "st"
    refine ⟨_, _, p, _, rfl, Dat.int out, .inl rfl, fun b hb => ?_⟩
    have hb1 : b = true := hb.mpr ⟨_, rfl, ok.out, fun M z => by cases z⟩
    walk_at "st"
    subst hb1
    refine iteF ?_
    walk_at "st"
    refine sl_init (SqT.of ha) fun q hq => ?_
    refine ⟨_, rfl, ⟨_, SqT.of upd_same⟩, fT (xs := xs) (fun i σ H' => Same H H' ∧ H' q = some (.tup xs) ∧ ∃ u, σ = [some (.ref a), some (.int m), some (.int n), some .non, u])
      ⟨same_new hq, upd_same, _, rfl⟩ (fun i σ H' _ ⟨_, e, _⟩ => SqT.of e) ?_ ?_⟩
    · rintro i x σ H' hxi ⟨sm, hq2, u, rfl⟩
      obtain ⟨e, he, hde⟩ := hx.at hxi
      rw [List.getElem?_map] at he
      cases er : rows[i]? with
      | none => rw [er] at he; cases he
      | some r =>
        rw [er] at he
        cases he
        have hr := List.mem_of_getElem? er
        walk_at "op"
        walk_at "st"
        refine ⟨x, _, _, p, _, rfl, hde.same sm, .inl rfl, fun b hb => ?_⟩
        have hb1 : b = true := hb.mpr ⟨_, rfl, by rw [List.length_map, ok.len r hr], fun e he => by
          obtain ⟨c, hc, rfl⟩ := List.mem_map.mp he
          exact ⟨c, rfl, ok.pos r hr c hc, fun M z => by cases z⟩⟩
        walk_at "st"
        subst hb1
        exact iteF ⟨sm, hq2, _, rfl⟩
    · rintro σ H' ⟨sm, hq2, u, rfl⟩
      walk_at "op"
      exact k _ sm
end
end Fm
end FK1
section FKB
set_option Elab.async false
set_option linter.all false
set_option maxRecDepth 100000
set_option maxHeartbeats 4000000
local macro_rules | `(tactic| walk_at "ne") => `(tactic| first | assumption | (apply Ne.symm; assumption) | exact L2.ne_of_none (by assumption) (by assumption) | exact Ne.symm (L2.ne_of_none (by assumption) (by assumption)))
local macro_rules | `(tactic| walk_at "hl") => `(tactic| first | assumption | exact L2.upd_same | (refine Eq.trans (L2.upd_ne (by walk_at "ne")) ?_; walk_at "hl"))
local macro_rules | `(tactic| walk_at "sd") => `(tactic| first | (with_reducible show (_ : Int) < _; omega) | (with_reducible show (_ : Int) ≤ _; omega) | assumption | decide | exact ⟨by assumption, by assumption⟩ | exact ⟨by decide, by decide⟩ | exact Or.inr ⟨by decide, by decide⟩ | exact Or.inl ⟨by omega, by omega⟩ | rfl)
local macro_rules | `(tactic| walk_at "st1") => `(tactic| first
  | refine ⟨_, rfl, ?_⟩
  | refine ⟨_, _, rfl, rfl, ?_⟩
  | refine ⟨_, _, rfl, ?_⟩
  | (refine ⟨_, _, _, _, rfl, rfl, L2.SqL.of (by walk_at "hl"), rfl, ?_⟩)
  | (refine ⟨_, _, _, _, rfl, rfl, L2.SqT.of (by walk_at "hl"), rfl, ?_⟩)
  | (refine ⟨_, _, _, _, rfl, rfl, (by walk_at "hl"), rfl, ?_⟩)
  | (refine And.intro (by walk_at "sd") ?_)
  )
local macro_rules | `(tactic| walk_at "st") => `(tactic| repeat walk_at "st1")
local macro_rules | `(tactic| walk_at "op") => `(tactic| try dsimp only [L2.tSeq, L2.tAsg, L2.tOp, L2.tVar, L2.tC, L2.gSub, L2.rI, L2.rI0, L2.rIxL, L2.rIxT, L2.rSetL, L2.tIfS, L2.tTest, L2.tRet, L2.gName, L2.tNext, L2.tAnd, L2.tOr, L2.tNot, L2.tAndV, L2.tOrV, L2.tNotV, L2.tB, L2.tCB, L2.tCons, L2.tNil, L2.tCall, L2.tTup, L2.tLst, L2.tChain, L2.tUn, L2.tPar, L2.tDrop, L2.tIf, L2.tBM, L2.tBM0, L2.rAppend, L2.rCat, L2.rIsi, L2.rIsiT, L2.gTup, L2.gCons, L2.gNil, Fm.tFor_eq, Fm.tLc_eq, Fm.tLc2_eq, L2.iTup, L2.iList, L2.iRng1, L2.iRng2, L2.tSl, L2.tPart, L2.tNoPart, L2.rSlL, L2.rEq, L2.rNe, L2.rU, L2.rEqD, L2.rNeD, Fm.tRevT, Fm.rLenS, Fm.rTupOf, Fm.rLstOf, L2.tDNewK, L2.tCallS, L2.WE, Fm.wKeep, Fm.rIsK, Fm.rIsKT, List.cons_append, List.nil_append, L2.tYes])
namespace Fm
open PySem PySem.Spec PyProof.Rows L2
abbrev s_check_standing : Stmt := top 19
abbrev N_check_standing : List Str := ["house", "standing", "m", "floors"]
theorem sc_check_standing : FnScope N_check_standing ["house", "standing"] (defScope s_check_standing) := ⟨rfl, rfl, rfl, by decide +kernel, rfl, by decide +kernel, by decide +kernel⟩
section
variable {P : Program} {w : World} {K : PySem.W.Frag} {mg : Str → Option Value} {base : Heap}
theorem houseN_inj {m n m' n' : Nat} {d : PyData} (h : HouseN m n d) (h' : HouseN m' n' d) : m = m' ∧ n = n' := by
  obtain ⟨fs, rfl, hl, h1, h4, _, _, hf⟩ := h
  obtain ⟨fs', e, hl', _, _, _, _, hf'⟩ := h'
  cases e
  have h0 : 0 < fs.length := by omega
  obtain ⟨s, u, e1, ⟨rs, e2, e3, _⟩, _⟩ := hf fs[0] (List.getElem_mem _)
  obtain ⟨s', u', e1', ⟨rs', e2', e3', _⟩, _⟩ := hf' fs[0] (List.getElem_mem _)
  rw [e1] at e1'
  cases e1'
  rw [e2] at e2'
  cases e2'
  exact ⟨by omega, by omega⟩
theorem dats_ints {H : Hp} {p : Addr} : ∀ {ys : List V} {ns : List Int}, Dats H p ys (ns.map PyData.int) → ys = ns.map V.int
  | [], [], _ => rfl
  | [], n :: ns, h => by have := h.1; simp at this
  | y :: ys, [], h => by have := h.1; simp at this
  | y :: ys, n :: ns, h => by
    obtain rfl := (h.2 0 y (.int n) rfl rfl).isInt
    rw [dats_ints (ys := ys) (ns := ns) ⟨by have := h.1; simpa using this, fun i x d a b => h.2 (i + 1) x d a b⟩]
    rfl
theorem row_parts {H : Hp} {p : Addr} {v : V} {r : List Int} (h : Dat H p v (rowD r)) : ∃ a, v = .ref a ∧ H a = some (.tup (r.map V.int)) ∧ a ≠ p := by
  obtain ⟨a, ys, rfl, ha, np, hs⟩ := h.isTup
  rw [dats_ints hs] at ha
  exact ⟨a, rfl, ha, np⟩
theorem sameOff {H H' : Hp} {L : Addr} {o : HO} (e : Same H H') (h : H L = none) : Same H (upd H' L o) := fun b u eb => by
  rw [upd_ne (ne_of_none eb h)]
  exact e b u eb
theorem sameFree {H H' : Hp} {S : Addr} (e : Same H H') (h : H' S = none) : H S = none := by
  cases q : H S with
  | none => rfl
  | some u =>
    rw [e S u q] at h
    cases h
def spStIn (R : List (List Int) → Int → VK → Hp → Prop) : Sp := fun vs H Q _ => ∃ (hv sv : V) (p p' : Addr) (hd : PyData) (m n : Nat) (rows : List (List Int)) (out : Int), vs = [hv, sv] ∧ Dat H p hv hd ∧ HouseN m n hd ∧ Dat H p' sv (stD rows out) ∧ rows.length = n ∧ StOk m rows out ∧ R rows out Q H
def spCheck : Sp := spStIn fun _ _ Q H => ∀ H', Same H H' → Q .non H'
theorem ok_check_standing (D : Df K mg "check_standing" s_check_standing ["house", "standing"]) (T : Nms mg) {C M C2 : Addr} (EX_NoStanding : Exn K mg "NoStanding" C2 M)
    (c_size : CallOk P w K mg base (L2.CX P w) 6 "size" ["house"] (spSize C)) (c_has_form : CallOk P w K mg base CX0 4 "has_form" ["thing", "m", "floors", "most"] spForm) :
    CallOk P w K mg base (L2.CX P w) 7 "check_standing" ["house", "standing"] spCheck := by
  refine df_okX D sc_check_standing (fun vs H Q E h => ?_) (fun f cdv A outer s H vs Q E hr h => ?_)
  · obtain ⟨hv, sv, p, p', hd, m, n, rows, out, rfl, _⟩ := h
    rfl
  · obtain ⟨hv, sv, p, p', hd, m, n, rows, out, rfl, hD, hN, sD, hl, ok, k⟩ := h
    have nd := sc_check_standing.nd
    refine ⟨_, (pss_cons (ps_asg (pe_cx c_size (hr.mono (by omega)) (pa_cons (pv 0) pa_nil)) (pg_tup rfl (pgs_cons (pg_name (i := 2) nd rfl (Or.inl rfl)) (pgs_cons (pg_name (i := 3) nd rfl (Or.inl rfl)) pgs_nil))))
      (pss_one (ps_if (pt_not (pt_val (pe_cc c_has_form (hr.mono (by omega)) (pa_cons (pv 1) (pa_cons (pv 2) (pa_cons (pv 3) (pa_cons pe_non pa_nil))))))) (pss_one (ps_raiseE rfl (takes_of rfl rfl rfl rfl) EX_NoStanding rfl)) pss_nil))), ?_⟩
    walk_at "op"
    walk_at "st"
    refine ⟨hv, p, hd, rfl, hD, fun m' n' hN' q H' hq hq2 sm => ?_, fun no => (no ⟨m, n, hN⟩).elim⟩
    obtain ⟨rfl, rfl⟩ := houseN_inj hN hN'
    refine ⟨q, _, rfl, SqT.of hq2, rfl, _, _, rfl, _, _, rfl, rfl, ?_⟩
    walk_at "op"
    walk_at "st"
    obtain ⟨_, _, _, hn1, hn4, _⟩ := hN
    refine ⟨sv, p', m, n, rows, out, rfl, sD.same sm, hl, hn1, hn4, ok, fun H2 sm2 => ?_⟩
    walk_at "st"
    exact iteF (k _ (sm.trans sm2))
end
end Fm
end FKB
section FGO
set_option Elab.async false
set_option linter.all false
set_option maxRecDepth 100000
set_option maxHeartbeats 4000000
local macro_rules | `(tactic| walk_at "ne") => `(tactic| first | assumption | (apply Ne.symm; assumption) | exact L2.ne_of_none (by assumption) (by assumption) | exact Ne.symm (L2.ne_of_none (by assumption) (by assumption)))
local macro_rules | `(tactic| walk_at "hl") => `(tactic| first | assumption | exact L2.upd_same | (refine Eq.trans (L2.upd_ne (by walk_at "ne")) ?_; walk_at "hl"))
local macro_rules | `(tactic| walk_at "sd") => `(tactic| first | (with_reducible show (_ : Int) < _; omega) | (with_reducible show (_ : Int) ≤ _; omega) | assumption | decide | exact ⟨by assumption, by assumption⟩ | exact ⟨by decide, by decide⟩ | exact Or.inr ⟨by decide, by decide⟩ | exact Or.inl ⟨by omega, by omega⟩ | rfl)
local macro_rules | `(tactic| walk_at "st1") => `(tactic| first
  | refine ⟨_, rfl, ?_⟩
  | refine ⟨_, _, rfl, rfl, ?_⟩
  | refine ⟨_, _, rfl, ?_⟩
  | (refine ⟨_, _, _, _, rfl, rfl, L2.SqL.of (by walk_at "hl"), rfl, ?_⟩)
  | (refine ⟨_, _, _, _, rfl, rfl, L2.SqT.of (by walk_at "hl"), rfl, ?_⟩)
  | (refine ⟨_, _, _, _, rfl, rfl, (by walk_at "hl"), rfl, ?_⟩)
  | (refine And.intro (by walk_at "sd") ?_)
  )
local macro_rules | `(tactic| walk_at "st") => `(tactic| repeat walk_at "st1")
local macro_rules | `(tactic| walk_at "op") => `(tactic| try dsimp only [L2.tSeq, L2.tAsg, L2.tOp, L2.tVar, L2.tC, L2.gSub, L2.rI, L2.rI0, L2.rIxL, L2.rIxT, L2.rSetL, L2.tIfS, L2.tTest, L2.tRet, L2.gName, L2.tNext, L2.tAnd, L2.tOr, L2.tNot, L2.tAndV, L2.tOrV, L2.tNotV, L2.tB, L2.tCB, L2.tCons, L2.tNil, L2.tCall, L2.tTup, L2.tLst, L2.tChain, L2.tUn, L2.tPar, L2.tDrop, L2.tIf, L2.tBM, L2.tBM0, L2.rAppend, L2.rCat, L2.rIsi, L2.rIsiT, L2.gTup, L2.gCons, L2.gNil, Fm.tFor_eq, Fm.tLc_eq, Fm.tLc2_eq, L2.iTup, L2.iList, L2.iRng1, L2.iRng2, L2.tSl, L2.tPart, L2.tNoPart, L2.rSlL, L2.rEq, L2.rNe, L2.rU, L2.rEqD, L2.rNeD, Fm.tRevT, Fm.rLenS, Fm.rTupOf, Fm.rLstOf, L2.tDNewK, L2.tCallS, L2.WE, Fm.wKeep, Fm.rIsK, Fm.rIsKT, List.cons_append, List.nil_append, L2.tYes])
namespace Fm
open PySem PySem.Spec PyProof.Rows L2
section
variable {P : Program} {w : World} {K : PySem.W.Frag} {mg : Str → Option Value} {base : Heap}
theorem ixN_of {n k : Nat} (h : k < n) : ixN n (k : Int) = some k := by
  unfold ixN
  rw [if_pos (by omega), if_pos (by omega), Int.toNat_natCast]
/-! ### behind a meeting -/
def intD : PyData → Int
  | .int i => i
  | _ => 0
def tabD (fs : List PyData) (f k : Nat) : List PyData := match fs[f]? with
  | some (.tuple l) => (match l[k]? with
    | some (.tuple rs) => rs
    | _ => [])
  | _ => []
def goN (fs : List PyData) (k f a b : Nat) : Nat := (intD (cellD (tabD fs f k) a b)).toNat
theorem tabD_at {fs : List PyData} {m n f k : Nat} (hN : HouseN m n (.tuple fs)) (hf : f < n) (hk : k < 2) : TabD m (.tuple (tabD fs f k)) := by
  obtain ⟨fs', e, hl, _, _, _, _, hF⟩ := hN
  cases e
  have hfl : f < fs.length := by omega
  obtain ⟨sd, ud, e1, h2, h3⟩ := hF fs[f] (List.getElem_mem _)
  obtain ⟨rs, e2, l2, r2, c2⟩ := h2
  obtain ⟨ru, e3, l3, r3, c3⟩ := h3
  subst e2 e3
  unfold tabD
  rw [List.getElem?_eq_getElem hfl, e1]
  match k, hk with
  | 0, _ => exact ⟨rs, rfl, l2, r2, c2⟩
  | 1, _ => exact ⟨ru, rfl, l3, r3, c3⟩
theorem goN_comm {fs : List PyData} {m n f k a b : Nat} (hN : HouseN m n (.tuple fs)) (hf : f < n) (hk : k < 2) (ha : a < m) (hb : b < m) : goN fs k f a b = goN fs k f b a := by
  obtain ⟨rs, e, _, _, c⟩ := tabD_at hN hf hk
  cases e
  unfold goN
  rw [c a b ha hb]
/-- the house in the heap: its tables' cells -/
theorem house_goes {H : Hp} {ph : Addr} {hv : V} {fs : List PyData} {m n f : Nat} (hD : Dat H ph hv (.tuple fs)) (hN : HouseN m n (.tuple fs)) (hf : f < n) :
    ∃ (ah af : Addr) (hs : List V) (tb : Nat → Addr), hv = .ref ah ∧ H ah = some (.tup hs) ∧ hs.length = n ∧ hs[f]? = some (V.ref af) ∧ H af = some (.tup [.ref (tb 0), .ref (tb 1)]) ∧
      ∀ k, k < 2 → ∀ a b, a < m → b < m → ∃ (ss : List V) (ra : Addr) (ya : List V), H (tb k) = some (.tup ss) ∧ ss[a]? = some (V.ref ra) ∧ H ra = some (.tup ya) ∧ ya[b]? = some (V.int (goN fs k f a b : Nat)) ∧ goN fs k f a b < m := by
  have t0 := tabD_at hN hf (k := 0) (by decide)
  have t1 := tabD_at hN hf (k := 1) (by decide)
  obtain ⟨fs', e, hl, _, _, _, _, hF⟩ := hN
  cases e
  obtain ⟨ah, hs, rfl, hah, _, hh⟩ := hD.isTup
  have hfl : f < fs.length := by omega
  obtain ⟨sd, ud, e1, h2, h3⟩ := hF fs[f] (List.getElem_mem _)
  obtain ⟨rs, rfl, l2, r2, c2⟩ := h2
  obtain ⟨ru, rfl, l3, r3, c3⟩ := h3
  have e4 : fs[f]? = some (.tuple [.tuple rs, .tuple ru]) := by rw [List.getElem?_eq_getElem hfl, e1]
  have q0 : tabD fs f 0 = rs := by unfold tabD; rw [e4]; rfl
  have q1 : tabD fs f 1 = ru := by unfold tabD; rw [e4]; rfl
  obtain ⟨x, hx, hdx⟩ := hh.back e4
  obtain ⟨af, ys, rfl, haf, _, hy⟩ := hdx.isTup
  have hyl : ys.length = 2 := hy.1
  match ys, hyl with
  | [w1, w2], _ =>
    obtain ⟨s0, ss, rfl, hs0, _, hss⟩ := (hy.2 0 w1 _ rfl rfl).isTup
    obtain ⟨u0, us, rfl, hu0, _, hus⟩ := (hy.2 1 w2 _ rfl rfl).isTup
    refine ⟨ah, af, hs, fun k => if k = 0 then s0 else u0, rfl, hah, by rw [hh.1, hl], hx, haf, fun k hk a b ha hb => ?_⟩
    match k, hk with
    | 0, _ =>
      obtain ⟨ra, ya, st, c1, c2, c3, c6, c4, c5⟩ := cell_at hss l2 r2 (a := a) (b := b) ha hb
      have eg : (st : Int) = ((goN fs 0 f a b : Nat) : Int) := by unfold goN; rw [q0, c6]; show st = ((st.toNat : Nat) : Int); omega
      refine ⟨ss, ra, ya, hs0, c1, c2, by rw [← eg]; exact c3, by omega⟩
    | 1, _ =>
      obtain ⟨ra, ya, st, c1, c2, c3, c6, c4, c5⟩ := cell_at hus l3 r3 (a := a) (b := b) ha hb
      have eg : (st : Int) = ((goN fs 1 f a b : Nat) : Int) := by unfold goN; rw [q1, c6]; show st = ((st.toNat : Nat) : Int); omega
      refine ⟨us, ra, ya, hu0, c1, c2, by rw [← eg]; exact c3, by omega⟩
def addAt (c : List Int) (i : Nat) (z : Int) : List Int := c.set i (c.getD i 0 + z)
def rowMet (c : List Int) (a b s : Nat) : List Int := addAt (addAt (addAt c a (-1)) b (-1)) s 1
def metRows (fs : List PyData) (rows : List (List Int)) (f a b : Nat) : List (List Int) :=
  let r1 := rows.set f (rowMet (rows.getD f []) a b (goN fs 0 f a b))
  if f + 1 < rows.length then r1.set (f + 1) (addAt (rows.getD (f + 1) []) (goN fs 1 f a b) 1) else r1
def metOut (rows : List (List Int)) (out : Int) (f : Nat) : Int := if f + 1 < rows.length then out else out + 1
theorem addAt_len (c : List Int) (i : Nat) (z : Int) : (addAt c i z).length = c.length := by unfold addAt; rw [List.length_set]
theorem rowMet_len (c : List Int) (a b s : Nat) : (rowMet c a b s).length = c.length := by unfold rowMet; rw [addAt_len, addAt_len, addAt_len]
theorem map_addAt (c : List Int) (i : Nat) (z : Int) : (addAt c i z).map V.int = (c.map V.int).set i (.int (c.getD i 0 + z)) := by unfold addAt; rw [List.map_set]
theorem Dats.set {H : Hp} {p : Addr} {xs : List V} {ds : List PyData} {v : V} {d : PyData} (h : Dats H p xs ds) (i : Nat) (k : Dat H p v d) : Dats H p (xs.set i v) (ds.set i d) := by
  refine ⟨by rw [List.length_set, List.length_set, h.1], fun j x e a b => ?_⟩
  rw [List.getElem?_set] at a b
  by_cases hj : i = j
  · rw [if_pos hj] at a b
    by_cases hl : i < xs.length
    · rw [if_pos hl] at a
      rw [if_pos (by rw [← h.1]; exact hl)] at b
      cases a
      cases b
      exact k
    · rw [if_neg hl] at a
      cases a
  · rw [if_neg hj] at a b
    exact h.2 j x e a b
theorem getD_at {c : List Int} {i : Nat} (h : i < c.length) : (c.map V.int)[i]? = some (.int (c.getD i 0)) := by
  rw [List.getElem?_map, List.getElem?_eq_getElem h, List.getD_eq_getElem?_getD, List.getElem?_eq_getElem h]
  rfl
end
end Fm
end FGO
section FFmLcN
set_option Elab.async false
set_option linter.all false
set_option maxRecDepth 100000
set_option maxHeartbeats 4000000
namespace Fm
open PySem PySem.Spec PyProof.Rows L2
/-! ### list comprehensions of any number of clauses without tests, clause by clause from the last one -/
/-- the turn of clause k; code: what stands behind the store -/
def TurnIs (L : Expr) (k : Nat) (tg ik : Expr) (env : Env) (acc : Value) (code : Sem Fin → Sem Fin) : Prop := ∀ it : Value, compTurn L k it acc env = (do
  standAt ik.pos
  match ← pyNext it with
  | none => pure (.done .next)
  | some v => do
    letOwnedTupleGo tg it v
    assign tg env v
    code (again (.compLoop L k it acc env)))
/-- a further clause's start -/
def stepIn (L : Expr) (k : Nat) (ik : Expr) (env : Env) (acc : Value) (next : Sem Fin) : Sem Fin := do
  let x ← eval ik env
  standAt ik.pos
  let x ← foldedSetIterable ik env x
  let _ ← runOwn (.compStart L k (← holding [x] (pyIter x)) acc env) env
  next
/-- the item's end -/
def stepLeaf (elt : Expr) (env : Env) (acc : Value) (next : Sem Fin) : Sem Fin := do
  (do let _ ← call (.builtin "list.append") [acc, ← eval elt env])
  next
abbrev LvT := Addr → L2.St → Hp → (Hp → Prop) → Prop
def bLeaf (te : TE) : LvT := fun D σ H Nx => te σ H fun y H1 => ∃ acc, H1 D = some (.lst acc) ∧ acc.length < sizeLine ∧ Nx (upd H1 D (.lst (acc ++ [y])))
def bIn (wi : TI) (g : TG) (vs : List Nat) (b : LvT) : LvT := fun D σ H Nx => wi σ H fun J H1 => ∃ W : Nat → Nat → Hp → Prop, (∃ m, W 0 m H1) ∧ ∀ j m G, W j m G →
  (J.stop j G ∧ Nx G) ∨ (J.go j G ∧ ∃ Nx1 : Hp → Prop, (∀ G', Nx1 G' → ∃ m', m' < m ∧ W (j + 1) m' G') ∧ ∀ x G', J.yld j G x G' → g x (wipe σ vs) G' fun σ2 G2 => wipe σ2 vs = wipe σ vs ∧ b D σ2 G2 Nx1)
def tLcN (wi : TI) (g : TG) (vs : List Nat) (b : LvT) : TE := fun σ H Q => wi σ H fun J H1 => ∀ D, H1 D = none → ∃ W : Nat → Nat → Hp → Prop, (∃ m, W 0 m (upd H1 D (.lst []))) ∧ ∀ j m G, W j m G →
  (J.stop j G ∧ Q (.ref D) G) ∨ (J.go j G ∧ ∃ Nx1 : Hp → Prop, (∀ G', Nx1 G' → ∃ m', m' < m ∧ W (j + 1) m' G') ∧ ∀ x G', J.yld j G x G' → g x (wipe σ vs) G' fun σ2 G2 => wipe σ2 vs = wipe σ vs ∧ b D σ2 G2 Nx1)
section
variable {prog : Program} {w : World} {A : Around} {R : Result → Shared → Prop} {elt : Expr} {gens : List Comprehension} {scope : Scope} {pos : Pos} {k : Nat} {tg ik : Expr} {env : Env} {acc it : Value} {code : Sem Fin → Sem Fin}
theorem loop_by (T : TurnIs (.ListComp elt gens scope pos) k tg ik env acc code) (W : Nat → Shared → Prop)
    (turn : ∀ n s, W n s → wpAny (model prog w) A (pyNext it) (fun r s1 => match r with
      | none => R (.ok .next) s1
      | some v => wpAny (model prog w) A (letOwnedTupleGo tg it v) (fun _ s2 => wpAny (model prog w) A (assign tg env v) (fun _ s3 => wpAny (model prog w) A (code (again (.compLoop (.ListComp elt gens scope pos) k it acc env))) (fun f s4 => f = .again (.compLoop (.ListComp elt gens scope pos) k it acc env) ∧ ∃ m, m < n ∧ W m s4) (fun _ _ => False) s3) (fun _ _ => False) s2) (fun _ _ => False) s1) (fun _ _ => False) s)
    (n : Nat) {s : Shared} (h : W n s) : codeAny (model prog w) A (.compLoop (.ListComp elt gens scope pos) k it acc env) R s := by
  refine codeAny_loop rfl W (fun n s hW => ?_) n h
  show wpAny _ A ((compTurn (.ListComp elt gens scope pos) k it acc env).onRaise _) _ _ s
  refine wpAny_noted ?_
  rw [T it]
  refine wpAny_bind (wpAny_standAt (wpAny_bind (thnF (turn n s hW) fun r s1 q1 => ?_)))
  cases r with
  | none => exact wpAny_pure q1
  | some v => exact wpAny_bind (thnF q1 fun _ s2 q2 => wpAny_bind (thnF q2 fun _ s3 q3 => thnF q3 fun f s4 ⟨e, q4⟩ => by subst e; exact ⟨rfl, q4⟩))
/-- a clause's loop is started: the iterator is its own -/
theorem start_by (h0 : codeAny (model prog w) A (.compLoop (.ListComp elt gens scope pos) k it acc env) R s) (ha : ((clausesOf (.ListComp elt gens scope pos))[k]?).elim false (·.is_async != 0) = false)
    (h1 : wpAny (model prog w) A (pyIter it) (fun v s1 => v = it ∧ codeAny (model prog w) A (.compLoop (.ListComp elt gens scope pos) k it acc env) R s1) (fun _ _ => False) s) : codeAny (model prog w) A (.compStart (.ListComp elt gens scope pos) k it acc env) R s := by
  refine codeAny_of_tree ?_
  show wpAny _ _ ((compStart (.ListComp elt gens scope pos) k it acc env).onRaise _) _ _ s
  refine wpAny_notedAt ?_
  unfold compStart
  rw [ha]
  show wpAny _ _ (ask >>= _) _ _ s
  have fin : ∀ s', wpAny (model prog w) A (pyIter it) (fun v s1 => v = it ∧ codeAny (model prog w) A (.compLoop (.ListComp elt gens scope pos) k it acc env) R s1) (fun _ _ => False) s' →
      wpAny (model prog w) A (do let v ← pyIter it; again (.compLoop (.ListComp elt gens scope pos) k v acc env)) (fun fin s' => match fin with | .done f => R (.ok f) s' | .again c' => c'.quiet = true ∧ codeAny (model prog w) A c' R s') (fun _ _ => False) s' := fun s' q =>
    wpAny_bind (thnF q fun v s1 ⟨e, c⟩ => by subst e; exact wpAny_pure ⟨rfl, c⟩)
  refine wpAny_bind (wpAny_askSetting (wpAny_ite ?_))
  split
  · first
      | exact wpAny_pure (And.intro rfl h0)
      | exact wpAny_bind (wpAny_pure (wpAny_pure (And.intro rfl h0)))
  · refine wpAny_bind (wpAny_rule ?_)
    cases (clausesOf (.ListComp elt gens scope pos))[k]? with
    | none =>
      refine wpAny_mono (Q := fun fin s' => match fin with | .done f => R (.ok f) s' | .again c' => c'.quiet = true ∧ codeAny (model prog w) A c' R s') (E := fun _ _ => False) ?_ (fun _ _ q => q) (fun _ _ z => z.elim)
      first
        | exact fin _ h1
        | exact wpAny_bind (wpAny_pure (fin _ h1))
    | some g =>
      refine wpAny_mono (Q := fun fin s' => match fin with | .done f => R (.ok f) s' | .again c' => c'.quiet = true ∧ codeAny (model prog w) A c' R s') (E := fun _ _ => False) ?_ (fun _ _ q => q) (fun _ _ z => z.elim)
      first
        | exact wpAny_bind (wpAny_standAt (fin _ h1))
        | (show wpAny _ _ (standAt g.iter.pos >>= _) _ _ _; exact wpAny_bind (wpAny_standAt (fin _ h1)))
end
/-- what stands behind a store: it goes on where Nx holds -/
def BdOk (X : Cx) (code : Sem Fin → Sem Fin) (b : L2.St → Hp → (Hp → Prop) → Prop) (vs' : List Nat) : Prop :=
  ∀ (pins : List (Addr × Obj)) (s : Shared) (σ : L2.St) (H : Hp) (Nx : Hp → Prop) (next : Sem Fin) (Qn : Fin → Shared → Prop), Inv X pins σ H s → b σ H Nx →
    (∀ s' H', Inv X pins (wipe σ vs') H' s' → Nx H' → wpAny (model X.prog X.w) X.A next Qn (fun _ _ => False) s') → wpAny (model X.prog X.w) X.A (code next) Qn (fun _ _ => False) s
/-- the loop of one clause, in its block -/
theorem run_lv {X : Cx} {pins : List (Addr × Obj)} {σ : L2.St} {H : Hp} {s : Shared} {R : Result → Shared → Prop} {elt : Expr} {gens : List Comprehension} {scope : Scope} {pos : Pos} {k : Nat} {tg ik : Expr} {D it : Addr} {code : Sem Fin → Sem Fin} {vs vs' : List Nat} {g : TG} {b : LvT} {J : It} {fp : List Addr} {tn : Nat → Heap → Prop}
    {W : Nat → Nat → Hp → Prop} {Nx : Hp → Prop} {m0 : Nat} (hc : X.calm = true) (hxe : X.xe = fun _ _ => False) (TI : TurnIs (.ListComp elt gens scope pos) k tg ik X.env (.ref D) code) (pg : PG X tg g)
    (bd : BdOk X code (b D) vs') (hvs : ∀ i ∈ vs', i ∈ vs)
    (T : Turn X.prog X.w X.K tg J fp it tn) (hf : ∀ a ∈ fp, ∀ H', H' a = none → FpOk X pins H' a) (I : Inv X pins (wipe σ vs) H s) (st : tn 0 s.heap) (nf : ∀ a ∈ fp, H a = none) (w0 : W 0 m0 H)
    (turn : ∀ j m G, W j m G → (J.stop j G ∧ Nx G) ∨ (J.go j G ∧ ∃ Nx1 : Hp → Prop, (∀ G', Nx1 G' → ∃ m', m' < m ∧ W (j + 1) m' G') ∧ ∀ x G', J.yld j G x G' → g x (wipe σ vs) G' fun σ2 G2 => wipe σ2 vs = wipe σ vs ∧ b D σ2 G2 Nx1))
    (hR : ∀ s' H', Inv X pins (wipe σ vs) H' s' → Nx H' → R (.ok .next) s') : codeAny (model X.prog X.w) X.A (.compLoop (.ListComp elt gens scope pos) k (.ref it) (.ref D) X.env) R s := by
  refine loop_by TI (fun n s' => ∃ j H', Inv X pins (wipe σ vs) H' s' ∧ tn j s'.heap ∧ (∀ a ∈ fp, H' a = none) ∧ W j n H') (fun n s1 hW => ?_) m0 ⟨0, H, I, st, nf, w0⟩
  obtain ⟨j, H1, I1, st1, nf1, w1⟩ := hW
  rcases turn j n H1 w1 with ⟨hs, nx⟩ | ⟨hg, Nx1, hN, step⟩
  · refine thnF (T.done X rfl rfl rfl hc j pins s1 _ H1 (fun _ _ => False) I1 (fun a ha => hf a ha H1 (nf1 a ha)) st1 hs) fun r s2 ⟨hr, I2⟩ => ?_
    subst hr
    exact hR s2 H1 I2 nx
  · refine thnF (T.item X rfl rfl rfl hc j pins s1 _ H1 (fun _ _ => False) I1 (fun a ha => hf a ha H1 (nf1 a ha)) st1 hg) fun r s2 ⟨u, hr, h2⟩ => ?_
    subst hr
    refine thnF h2 fun _ s3 ⟨x, H3, I3, r3, y3, st3, nf3⟩ => ?_
    have P3 := I3.pinned (fun a ha => hf a ha H3 (nf3 a ha)) (T.obj _ _ st3)
    have pgr := pg.run _ s3 _ H3 x u _ P3 r3 (step x H3 y3)
    rw [hxe] at pgr
    refine thnF pgr fun _ s4 ⟨σ4, H4, I4, hw, q4⟩ => ?_
    refine bd _ s4 σ4 H4 Nx1 _ _ I4 q4 fun s5 H5 I5 n5 => wpAny_pure ⟨rfl, ?_⟩
    obtain ⟨m', hm, w'⟩ := hN H5 n5
    have kept : ∀ a ∈ fp, ∀ o, s3.heap.get? a = some o → s5.heap.get? a = some o ∧ H5 a = none := fun a ha o e => by
      have z := I5.pin (a, o) (List.mem_append_right _ (List.mem_append_right _ (mem_pinsAt ha e)))
      exact ⟨z.1, z.2.1⟩
    refine ⟨m', hm, j + 1, H5, I5.unpinned.weak ?_ (fun i v e => ?_), T.keep _ _ _ st3 fun a ha o e => (kept a ha o e).1, fun a ha => ?_, w'⟩
    · rw [wipe_length, wipe_length, ← wipe_length σ4 vs, hw, wipe_length]
    · rw [← hw] at e
      obtain ⟨e1, e2⟩ := wipe_some e
      rw [wipe_out fun z => e2 (hvs i z)]
      exact e1
    · obtain ⟨o, e, _⟩ := T.obj _ _ st3 a ha
      exact (kept a ha o e).2
/-- a further clause: its source, then its loop -/
theorem lv_in {X : Cx} {elt : Expr} {gens : List Comprehension} {scope : Scope} {pos : Pos} {k : Nat} {tg ik : Expr} {D : Addr} {code : Sem Fin → Sem Fin} {vs vs' : List Nat} {wi : TI} {g : TG} {b : LvT} (hc : X.calm = true) (hxe : X.xe = fun _ _ => False)
    (TI : TurnIs (.ListComp elt gens scope pos) k tg ik X.env (.ref D) code) (pi : PI X tg ik wi) (pg : PG X tg g)
    (bd : BdOk X code (b D) vs') (hvs : ∀ i ∈ vs', i ∈ vs)
    (hs : ∀ x, foldedSetIterable ik X.env x = pure x) (ha : ((clausesOf (.ListComp elt gens scope pos))[k]?).elim false (·.is_async != 0) = false) :
    BdOk X (stepIn (.ListComp elt gens scope pos) k ik X.env (.ref D)) (bIn wi g vs b D) vs := by
  intro pins s σ H Nx next Qn I h hn
  have r0 := pi.run pins s σ H _ I h
  rw [hxe] at r0
  unfold stepIn
  refine wpAny_bind (thnF r0 fun x s1 hx => wpAny_bind (wpAny_standAt (wpAny_bind (wpAny_of_eq (hs x) (wpAny_bind (wpAny_holding (thnF hx fun itv s2 h2 => ?_)))))))
  obtain ⟨it, fp, tn, J, H2, e, I2, T, st2, f2, W, ⟨m1, w1⟩, turn⟩ := h2
  subst e
  have nf : ∀ a ∈ fp, H2 a = none := fun a ha => (f2 a ha).1
  have loop := run_lv (R := fun r s' => ∃ f, r = .ok f ∧ ∃ H', Inv X pins (wipe σ vs) H' s' ∧ Nx H') (s := s2) (H := H2) (σ := σ) hc hxe TI pg bd hvs T (fun a ha H' z => ⟨z, (f2 a ha).2⟩) (I2.weak (wipe_length _ _) fun j v e => (wipe_some e).1) st2 nf w1 turn (fun s' H' I' n => ⟨_, rfl, H', I', n⟩)
  refine wpAny_bind (wpAny_runOwn ?_)
  rw [Around.mark_none]
  refine codeAny_mono (start_by loop ha (T.self X.A 0 s2 _ _ st2 ⟨rfl, loop⟩)) fun r s' hr => ?_
  obtain ⟨f, rfl, H', I', n⟩ := hr
  exact hn s' H' I' n
/-- the item -/
theorem lv_leaf {X : Cx} {elt : Expr} {te : TE} {D : Addr} (hxe : X.xe = fun _ _ => False) (pe : PE X elt te) :
    BdOk X (stepLeaf elt X.env (.ref D)) (bLeaf te D) [] := by
  intro pins s σ H Nx next Qn I h hn
  have r0 := pe.run pins s σ H _ I h
  rw [hxe] at r0
  unfold stepLeaf
  refine wpAny_bind (wpAny_bind (thnF r0 fun u s1 ⟨y, H1, I1, r1, acc, hD, hz, nx⟩ => wpAny_bind ?_))
  exact app_ok I1 hD hz r1 fun s2 I2 => wpAny_pure (hn s2 _ I2 nx)
/-- the whole -/
theorem pe_lcN {X : Cx} {elt tg iter : Expr} {rest : List Comprehension} {scope : Scope} {own : List (Str × Nat)} {pos : Pos} {wi : TI} {g : TG} {b : LvT} {vs' : List Nat} {code : Env → Addr → Sem Fin → Sem Fin} (hc : X.calm = true) (hN : X.N.Nodup) (hi : PI X tg iter wi) (ok : BlkOk X.N X.env.scope scope own)
    (hg : ∀ (s : Shared) (H : Hp) (C : Addr) (cl : List (Str × Addr)) (fp : List Addr), PG (X.blk s H scope (compEnvC scope cl C X.env) fp) tg g)
    (TI : ∀ (env : Env) (D : Addr), TurnIs (.ListComp elt (⟨tg, iter, [], 0⟩ :: rest) scope pos) 0 tg iter env (.ref D) (code env D)) (hvs : ∀ i ∈ vs', i ∈ own.map (·.2))
    (bd : ∀ (s : Shared) (H : Hp) (C : Addr) (cl : List (Str × Addr)) (fp : List Addr) (D : Addr), BdOk (X.blk s H scope (compEnvC scope cl C X.env) fp) (code (compEnvC scope cl C X.env) D) (b D) vs')
    (hs : ∀ x, foldedSetIterable iter X.env x = pure x := by intro _; rfl) : PE X (.ListComp elt (⟨tg, iter, [], 0⟩ :: rest) scope pos) (tLcN wi g (own.map (·.2)) b) := by
  refine ⟨fun pins s σ H Q I h => ?_⟩
  rw [eval_ListComp]
  have hfree : ∀ y ∈ scope.names, y.2 = .free → ∃ c, X.env.cells.lookup y.1 = some c := fun y hy e => I.ok.has _ (ok.free y hy e)
  refine wpAny_comprehension_free (use := none) rfl hs (closure_ok hfree) ok.kind (fun y hy e => (ok.uniq y hy).trans (by rw [e])) (thn (hi.run pins s σ H _ I h) fun xv s1 hx => thn hx fun itv s2 h2 => ?_)
  obtain ⟨it, fp, tn, J, H2, e, I2, T, st2, f2, q⟩ := h2
  subst e
  refine wpAny_newObj_type (newEnv_comp ?_) (show 0 ≤ sizeLine by omega)
  generalize hD : s2.heap.objs.size = D
  have nD : H2 D = none := I2.hok.fresh (Nat.le_of_eq hD)
  obtain ⟨W, ⟨m0, w0⟩, turn⟩ := q D nD
  have older : ∀ a ∈ fp, a < s2.heap.objs.size := fun a ha => by
    obtain ⟨o, e, _⟩ := T.obj _ _ st2 a ha
    exact Heap.lt_size e
  generalize eL : ({ s2 with heap := s2.heap.push { cls := .type "list", data := .seq ([] : List Value).toArray } } : Shared) = t3
  have hL : t3.heap = s2.heap.push { cls := .type "list", data := .seq ([] : List Value).toArray } := by rw [← eL]
  have I3 : Inv X pins σ (upd H2 D (.lst [])) t3 := by
    subst eL
    exact I2.laid (t' := s2.toks) (fun a o e => Heap.get?_push_of_some _ e) (Nat.le_of_eq hD) ⟨Nat.zero_le _, [], 0, .nil, by rw [← hD]; exact Heap.get?_push_size _ rfl⟩
  have F3 : ∀ a ∈ fp, FpOk X pins (upd H2 D (.lst [])) a ∧ a < t3.heap.objs.size := fun a ha => by
    have lt := older a ha
    refine ⟨⟨?_, (f2 a ha).2⟩, by rw [hL, Heap.size_push]; exact Nat.lt_succ_of_lt lt⟩
    rw [upd_ne (by rw [← hD]; exact Nat.ne_of_lt lt)]
    exact (f2 a ha).1
  have B := block_start I3 ok hN F3
  have N3 : ∀ a ∈ fp, upd H2 D (.lst []) a = none := fun a ha => (F3 a ha).1.1
  show codeAny _ _ (.compStart (.ListComp elt (⟨tg, iter, [], 0⟩ :: rest) scope pos) 0 (.ref it) (.ref D) (compEnvC scope (cellsFrom (t3.heap.objs.size + 1) scope.names (cloFrom X.env.cells scope.names [])) t3.heap.objs.size X.env)) (compPost (model X.prog X.w) X.A X.xe none _ (.ref D) t3.heap.objs.size) { t3 with heap := pushCells (t3.heap.push { cls := .type "dict", data := .dict #[] }) scope.names }
  have pgB := hg t3 (upd H2 D (.lst [])) t3.heap.objs.size (cellsFrom (t3.heap.objs.size + 1) scope.names (cloFrom X.env.cells scope.names [])) fp
  have bdB := bd t3 (upd H2 D (.lst [])) t3.heap.objs.size (cellsFrom (t3.heap.objs.size + 1) scope.names (cloFrom X.env.cells scope.names [])) fp D
  generalize eC : compEnvC scope (cellsFrom (t3.heap.objs.size + 1) scope.names (cloFrom X.env.cells scope.names [])) t3.heap.objs.size X.env = ce at B pgB bdB ⊢
  have hce : ce.locals = t3.heap.objs.size := by rw [← eC]; rfl
  have st4 : tn 0 (pushCells (t3.heap.push { cls := .type "dict", data := .dict #[] }) scope.names) := T.keep _ _ _ st2 fun a _ o e => pushCells_keeps _ _ _ _ (Heap.get?_push_of_some _ (by rw [hL]; exact Heap.get?_push_of_some _ e))
  have loop := run_lv (X := X.blk t3 (upd H2 D (.lst [])) scope ce fp) (R := compPost (model X.prog X.w) X.A X.xe none (EP X pins σ Q) (.ref D) t3.heap.objs.size) (σ := σ) (vs := own.map (·.2)) (g := g) (b := b) (Nx := fun G => Q (.ref D) G) (m0 := m0) hc rfl (TI ce D) pgB bdB hvs T
    (fun a ha H' z => ⟨z, (B.ok.exf a ha).1, B.ok.exfs a ha, .inl ha, fun x c e => (B.ok.exf a ha).2 x c e, fun p hp => by cases hp⟩) B st4 N3 w0 turn (fun s' H' I' hq => ?_)
  · exact start_by loop rfl (T.self X.A 0 _ _ _ st4 ⟨rfl, loop⟩)
  · have back : Inv X pins σ H' s' := I3.call' (ch := fp) I'.os I'.base I'.hok I'.bare fun a ha => ⟨(F3 a ha).1.2.2.2.1, (F3 a ha).1.2.1, (F3 a ha).1.2.2.2.2.1, (F3 a ha).1.2.2.2.2.2⟩
    obtain ⟨m, hm, _⟩ := I'.loc
    have hm : s'.heap.Ns ce.locals m := hm
    have free : H' ce.locals = none := I'.free
    rw [hce] at hm free
    refine ⟨m, hm, fun h2 sb => ?_⟩
    obtain ⟨z0, z1, z2, z3, z4, z5⟩ := I3.fpOk (Nat.le_refl _) free
    exact ⟨.ref D, H', back.turned (t' := s'.toks) (fun a o ha e => (sb.2 a ha).trans e) z0 z1 z3 z4 z5, rfl, hq⟩
/-- three clauses -/
theorem pe_lc3 {X : Cx} {elt t0 i0 t1 i1 t2 i2 : Expr} {scope : Scope} {own : List (Str × Nat)} {pos : Pos} {w0 w1 w2 : TI} {g0 g1 g2 : TG} {te : TE} {vs1 vs2 : List Nat} (hc : X.calm = true) (hN : X.N.Nodup) (ok : BlkOk X.N X.env.scope scope own) (hv1 : ∀ i ∈ vs1, i ∈ own.map (·.2)) (hv2 : ∀ i ∈ vs2, i ∈ vs1)
    (h0 : PI X t0 i0 w0) (hg0 : ∀ (s : Shared) (H : Hp) (C : Addr) (cl : List (Str × Addr)) (fp : List Addr), PG (X.blk s H scope (compEnvC scope cl C X.env) fp) t0 g0)
    (h1 : ∀ (s : Shared) (H : Hp) (C : Addr) (cl : List (Str × Addr)) (fp : List Addr), PI (X.blk s H scope (compEnvC scope cl C X.env) fp) t1 i1 w1) (hg1 : ∀ (s : Shared) (H : Hp) (C : Addr) (cl : List (Str × Addr)) (fp : List Addr), PG (X.blk s H scope (compEnvC scope cl C X.env) fp) t1 g1)
    (h2 : ∀ (s : Shared) (H : Hp) (C : Addr) (cl : List (Str × Addr)) (fp : List Addr), PI (X.blk s H scope (compEnvC scope cl C X.env) fp) t2 i2 w2) (hg2 : ∀ (s : Shared) (H : Hp) (C : Addr) (cl : List (Str × Addr)) (fp : List Addr), PG (X.blk s H scope (compEnvC scope cl C X.env) fp) t2 g2)
    (he : ∀ (s : Shared) (H : Hp) (C : Addr) (cl : List (Str × Addr)) (fp : List Addr), PE (X.blk s H scope (compEnvC scope cl C X.env) fp) elt te)
    (s0 : ∀ x, foldedSetIterable i0 X.env x = pure x := by intro _; rfl) (s1 : ∀ env x, foldedSetIterable i1 env x = pure x := by intro _ _; rfl) (s2 : ∀ env x, foldedSetIterable i2 env x = pure x := by intro _ _; rfl) :
    PE X (.ListComp elt [⟨t0, i0, [], 0⟩, ⟨t1, i1, [], 0⟩, ⟨t2, i2, [], 0⟩] scope pos) (tLcN w0 g0 (own.map (·.2)) (bIn w1 g1 vs1 (bIn w2 g2 vs2 (bLeaf te)))) :=
  pe_lcN (code := fun env D => stepIn (.ListComp elt [⟨t0, i0, [], 0⟩, ⟨t1, i1, [], 0⟩, ⟨t2, i2, [], 0⟩] scope pos) 1 i1 env (.ref D)) hc hN h0 ok hg0 (fun env D it => rfl) hv1 (fun s H C cl fp D =>
    lv_in (code := stepIn (.ListComp elt [⟨t0, i0, [], 0⟩, ⟨t1, i1, [], 0⟩, ⟨t2, i2, [], 0⟩] scope pos) 2 i2 (compEnvC scope cl C X.env) (.ref D)) hc rfl (fun it => rfl) (h1 s H C cl fp) (hg1 s H C cl fp)
      (lv_in (code := stepLeaf elt (compEnvC scope cl C X.env) (.ref D)) hc rfl (fun it => rfl) (h2 s H C cl fp) (hg2 s H C cl fp) (lv_leaf rfl (he s H C cl fp)) (fun i hi => by cases hi) (s2 _) rfl) hv2 (s1 _) rfl) s0
section
variable {J : It} {n : Nat} {G : Hp → Prop} {Y : Nat → Hp → V → Hp → Prop}
/-- the walk of the first clause -/
theorem cN (w : Walk J n G Y) {g : TG} {vs : List Nat} {b : LvT} {σ : L2.St} {H1 : Hp} {D : Addr} {Q : VK} (Pv : Nat → Hp → Prop) (h0 : Pv 0 (upd H1 D (.lst []))) (hG : ∀ i H, i ≤ n → Pv i H → G H)
    (hs : ∀ i x H H', i < n → Pv i H → Y i H x H' → g x (wipe σ vs) H' fun σ2 H2 => wipe σ2 vs = wipe σ vs ∧ b D σ2 H2 (Pv (i + 1))) (hd : ∀ H, Pv n H → Q (.ref D) H) :
    ∃ W : Nat → Nat → Hp → Prop, (∃ m, W 0 m (upd H1 D (.lst []))) ∧ ∀ j m G, W j m G → (J.stop j G ∧ Q (.ref D) G) ∨ (J.go j G ∧ ∃ Nx1 : Hp → Prop, (∀ G', Nx1 G' → ∃ m', m' < m ∧ W (j + 1) m' G') ∧ ∀ x G', J.yld j G x G' → g x (wipe σ vs) G' fun σ2 G2 => wipe σ2 vs = wipe σ vs ∧ b D σ2 G2 Nx1) := by
  refine ⟨fun i m H => m = n - i ∧ i ≤ n ∧ Pv i H, ⟨n, by simp, Nat.zero_le _, h0⟩, ?_⟩
  rintro i m H ⟨rfl, hi, p⟩
  rcases Nat.lt_or_ge i n with hlt | hge
  · exact .inr ⟨w.goes i H hlt (hG i H hi p), Pv (i + 1), fun H' p' => ⟨n - (i + 1), by omega, rfl, hlt, p'⟩, fun x H' y => hs i x H H' hlt p (w.yields i H x H' hlt (hG i H hi p) y)⟩
  · obtain rfl : i = n := by omega
    exact .inl ⟨w.stops H (hG i H hi p), hd H p⟩
/-- .. of a further one -/
theorem cI (w : Walk J n G Y) {g : TG} {vs : List Nat} {b : LvT} {σ : L2.St} {H1 : Hp} {D : Addr} {Nx : Hp → Prop} (Pv : Nat → Hp → Prop) (h0 : Pv 0 H1) (hG : ∀ i H, i ≤ n → Pv i H → G H)
    (hs : ∀ i x H H', i < n → Pv i H → Y i H x H' → g x (wipe σ vs) H' fun σ2 H2 => wipe σ2 vs = wipe σ vs ∧ b D σ2 H2 (Pv (i + 1))) (hd : ∀ H, Pv n H → Nx H) :
    ∃ W : Nat → Nat → Hp → Prop, (∃ m, W 0 m H1) ∧ ∀ j m G, W j m G → (J.stop j G ∧ Nx G) ∨ (J.go j G ∧ ∃ Nx1 : Hp → Prop, (∀ G', Nx1 G' → ∃ m', m' < m ∧ W (j + 1) m' G') ∧ ∀ x G', J.yld j G x G' → g x (wipe σ vs) G' fun σ2 G2 => wipe σ2 vs = wipe σ vs ∧ b D σ2 G2 Nx1) := by
  refine ⟨fun i m H => m = n - i ∧ i ≤ n ∧ Pv i H, ⟨n, by simp, Nat.zero_le _, h0⟩, ?_⟩
  rintro i m H ⟨rfl, hi, p⟩
  rcases Nat.lt_or_ge i n with hlt | hge
  · exact .inr ⟨w.goes i H hlt (hG i H hi p), Pv (i + 1), fun H' p' => ⟨n - (i + 1), by omega, rfl, hlt, p'⟩, fun x H' y => hs i x H H' hlt p (w.yields i H x H' hlt (hG i H hi p) y)⟩
  · obtain rfl : i = n := by omega
    exact .inl ⟨w.stops H (hG i H hi p), hd H p⟩
end
end Fm
end FFmLcN
section FFmLc2
set_option Elab.async false
set_option linter.all false
set_option maxRecDepth 100000
set_option maxHeartbeats 4000000
namespace Fm
open PySem PySem.Spec PyProof.Rows L2
/-- the inner walk of a comprehension with two for, its list at D, within one turn of the outer one -/
def LcI (J1 : It) (g1 : TG) (tt1 : TT) (te : TE) (vs1 : List Nat) (σ2 : L2.St) (H4 : Hp) (D : Addr) (Nx : Hp → Prop) : Prop := ∃ W1 : Nat → Nat → Hp → Prop, (∃ m, W1 0 m H4) ∧ ∀ j k H, W1 j k H →
  (J1.stop j H ∧ Nx H) ∨ (J1.go j H ∧ ∃ Nx1 : Hp → Prop, (∀ H', Nx1 H' → ∃ k', k' < k ∧ W1 (j + 1) k' H') ∧ ∀ x H', J1.yld j H x H' → g1 x (wipe σ2 vs1) H' fun σ3 H5 => wipe σ3 vs1 = wipe σ2 vs1 ∧ tt1 σ3 H5 fun b H6 =>
    if b = true then te σ3 H6 fun y H7 => ∃ acc, H7 D = some (.lst acc) ∧ acc.length < sizeLine ∧ Nx1 (upd H7 D (.lst (acc ++ [y]))) else Nx1 H6)
def Lc2B (J : It) (g : TG) (tt : TT) (wi1 : TI) (g1 : TG) (tt1 : TT) (te : TE) (vs vs1 : List Nat) (σ : L2.St) (H1 : Hp) (D : Addr) (Qd : Hp → Prop) : Prop := ∃ W : Nat → Nat → Hp → Prop, (∃ m, W 0 m (upd H1 D (.lst []))) ∧ ∀ i m H, W i m H →
  (J.stop i H ∧ Qd H) ∨ (J.go i H ∧ ∃ Nx : Hp → Prop, (∀ H', Nx H' → ∃ m', m' < m ∧ W (i + 1) m' H') ∧ ∀ x H', J.yld i H x H' → g x (wipe σ vs) H' fun σ2 H2 => wipe σ2 vs = wipe σ vs ∧ tt σ2 H2 fun b H3 =>
    if b = true then wi1 σ2 H3 fun J1 H4 => LcI J1 g1 tt1 te vs1 σ2 H4 D Nx else Nx H3)
theorem tLc2_eq {wi wi1 : TI} {g g1 : TG} {tt tt1 : TT} {te : TE} {vs vs1 : List Nat} {σ : L2.St} {H : Hp} {Q : VK} : tLc2 wi g tt wi1 g1 tt1 te vs vs1 σ H Q = wi σ H fun J H1 => ∀ A, H1 A = none → Lc2B J g tt wi1 g1 tt1 te vs vs1 σ H1 A (fun H => Q (.ref A) H) := rfl
section
variable {J : It} {n : Nat} {G : Hp → Prop} {Y : Nat → Hp → V → Hp → Prop}
theorem l2I (w : Walk J n G Y) {g : TG} {tt : TT} {wi1 : TI} {g1 : TG} {tt1 : TT} {te : TE} {vs vs1 : List Nat} {σ : L2.St} {H1 : Hp} {D : Addr} {Qd : Hp → Prop} (Pv : Nat → Hp → Prop) (h0 : Pv 0 (upd H1 D (.lst []))) (hG : ∀ i H, i ≤ n → Pv i H → G H)
    (hs : ∀ i x H H', i < n → Pv i H → Y i H x H' → g x (wipe σ vs) H' fun σ2 H2 => wipe σ2 vs = wipe σ vs ∧ tt σ2 H2 fun b H3 =>
      if b = true then wi1 σ2 H3 fun J1 H4 => LcI J1 g1 tt1 te vs1 σ2 H4 D (Pv (i + 1)) else Pv (i + 1) H3) (hd : ∀ H, Pv n H → Qd H) : Lc2B J g tt wi1 g1 tt1 te vs vs1 σ H1 D Qd := by
  refine ⟨fun i m H => m = n - i ∧ i ≤ n ∧ Pv i H, ⟨n, by simp, Nat.zero_le _, h0⟩, ?_⟩
  rintro i m H ⟨rfl, hi, p⟩
  have q := hG i H hi p
  by_cases hlt : i < n
  · exact .inr ⟨w.goes i H hlt q, Pv (i + 1), fun H' p' => ⟨n - (i + 1), by omega, rfl, hlt, p'⟩, fun x H' y => hs i x H H' hlt p (w.yields i H x H' hlt q y)⟩
  · have e : i = n := by omega
    subst e
    exact .inl ⟨w.stops H q, hd H p⟩
theorem liI (w : Walk J n G Y) {g1 : TG} {tt1 : TT} {te : TE} {vs1 : List Nat} {σ2 : L2.St} {H4 : Hp} {D : Addr} {Nx : Hp → Prop} (Pv : Nat → Hp → Prop) (h0 : Pv 0 H4) (hG : ∀ i H, i ≤ n → Pv i H → G H)
    (hs : ∀ i x H H', i < n → Pv i H → Y i H x H' → g1 x (wipe σ2 vs1) H' fun σ3 H5 => wipe σ3 vs1 = wipe σ2 vs1 ∧ tt1 σ3 H5 fun b H6 =>
      if b = true then te σ3 H6 fun y H7 => ∃ acc, H7 D = some (.lst acc) ∧ acc.length < sizeLine ∧ Pv (i + 1) (upd H7 D (.lst (acc ++ [y]))) else Pv (i + 1) H6) (hd : ∀ H, Pv n H → Nx H) : LcI J g1 tt1 te vs1 σ2 H4 D Nx := by
  refine ⟨fun i m H => m = n - i ∧ i ≤ n ∧ Pv i H, ⟨n, by simp, Nat.zero_le _, h0⟩, ?_⟩
  rintro i m H ⟨rfl, hi, p⟩
  have q := hG i H hi p
  by_cases hlt : i < n
  · exact .inr ⟨w.goes i H hlt q, Pv (i + 1), fun H' p' => ⟨n - (i + 1), by omega, rfl, hlt, p'⟩, fun x H' y => hs i x H H' hlt p (w.yields i H x H' hlt q y)⟩
  · have e : i = n := by omega
    subst e
    exact .inl ⟨w.stops H q, hd H p⟩
end
theorem pi_listK {X : Cx} {K : PySem.W.Frag} {tg l : Expr} {tl : TE} (e : X.K = K) (hl : PE X l tl) : PI X tg l (iList K tl) := by
  subst e
  exact pi_list hl
theorem pt_truthK {X : Cx} {K : PySem.W.Frag} {a : Expr} {ta : TE} (e : X.K = K) (ha : PE X a ta) (he : ∀ whole, isTrue a X.env whole = (do let v ← whole; standAt a.pos; holding [v] (truthy v))) :
    PT X a (fun σ H Q => ta σ H fun x H' => ∃ k, TruV K x H' k ∧ Q k H') := by
  subst e
  exact pt_truth ha he
end Fm
end FFmLc2
section FTH
set_option Elab.async false
set_option linter.all false
set_option maxRecDepth 100000
set_option maxHeartbeats 4000000
local macro_rules | `(tactic| walk_at "ne") => `(tactic| first | assumption | (apply Ne.symm; assumption) | exact L2.ne_of_none (by assumption) (by assumption) | exact Ne.symm (L2.ne_of_none (by assumption) (by assumption)))
local macro_rules | `(tactic| walk_at "hl") => `(tactic| first | assumption | exact L2.upd_same | (refine Eq.trans (L2.upd_ne (by walk_at "ne")) ?_; walk_at "hl"))
local macro_rules | `(tactic| walk_at "sd") => `(tactic| first | (with_reducible show (_ : Int) < _; omega) | (with_reducible show (_ : Int) ≤ _; omega) | assumption | decide | exact ⟨by assumption, by assumption⟩ | exact ⟨by decide, by decide⟩ | exact Or.inr ⟨by decide, by decide⟩ | exact Or.inl ⟨by omega, by omega⟩ | rfl)
local macro_rules | `(tactic| walk_at "st1") => `(tactic| first
  | refine ⟨_, rfl, ?_⟩
  | refine ⟨_, _, rfl, rfl, ?_⟩
  | refine ⟨_, _, rfl, ?_⟩
  | (refine ⟨_, _, _, _, rfl, rfl, L2.SqL.of (by walk_at "hl"), rfl, ?_⟩)
  | (refine ⟨_, _, _, _, rfl, rfl, L2.SqT.of (by walk_at "hl"), rfl, ?_⟩)
  | (refine ⟨_, _, _, _, rfl, rfl, (by walk_at "hl"), rfl, ?_⟩)
  | (refine And.intro (by walk_at "sd") ?_)
  )
local macro_rules | `(tactic| walk_at "st") => `(tactic| repeat walk_at "st1")
local macro_rules | `(tactic| walk_at "op") => `(tactic| try dsimp only [L2.tSeq, L2.tAsg, L2.tOp, L2.tVar, L2.tC, L2.gSub, L2.rI, L2.rI0, L2.rIxL, L2.rIxT, L2.rSetL, L2.tIfS, L2.tTest, L2.tRet, L2.gName, L2.tNext, L2.tAnd, L2.tOr, L2.tNot, L2.tAndV, L2.tOrV, L2.tNotV, L2.tB, L2.tCB, L2.tCons, L2.tNil, L2.tCall, L2.tTup, L2.tLst, L2.tChain, L2.tUn, L2.tPar, L2.tDrop, L2.tIf, L2.tBM, L2.tBM0, L2.rAppend, L2.rCat, L2.rIsi, L2.rIsiT, L2.gTup, L2.gCons, L2.gNil, Fm.tFor_eq, Fm.tLc_eq, Fm.tLc2_eq, L2.iTup, L2.iList, L2.iRng1, L2.iRng2, L2.tSl, L2.tPart, L2.tNoPart, L2.rSlL, L2.rEq, L2.rNe, L2.rU, L2.rEqD, L2.rNeD, Fm.tRevT, Fm.rLenS, Fm.rTupOf, Fm.rLstOf, L2.tDNewK, L2.tCallS, L2.WE, Fm.wKeep, Fm.rIsK, Fm.rIsKT, List.cons_append, List.nil_append, L2.tYes])
namespace Fm
open PySem PySem.Spec PyProof.Rows L2
abbrev s_threes : Stmt := top 29
abbrev N_threes : List Str := ["m", "a", "b", "c"]
theorem sc_threes : FnScope N_threes ["m"] (defScope s_threes) := ⟨rfl, rfl, rfl, by decide +kernel, rfl, by decide +kernel, by decide +kernel⟩
abbrev s_orders : Stmt := top 30
abbrev N_orders : List Str := ["three", "a", "b", "c"]
theorem sc_orders : FnScope N_orders ["three"] (defScope s_orders) := ⟨rfl, rfl, rfl, by decide +kernel, rfl, by decide +kernel, by decide +kernel⟩
section
variable {P : Program} {w : World} {K : PySem.W.Frag} {mg : Str → Option Value} {base : Heap}
def triD (x : Nat × Nat × Nat) : PyData := .tuple [.int (x.1 : Nat), .int (x.2.1 : Nat), .int (x.2.2 : Nat)]
def rowC (a b n : Nat) : List (Nat × Nat × Nat) := (List.range n).map fun k => (a, b, b + k)
def rowB (m a n : Nat) : List (Nat × Nat × Nat) := (List.range n).flatMap fun j => rowC a (a + j) (m - (a + j))
def thrN (m n : Nat) : List (Nat × Nat × Nat) := (List.range n).flatMap fun a => rowB m a (m - a)
def thr (m : Nat) : List (Nat × Nat × Nat) := thrN m m
theorem rowC_succ (a b n : Nat) : rowC a b (n + 1) = rowC a b n ++ [(a, b, b + n)] := by unfold rowC; rw [List.range_succ, List.map_append]; rfl
theorem rowB_succ (m a n : Nat) : rowB m a (n + 1) = rowB m a n ++ rowC a (a + n) (m - (a + n)) := by unfold rowB; rw [List.range_succ, List.flatMap_append, List.flatMap_singleton]
theorem thrN_succ (m n : Nat) : thrN m (n + 1) = thrN m n ++ rowB m n (m - n) := by unfold thrN; rw [List.range_succ, List.flatMap_append, List.flatMap_singleton]
theorem rowC_len (a b n : Nat) : (rowC a b n).length = n := by unfold rowC; rw [List.length_map, List.length_range]
theorem rowB_len {m : Nat} (hm : m ≤ 6) (a : Nat) : ∀ n, (rowB m a n).length ≤ n * 6
  | 0 => Nat.le_refl 0
  | n + 1 => by
    have := rowB_len hm a n
    rw [rowB_succ, List.length_append, rowC_len]
    omega
theorem thrN_len {m : Nat} (hm : m ≤ 6) : ∀ n, (thrN m n).length ≤ n * 36
  | 0 => Nat.le_refl 0
  | n + 1 => by
    have := thrN_len hm n
    have := rowB_len hm n (m - n)
    rw [thrN_succ, List.length_append]
    omega
theorem triD_no (x : Nat × Nat × Nat) : noList (triD x) = true := noList_of fun e he => by
  simp only [List.mem_cons, List.not_mem_nil, or_false] at he
  rcases he with rfl | rfl | rfl <;> (unfold noList; rfl)
theorem tris_no (l : List (Nat × Nat × Nat)) : ∀ d ∈ l.map triD, noList d = true := fun d hd => by
  obtain ⟨x, _, rfl⟩ := List.mem_map.mp hd
  exact triD_no x
theorem Dat.off {H : Hp} {p L : Addr} {o : HO} {v : V} {d : PyData} (h : Dat H p v d) (hL : H L = none) : Dat (upd H L o) p v d := h.same (same_new hL)
theorem Dats.off {H : Hp} {p L : Addr} {o : HO} {xs : List V} {ds : List PyData} (h : Dats H p xs ds) (hL : H L = none) : Dats (upd H L o) p xs ds := ⟨h.1, fun i x d a b => (h.2 i x d a b).off hL⟩
theorem small1000 {n : Nat} (h : n ≤ 1000) : n < sizeLine := by rw [sizeLine_eq]; omega
theorem Dat.setL {H : Hp} {p R : Addr} {xs ys : List V} {v : V} {d : PyData} (hR : H R = some (.lst xs)) (h : Dat H p v d) : noList d = true → Dat (upd H R (.lst ys)) p v d := by
  induction h with
  | non => exact fun _ => .non
  | bl b => exact fun _ => .bl b
  | int i => exact fun _ => .int i
  | str x => exact fun _ => .str x
  | tup h1 h2 h3 h4 ih => exact fun hn => .tup (by rw [upd_ne (ne_of h1 hR (by intro z; cases z))]; exact h1) h2 h3 fun i x d a b => ih i x d a b (noList_tup hn d (List.mem_of_getElem? b))
  | lst h1 h2 h3 h4 ih => exact fun hn => by unfold noList at hn; cases hn
  | dct h1 h2 => exact fun _ => .dct (by rw [upd_ne (ne_of h1 hR (by intro z; cases z))]; exact h1) h2
theorem Dats.setL {H : Hp} {p R : Addr} {xs ys zs : List V} {ds : List PyData} (hR : H R = some (.lst xs)) (h : Dats H p zs ds) (hn : ∀ d ∈ ds, noList d = true) : Dats (upd H R (.lst ys)) p zs ds :=
  ⟨h.1, fun i x d a b => (h.2 i x d a b).setL hR (hn d (List.mem_of_getElem? b))⟩
theorem rowC_mem {a b n : Nat} {x : Nat × Nat × Nat} (h : x ∈ rowC a b n) : x.1 = a ∧ x.2.1 = b ∧ b ≤ x.2.2 ∧ x.2.2 < b + n := by
  unfold rowC at h
  obtain ⟨k, hk, rfl⟩ := List.mem_map.mp h
  have := List.mem_range.mp hk
  exact ⟨rfl, rfl, Nat.le_add_right _ _, by show b + k < b + n; omega⟩
theorem thr_mem {m : Nat} {x : Nat × Nat × Nat} (h : x ∈ thr m) : x.1 < m ∧ x.2.1 < m ∧ x.2.2 < m := by
  unfold thr thrN at h
  obtain ⟨a, ha, h⟩ := List.mem_flatMap.mp h
  unfold rowB at h
  obtain ⟨j, hj, h⟩ := List.mem_flatMap.mp h
  obtain ⟨h1, h2, h3, h4⟩ := rowC_mem h
  have := List.mem_range.mp ha
  have := List.mem_range.mp hj
  omega
def spThrees : Sp := fun vs H Q _ => ∃ (m : Nat) (p : Addr) (u : HO), vs = [.int (m : Nat)] ∧ m ≤ 6 ∧ H p = some u ∧ ∀ q ws H', H q = none → H' q = some (.lst ws) → Dats H' p ws ((thr m).map triD) → Same H H' → Q (.ref q) H'
theorem ok_threes (D : Df K mg "threes" s_threes ["m"]) (T : Nms mg) : CallOk P w K mg base CX0 1 "threes" ["m"] spThrees := by
  refine df_ok D sc_threes (fun vs H Q E h => ?_) (fun f cdv A outer s H vs Q E hr h => ?_)
  · obtain ⟨m, p, u, rfl, _⟩ := h
    rfl
  · obtain ⟨m, p, u, rfl, hm, hp, k⟩ := h
    have nd := sc_threes.nd
    refine ⟨_, (pss_one (ps_ret (pe_lc3 (own := [("a", 1), ("b", 2), ("c", 3)]) (vs1 := [2, 3]) (vs2 := [3]) (g0 := gName 1) (g1 := gName 2) (g2 := gName 3) (by rfl) nd (blkOk_by (own := [("a", 1), ("b", 2), ("c", 3)]) (N := N_threes) (sc := defScope s_threes) (by decide +kernel)) (by decide) (by decide) (pi_range1 rfl T.n_range (pa_cons (pv 0) pa_nil)) (fun _ _ _ _ _ => (pg_name (i := 1) nd rfl (Or.inl rfl))) (fun _ _ _ _ _ => (pi_range2 rfl T.n_range (pa_cons (pv 1) (pa_cons (pv 0) pa_nil)))) (fun _ _ _ _ _ => (pg_name (i := 2) nd rfl (Or.inl rfl))) (fun _ _ _ _ _ => (pi_range2 rfl T.n_range (pa_cons (pv 2) (pa_cons (pv 0) pa_nil)))) (fun _ _ _ _ _ => (pg_name (i := 3) nd rfl (Or.inl rfl))) (fun _ _ _ _ _ => (pe_tup (pa_cons (pv 1) (pa_cons (pv 2) (pa_cons (pv 3) pa_nil)))))))), ?_⟩
    walk_at "op"
    walk_at "st"
    refine fun D0 hD0 => ?_
    have pne : ∀ {S : Addr} {G : Hp}, Same H G → G S = none → S ≠ p := fun {S G} e z q => by
      rw [q] at z
      have := e p u hp
      rw [z] at this
      cases this
    refine cN walk_range (fun i G => Same H G ∧ ∃ ws, G D0 = some (.lst ws) ∧ Dats G p ws ((thrN m i).map triD)) ⟨same_new hD0, [], upd_same, Dats.nil⟩ (fun _ _ _ _ => True.intro) ?_ ?_
    · rintro i x _ G hi ⟨sm, ws, hw, hW⟩ ⟨rfl, rfl⟩
      dsimp only
      rw [Int.zero_add]
      have hlA := thrN_len hm i
      walk_at "op"
      refine ⟨rfl, ?_⟩
      show iRng2 (tCons (tVar 1) (tCons (tVar 0) tNil)) _ _ _
      refine ⟨_, rfl, _, rfl, _, _, rfl, ⟨by omega, by omega, by omega, by omega⟩, ?_⟩
      rw [show ((m : Int) - (i : Nat)).toNat = m - i by omega]
      refine cI walk_range (fun j G => Same H G ∧ ∃ ws, G D0 = some (.lst ws) ∧ Dats G p ws ((thrN m i ++ rowB m i j).map triD)) ⟨sm, ws, hw, by rw [show rowB m i 0 = [] from rfl, List.append_nil]; exact hW⟩ (fun _ _ _ _ => True.intro) ?_ ?_
      · rintro j x _ G hj ⟨sm, ws, hw, hW⟩ ⟨rfl, rfl⟩
        have hlB := rowB_len hm i j
        walk_at "op"
        refine ⟨rfl, ?_⟩
        show iRng2 (tCons (tVar 2) (tCons (tVar 0) tNil)) _ _ _
        refine ⟨_, rfl, _, rfl, _, _, rfl, ⟨by omega, by omega, by omega, by omega⟩, ?_⟩
        rw [show ((m : Int) - ((i : Nat) + (j : Nat))).toNat = m - (i + j) by omega]
        refine cI walk_range (fun l G => Same H G ∧ ∃ ws, G D0 = some (.lst ws) ∧ Dats G p ws ((thrN m i ++ rowB m i j ++ rowC i (i + j) l).map triD)) ⟨sm, ws, hw, by rw [show rowC i (i + j) 0 = [] from rfl, List.append_nil]; exact hW⟩ (fun _ _ _ _ => True.intro) ?_ ?_
        · rintro l x _ G hl ⟨sm, ws, hw, hW⟩ ⟨rfl, rfl⟩
          refine ⟨rfl, ?_⟩
          refine ⟨_, rfl, _, rfl, _, rfl, ⟨by show 3 ≤ sizeLine; decide, fun t ht => ?_⟩⟩
          have nDt : D0 ≠ t := ne_of_none hw ht
          have htH := sameFree sm ht
          have hw2 := (same_new (o := .tup [.int (i : Nat), .int ((i : Nat) + (j : Nat)), .int ((i : Nat) + (j : Nat) + (l : Nat))]) ht) _ _ hw
          refine ⟨ws, hw2, small1000 ?_, sameOff (sm.trans (same_new ht)) hD0, ws ++ [.ref t], upd_same, ?_⟩
          · rw [hW.1, List.length_map, List.length_append, List.length_append, rowC_len]
            omega
          · rw [rowC_succ, ← List.append_assoc, List.map_append]
            refine ((hW.off ht).setL hw2 (tris_no _)).snoc (Dat.setL hw2 (Dat.new ht (pne sm ht) ?_) (triD_no _))
            have q := Dats.ints (H := G) (p := p) [(i : Int), ((i + j : Nat) : Int), ((i + j + l : Nat) : Int)]
            simpa using q
        · rintro G ⟨sm, ws, hw, hW⟩
          rw [List.append_assoc, ← rowB_succ] at hW
          exact ⟨sm, ws, hw, hW⟩
      · rintro G ⟨sm, ws, hw, hW⟩
        rw [← thrN_succ] at hW
        exact ⟨sm, ws, hw, hW⟩
    · rintro G ⟨sm, ws, hw, hW⟩
      exact k D0 ws G hD0 hw hW sm
theorem pne_of {H : Hp} {p : Addr} {u : HO} (hp : H p = some u) {S : Addr} {G : Hp} (e : Same H G) (q : G S = none) : S ≠ p := fun z => by
  rw [z, e p u hp] at q
  cases q
theorem tri_parts {H : Hp} {p : Addr} {v : V} {x : Nat × Nat × Nat} (h : Dat H p v (triD x)) : ∃ a, v = .ref a ∧ H a = some (.tup [.int (x.1 : Nat), .int (x.2.1 : Nat), .int (x.2.2 : Nat)]) ∧ a ≠ p := by
  obtain ⟨a, ys, rfl, ha, np, hs⟩ := h.isTup
  have e : ys = [.int (x.1 : Nat), .int (x.2.1 : Nat), .int (x.2.2 : Nat)] := dats_ints (ns := [((x.1 : Nat) : Int), ((x.2.1 : Nat) : Int), ((x.2.2 : Nat) : Int)]) hs
  rw [e] at ha
  exact ⟨a, rfl, ha, np⟩
def ords (x : Nat × Nat × Nat) : List (Nat × Nat × Nat) := [(x.1, x.2.1, x.2.2), (x.1, x.2.2, x.2.1), (x.2.1, x.2.2, x.1)]
def spOrders : Sp := fun vs H Q _ => ∃ (tv : V) (p : Addr) (u : HO) (x : Nat × Nat × Nat), vs = [tv] ∧ H p = some u ∧ Dat H p tv (triD x) ∧ ∀ v H', Dat H' p v (.tuple ((ords x).map triD)) → Same H H' → Q v H'
theorem ok_orders (D : Df K mg "orders" s_orders ["three"]) (T : Nms mg) : CallOk P w K mg base CX0 1 "orders" ["three"] spOrders := by
  refine df_ok D sc_orders (fun vs H Q E h => ?_) (fun f cdv A outer s H vs Q E hr h => ?_)
  · obtain ⟨tv, p, u, x, rfl, _⟩ := h
    rfl
  · obtain ⟨tv, p, u, x, rfl, hp, hd, k⟩ := h
    have nd := sc_orders.nd
    obtain ⟨ta, rfl, hta, _⟩ := tri_parts hd
    refine ⟨_, (pss_cons (ps_asg (pv 0) (pg_tup rfl (pgs_cons (pg_name (i := 1) nd rfl (Or.inl rfl)) (pgs_cons (pg_name (i := 2) nd rfl (Or.inl rfl)) (pgs_cons (pg_name (i := 3) nd rfl (Or.inl rfl)) pgs_nil)))))
      (pss_one (ps_ret (pe_tup (pa_cons (pe_tup (pa_cons (pv 1) (pa_cons (pv 2) (pa_cons (pv 3) pa_nil)))) (pa_cons (pe_tup (pa_cons (pv 1) (pa_cons (pv 3) (pa_cons (pv 2) pa_nil)))) (pa_cons (pe_tup (pa_cons (pv 2) (pa_cons (pv 3) (pa_cons (pv 1) pa_nil)))) pa_nil))))))), ?_⟩
    walk_at "op"
    walk_at "st"
    refine ⟨ta, _, rfl, SqT.of hta, rfl, _, _, rfl, _, _, rfl, _, _, rfl, rfl, ?_⟩
    walk_at "op"
    walk_at "st"
    refine ⟨by show 3 ≤ sizeLine; decide, fun t1 h1 => ?_⟩
    have s1 := same_new (o := .tup [.int (x.1 : Nat), .int (x.2.1 : Nat), .int (x.2.2 : Nat)]) h1
    have d1 : Dat (upd H t1 (.tup [.int (x.1 : Nat), .int (x.2.1 : Nat), .int (x.2.2 : Nat)])) p (.ref t1) (triD (x.1, x.2.1, x.2.2)) := Dat.new h1 (pne_of hp (fun _ _ z => z) h1) (Dats.ints [(x.1 : Int), (x.2.1 : Int), (x.2.2 : Int)])
    generalize upd H t1 (.tup [.int (x.1 : Nat), .int (x.2.1 : Nat), .int (x.2.2 : Nat)]) = G1 at s1 d1 ⊢
    refine ⟨_, rfl, _, rfl, _, rfl, by show 3 ≤ sizeLine; decide, fun t2 h2 => ?_⟩
    have s2 := same_new (o := .tup [.int (x.1 : Nat), .int (x.2.2 : Nat), .int (x.2.1 : Nat)]) h2
    have d2 : Dat (upd G1 t2 (.tup [.int (x.1 : Nat), .int (x.2.2 : Nat), .int (x.2.1 : Nat)])) p (.ref t2) (triD (x.1, x.2.2, x.2.1)) := Dat.new h2 (pne_of hp s1 h2) (Dats.ints [(x.1 : Int), (x.2.2 : Int), (x.2.1 : Int)])
    generalize upd G1 t2 (.tup [.int (x.1 : Nat), .int (x.2.2 : Nat), .int (x.2.1 : Nat)]) = G2 at s2 d2 ⊢
    have s02 := s1.trans s2
    refine ⟨_, rfl, _, rfl, _, rfl, by show 3 ≤ sizeLine; decide, fun t3 h3 => ?_⟩
    have s3 := same_new (o := .tup [.int (x.2.1 : Nat), .int (x.2.2 : Nat), .int (x.1 : Nat)]) h3
    have d3 : Dat (upd G2 t3 (.tup [.int (x.2.1 : Nat), .int (x.2.2 : Nat), .int (x.1 : Nat)])) p (.ref t3) (triD (x.2.1, x.2.2, x.1)) := Dat.new h3 (pne_of hp s02 h3) (Dats.ints [(x.2.1 : Int), (x.2.2 : Int), (x.1 : Int)])
    generalize upd G2 t3 (.tup [.int (x.2.1 : Nat), .int (x.2.2 : Nat), .int (x.1 : Nat)]) = G3 at s3 d3 ⊢
    have s03 := s02.trans s3
    refine ⟨by show 3 ≤ sizeLine; decide, fun t4 h4 => k _ _ ?_ (s03.trans (same_new h4))⟩
    exact Dat.new h4 (pne_of hp s03 h4) (.cons ((d1.same s2).same s3) (.cons (d2.same s3) (.cons d3 .nil)))
end
end Fm
end FTH
section FFmConf
/-! People on floors, told by how many there are of each number: three who come to one end in any order are enough. Pure arithmetic, nothing of the model. -/
set_option linter.all false
namespace FmC
/-- how many people of each number on each floor -/
abbrev St := Nat → Nat → Nat
def plus (c d : St) : St := fun f a => c f a + d f a
/-- one person -/
def one (f a : Nat) : St := fun g b => if g = f ∧ b = a then 1 else 0
instance : Add St := ⟨plus⟩
theorem add_at (c d : St) (f a : Nat) : (c + d) f a = c f a + d f a := rfl
theorem add_ac (c d e : St) : c + d + e = c + (d + e) := by funext f a; simp only [add_at]; omega
theorem add_cm (c d : St) : c + d = d + c := by funext f a; simp only [add_at]; omega
theorem add_rc (c d e : St) : c + d + e = c + e + d := by funext f a; simp only [add_at]; omega
theorem one_self (f a : Nat) : one f a f a = 1 := by simp [one]
theorem one_ne {f a g b : Nat} (h : ¬ (g = f ∧ b = a)) : one f a g b = 0 := by simp [one, h]
/-- a person is here, or the other states agree -/
theorem swap {c d : St} {f a g b : Nat} (h : c + one f a = d + one g b) : (f = g ∧ a = b ∧ c = d) ∨ ∃ e : St, c = e + one g b ∧ d = e + one f a := by
  by_cases e : f = g ∧ a = b
  · refine .inl ⟨e.1, e.2, ?_⟩
    obtain ⟨rfl, rfl⟩ := e
    funext x y
    have := congrFun (congrFun h x) y
    simp only [add_at] at this
    omega
  · refine .inr ⟨fun x y => c x y - one g b x y, ?_, ?_⟩
    · funext x y
      have h1 := congrFun (congrFun h x) y
      simp only [add_at] at h1 ⊢
      by_cases k : x = g ∧ y = b
      · obtain ⟨rfl, rfl⟩ := k
        have : one f a x y = 0 := one_ne fun q => e ⟨q.1.symm, q.2.symm⟩
        have := one_self x y
        omega
      · have := one_ne (f := g) (a := b) k
        omega
    · funext x y
      have h1 := congrFun (congrFun h x) y
      simp only [add_at] at h1 ⊢
      by_cases k : x = g ∧ y = b
      · obtain ⟨rfl, rfl⟩ := k
        have : one f a x y = 0 := one_ne fun q => e ⟨q.1.symm, q.2.symm⟩
        have := one_self x y
        omega
      · have := one_ne (f := g) (a := b) k
        omega
section
-- n floors of m numbers; who stays, who goes up
variable (n m : Nat) (S U : Nat → Nat → Nat → Nat)
/-- the tables are alike both ways about and within the numbers -/
structure Tables : Prop where
  sc : ∀ f a b, f < n → a < m → b < m → S f a b = S f b a
  uc : ∀ f a b, f < n → a < m → b < m → U f a b = U f b a
  sm : ∀ f a b, f < n → a < m → b < m → S f a b < m
  um : ∀ f a b, f < n → a < m → b < m → U f a b < m
/-- one meeting -/
def Step (c d : St) : Prop := ∃ (e : St) (f a b : Nat), f < n ∧ a < m ∧ b < m ∧ c = e + one f a + one f b ∧ d = e + one f (S f a b) + one (f + 1) (U f a b)
inductive Run : St → St → Prop
  | nil (c : St) : Run c c
  | cons {c d e : St} : Step n m S U c d → Run d e → Run c e
variable {n m S U}
theorem Run.one {c d : St} (h : Step n m S U c d) : Run n m S U c d := .cons h (.nil d)
theorem Run.trans {c d e : St} (h : Run n m S U c d) (k : Run n m S U d e) : Run n m S U c e := by
  induction h with
  | nil => exact k
  | cons s _ ih => exact .cons s (ih k)
/-- others beside don't matter -/
theorem Step.beside {c d : St} (h : Step n m S U c d) (x : St) : Step n m S U (x + c) (x + d) := by
  obtain ⟨e, f, a, b, hf, ha, hb, rfl, rfl⟩ := h
  exact ⟨x + e, f, a, b, hf, ha, hb, by simp only [add_ac], by simp only [add_ac]⟩
theorem Run.beside {c d : St} (h : Run n m S U c d) (x : St) : Run n m S U (x + c) (x + d) := by
  induction h with
  | nil => exact .nil _
  | cons s _ ih => exact .cons (s.beside x) ih
variable (n m S U)
/-- three on one floor, alone: whoever meets first, they can come to one state -/
def Three : Prop := ∀ f x y z, f < n → x < m → y < m → z < m → ∃ E, Run n m S U (one f (S f x y) + one (f + 1) (U f x y) + one f z) E ∧ Run n m S U (one f (S f x z) + one (f + 1) (U f x z) + one f y) E
variable {n m S U}
theorem join_three (T : Three n m S U) {e : St} {f x y z : Nat} (hf : f < n) (hx : x < m) (hy : y < m) (hz : z < m) : ∃ E, Run n m S U (e + one f z + one f (S f x y) + one (f + 1) (U f x y)) E ∧ Run n m S U (e + one f y + one f (S f x z) + one (f + 1) (U f x z)) E := by
  obtain ⟨E, h1, h2⟩ := T f x y z hf hx hy hz
  refine ⟨e + E, ?_, ?_⟩
  · have := h1.beside e
    rw [show e + (one f (S f x y) + one (f + 1) (U f x y) + one f z) = e + one f z + one f (S f x y) + one (f + 1) (U f x y) from by funext p q; simp only [add_at]; omega] at this
    exact this
  · have := h2.beside e
    rw [show e + (one f (S f x z) + one (f + 1) (U f x z) + one f y) = e + one f y + one f (S f x z) + one (f + 1) (U f x z) from by funext p q; simp only [add_at]; omega] at this
    exact this
/-- two meetings of four people come to one state -/
theorem join_four {e : St} {f a b g x y : Nat} (hf : f < n) (ha : a < m) (hb : b < m) (hg : g < n) (hx : x < m) (hy : y < m) :
    ∃ E, Run n m S U (e + one g x + one g y + one f (S f a b) + one (f + 1) (U f a b)) E ∧ Run n m S U (e + one f a + one f b + one g (S g x y) + one (g + 1) (U g x y)) E := by
  refine ⟨e + one f (S f a b) + one (f + 1) (U f a b) + one g (S g x y) + one (g + 1) (U g x y), .one ⟨e + one f (S f a b) + one (f + 1) (U f a b), g, x, y, hg, hx, hy, ?_, rfl⟩, .one ⟨e + one g (S g x y) + one (g + 1) (U g x y), f, a, b, hf, ha, hb, ?_, ?_⟩⟩
  · funext p q; simp only [add_at]; omega
  · funext p q; simp only [add_at]; omega
  · funext p q; simp only [add_at]; omega
/-- any two meetings come to one state -/
theorem local_join (B : Tables n m S U) (T : Three n m S U) {c d1 d2 : St} (h1 : Step n m S U c d1) (h2 : Step n m S U c d2) : ∃ E, Run n m S U d1 E ∧ Run n m S U d2 E := by
  obtain ⟨e, f, a, b, hf, ha, hb, hc, rfl⟩ := h1
  obtain ⟨e', g, x, y, hg, hx, hy, hc', rfl⟩ := h2
  rw [hc] at hc'
  rcases swap hc' with ⟨rfl, rfl, h⟩ | ⟨k, h, h'⟩
  · -- b = y
    rcases swap h with ⟨_, rfl, rfl⟩ | ⟨k, rfl, rfl⟩
    · exact ⟨_, .nil _, .nil _⟩
    · -- people a, x, b: meetings (a, b) and (x, b)
      obtain ⟨E, r1, r2⟩ := join_three T (e := k) hf hb ha hx
      rw [B.sc f b a hf hb ha, B.uc f b a hf hb ha] at r1
      rw [B.sc f b x hf hb hx, B.uc f b x hf hb hx] at r2
      exact ⟨E, r1, r2⟩
  · -- e + one f a = k + one g y, e' + one g x = k + one f b
    rcases swap h with ⟨rfl, rfl, rfl⟩ | ⟨l, rfl, rfl⟩
    · -- a = y
      rcases swap h' with ⟨_, rfl, rfl⟩ | ⟨l, rfl, rfl⟩
      · refine ⟨_, .nil _, ?_⟩
        rw [B.sc f x a hf hx ha, B.uc f x a hf hx ha]
        exact .nil _
      · -- people a, b, x: meetings (a, b) and (x, a)
        obtain ⟨E, r1, r2⟩ := join_three T (e := l) hf ha hb hx
        rw [B.sc f a x hf ha hx, B.uc f a x hf ha hx] at r2
        exact ⟨E, r1, r2⟩
    · -- e = l + one g y, k = l + one f a
      rcases swap h' with ⟨rfl, rfl, rfl⟩ | ⟨q, rfl, h3⟩
      · -- x = b: people a, b, y: meetings (a, b) and (b, y)
        obtain ⟨E, r1, r2⟩ := join_three T (e := l) hf hb ha hy
        rw [B.sc _ x a hf hb ha, B.uc _ x a hf hb ha] at r1
        exact ⟨E, r1, r2⟩
      · rcases swap h3 with ⟨rfl, rfl, rfl⟩ | ⟨r, rfl, rfl⟩
        · -- x = a: people a, b, y: meetings (a, b) and (a, y)
          exact join_three T (e := l) hf ha hb hy
        · exact join_four hf ha hb hg hx hy
/-! ### how many meetings are left -/
def sumTo : Nat → (Nat → Nat) → Nat
  | 0, _ => 0
  | k + 1, g => sumTo k g + g k
theorem sumTo_add (k : Nat) (g h : Nat → Nat) : sumTo k (fun i => g i + h i) = sumTo k g + sumTo k h := by
  induction k with
  | zero => rfl
  | succ k ih => simp only [sumTo, ih]; omega
theorem sumTo_at {k i : Nat} (hi : i < k) (v : Nat) : sumTo k (fun j => if j = i then v else 0) = v := by
  induction k with
  | zero => omega
  | succ k ih =>
    by_cases h : i = k
    · subst h
      have z : ∀ j, j ≤ i → sumTo j (fun j => if j = i then v else 0) = 0 := fun j => by
        induction j with
        | zero => intro _; rfl
        | succ j ih => intro hj; simp only [sumTo]; rw [ih (by omega), if_neg (by omega)]
      simp only [sumTo, if_pos]
      rw [z i (Nat.le_refl _)]
      omega
    · simp only [sumTo]
      rw [ih (by omega), if_neg (Ne.symm h)]
      omega
theorem sumTo_out {k i : Nat} (hi : k ≤ i) (v : Nat) : sumTo k (fun j => if j = i then v else 0) = 0 := by
  induction k with
  | zero => rfl
  | succ k ih => simp only [sumTo]; rw [ih (by omega), if_neg (by omega)]
theorem sumTo_zero (k : Nat) : sumTo k (fun _ => 0) = 0 := by
  induction k with
  | zero => rfl
  | succ k ih => simp only [sumTo, ih]
variable (n m)
def tall (c : St) : Nat := sumTo n fun f => (n - f) * sumTo m (c f)
variable {n m}
theorem tall_add (c d : St) : tall n m (c + d) = tall n m c + tall n m d := by
  unfold tall
  rw [← sumTo_add]
  congr 1
  funext f
  rw [← Nat.mul_add, ← sumTo_add]
  rfl
theorem tall_one {f a : Nat} (hf : f < n) (ha : a < m) : tall n m (one f a) = n - f := by
  unfold tall
  have : (fun g => (n - g) * sumTo m (one f a g)) = fun g => if g = f then n - f else 0 := by
    funext g
    by_cases h : g = f
    · subst h
      rw [if_pos rfl, show one g a g = fun b => if b = a then 1 else 0 from by funext b; simp [one], sumTo_at ha, Nat.mul_one]
    · rw [if_neg h, show one f a g = fun b => if b = 0 then 0 else 0 from by funext b; simp [one, h]]
      simp only [ite_self]
      rw [sumTo_zero, Nat.mul_zero]
  rw [this, sumTo_at hf]
theorem tall_up {f a : Nat} (hf : f ≤ n) (ha : a < m) : tall n m (one f a) = n - f := by
  by_cases h : f < n
  · exact tall_one h ha
  · have e : f = n := by omega
    subst e
    unfold tall
    have : (fun g => (f - g) * sumTo m (one f a g)) = fun g => if g = f then 0 else (fun g => (f - g) * sumTo m (one f a g)) g := by
      funext g
      by_cases h : g = f
      · rw [if_pos h, h, Nat.sub_self, Nat.zero_mul]
      · rw [if_neg h]
    have z : ∀ k, k ≤ f → sumTo k (fun g => (f - g) * sumTo m (one f a g)) = 0 := fun k => by
      induction k with
      | zero => intro _; rfl
      | succ k ih =>
        intro hk
        simp only [sumTo]
        rw [ih (by omega)]
        have : one f a k = fun _ => 0 := by funext b; exact one_ne (by omega)
        rw [this]
        rw [sumTo_zero, Nat.mul_zero]
    rw [z f (Nat.le_refl _), Nat.sub_self]
/-- each meeting makes it one less -/
theorem step_tall (B : Tables n m S U) {c d : St} (h : Step n m S U c d) : tall n m c = tall n m d + 1 := by
  obtain ⟨e, f, a, b, hf, ha, hb, rfl, rfl⟩ := h
  rw [tall_add, tall_add, tall_add, tall_add, tall_one hf ha, tall_one hf hb, tall_one hf (B.sm f a b hf ha hb), tall_up (by omega : f + 1 ≤ n) (B.um f a b hf ha hb)]
  omega
/-- all that can come of a state comes to one -/
theorem join (B : Tables n m S U) (T : Three n m S U) : ∀ (k : Nat) {c d1 d2 : St}, tall n m c ≤ k → Run n m S U c d1 → Run n m S U c d2 → ∃ E, Run n m S U d1 E ∧ Run n m S U d2 E := by
  intro k
  induction k with
  | zero =>
    intro c d1 d2 hk h1 h2
    cases h1 with
    | nil => exact ⟨_, h2, .nil _⟩
    | cons s r =>
      have := step_tall B s
      omega
  | succ k ih =>
    intro c d1 d2 hk h1 h2
    cases h1 with
    | nil => exact ⟨_, h2, .nil _⟩
    | cons s1 r1 =>
      cases h2 with
      | nil => exact ⟨_, .nil _, .cons s1 r1⟩
      | cons s2 r2 =>
        have t1 := step_tall B s1
        have t2 := step_tall B s2
        obtain ⟨F, j1, j2⟩ := local_join B T s1 s2
        obtain ⟨G, g1, g2⟩ := ih (by omega) r1 j1
        obtain ⟨H, e1, e2⟩ := ih (by omega) (j2.trans g2) r2
        exact ⟨H, g1.trans e1, e2⟩
/-- nobody can meet -/
def Still (n m : Nat) (S U : Nat → Nat → Nat → Nat) (c : St) : Prop := ∀ d, ¬ Step n m S U c d
/-- one end, whatever is met -/
theorem one_end (B : Tables n m S U) (T : Three n m S U) {c d1 d2 : St} (h1 : Run n m S U c d1) (h2 : Run n m S U c d2) (s1 : Still n m S U d1) (s2 : Still n m S U d2) : d1 = d2 := by
  obtain ⟨E, r1, r2⟩ := join B T _ (Nat.le_refl _) h1 h2
  cases r1 with
  | cons s _ => exact absurd s (s1 _)
  | nil =>
    cases r2 with
    | cons s _ => exact absurd s (s2 _)
    | nil => rfl
/-- what a run leads to leads to the end of the whole -/
theorem end_of_run (B : Tables n m S U) (T : Three n m S U) {c d e : St} (h : Run n m S U c d) (k : Run n m S U c e) (s : Still n m S U e) : Run n m S U d e := by
  obtain ⟨E, r1, r2⟩ := join B T _ (Nat.le_refl _) h k
  cases r2 with
  | cons t _ => exact absurd t (s _)
  | nil => exact r1
end
end FmC
end FFmConf
section FFmTri
/-! Of houses: what three alone come to, and floors by kinds. Pure arithmetic, nothing of the model. -/
set_option linter.all false
namespace FmC
section
variable {n m : Nat} {S U : Nat → Nat → Nat → Nat}
/-- who goes up: from the last floor everybody is told as 0 -/
def outU (n : Nat) (U : Nat → Nat → Nat → Nat) : Nat → Nat → Nat → Nat := fun f a b => if f + 1 < n then U f a b else 0
/-- what the program's look at threes tells: in all orders the same stays, and those who go up come to the same -/
def Tri (n m : Nat) (S U : Nat → Nat → Nat → Nat) : Prop := ∀ f x y z, f < n → x < m → y < m → z < m → S f (S f x y) z = S f (S f x z) y ∧
  (f + 1 < n → S (f + 1) (U f x y) (U f (S f x y) z) = S (f + 1) (U f x z) (U f (S f x z) y)) ∧
  (f + 2 < n → U (f + 1) (U f x y) (U f (S f x y) z) = U (f + 1) (U f x z) (U f (S f x z) y))
/-- the tables within -/
structure Tabs (n m : Nat) (S U : Nat → Nat → Nat → Nat) : Prop where
  pos : 1 ≤ m
  sc : ∀ f a b, f < n → a < m → b < m → S f a b = S f b a
  uc : ∀ f a b, f < n → a < m → b < m → U f a b = U f b a
  sm : ∀ f a b, f < n → a < m → b < m → S f a b < m
  um : ∀ f a b, f < n → a < m → b < m → U f a b < m
theorem Tabs.tables (B : Tabs n m S U) : Tables n m S (outU n U) := by
  refine ⟨B.sc, fun f a b hf ha hb => ?_, B.sm, fun f a b hf ha hb => ?_⟩
  · unfold outU
    rw [B.uc f a b hf ha hb]
  · unfold outU
    have := B.um f a b hf ha hb
    have := B.pos
    split <;> omega
theorem three_of (B : Tabs n m S U) (T : Tri n m S U) : Three n m S (outU n U) := by
  intro f x y z hf hx hy hz
  obtain ⟨t1, t2, t3⟩ := T f x y z hf hx hy hz
  have sxy := B.sm f x y hf hx hy
  have sxz := B.sm f x z hf hx hz
  -- two meetings on the floor
  have two : ∀ p q, p < m → q < m → Run n m S (outU n U) (one f (S f x p) + one (f + 1) (outU n U f x p) + one f q) (one f (S f (S f x p) q) + one (f + 1) (outU n U f x p) + one (f + 1) (outU n U f (S f x p) q)) := fun p q hp hq => by
    refine .one ⟨one (f + 1) (outU n U f x p), f, S f x p, q, hf, B.sm f x p hf hx hp, hq, ?_, ?_⟩
    · funext i j; simp only [add_at]; omega
    · funext i j; simp only [add_at]; omega
  by_cases h1 : f + 1 < n
  · -- and one above
    have u1 : ∀ a b, outU n U f a b = U f a b := fun a b => if_pos h1
    have more : ∀ r u v, u < m → v < m → Run n m S (outU n U) (r + one (f + 1) u + one (f + 1) v) (r + one (f + 1) (S (f + 1) u v) + one (f + 2) (outU n U (f + 1) u v)) := fun r u v hu hv => .one ⟨r, f + 1, u, v, h1, hu, hv, rfl, rfl⟩
    have r1 := (two y z hy hz).trans (more _ _ _ (by rw [u1]; exact B.um f x y hf hx hy) (by rw [u1]; exact B.um f _ z hf sxy hz))
    have r2 := (two z y hz hy).trans (more _ _ _ (by rw [u1]; exact B.um f x z hf hx hz) (by rw [u1]; exact B.um f _ y hf sxz hy))
    refine ⟨_, r1, ?_⟩
    have e : outU n U (f + 1) (U f x y) (U f (S f x y) z) = outU n U (f + 1) (U f x z) (U f (S f x z) y) := by
      unfold outU
      by_cases h2 : f + 2 < n
      · rw [if_pos h2, if_pos h2, t3 h2]
      · rw [if_neg h2, if_neg h2]
    simp only [u1] at r2 ⊢
    rw [t1, t2 h1, e]
    exact r2
  · have u0 : ∀ a b, outU n U f a b = 0 := fun a b => if_neg h1
    refine ⟨_, two y z hy hz, ?_⟩
    have r2 := two z y hz hy
    rw [← t1] at r2
    simp only [u0] at r2 ⊢
    exact r2
/-! ### floors by kinds -/
/-- those who go up are the same in all orders -/
def Even (m : Nat) (s u : Nat → Nat → Nat) : Prop := ∀ x y z, x < m → y < m → z < m → (u x y = u x z ∧ u (s x y) z = u (s x z) y) ∨ (u x y = u (s x z) y ∧ u (s x y) z = u x z)
def Forgets (m : Nat) (s u : Nat → Nat → Nat) : Prop := ∀ x y z w, x < m → y < m → z < m → w < m → s x y = s z w ∧ u x y = u z w
theorem tri_of (B : Tabs n m S U) (hs : ∀ f x y z, f < n → x < m → y < m → z < m → S f (S f x y) z = S f (S f x z) y) (hk : ∀ f, f + 1 < n → Even m (S f) (U f) ∨ Forgets m (S (f + 1)) (U (f + 1))) : Tri n m S U := by
  intro f x y z hf hx hy hz
  have sxy := B.sm f x y hf hx hy
  have sxz := B.sm f x z hf hx hz
  have b1 := B.um f x y hf hx hy
  have b2 := B.um f x z hf hx hz
  have b3 := B.um f _ z hf sxy hz
  have b4 := B.um f _ y hf sxz hy
  refine ⟨hs f x y z hf hx hy hz, fun h1 => ?_, fun h2 => ?_⟩
  · rcases hk f h1 with E | F
    · rcases E x y z hx hy hz with ⟨e1, e2⟩ | ⟨e1, e2⟩
      · rw [e1, e2]
      · rw [e1, e2]
        exact B.sc _ _ _ h1 b4 b2
    · exact (F _ _ _ _ b1 b3 b2 b4).1
  · have h1 : f + 1 < n := by omega
    rcases hk f h1 with E | F
    · rcases E x y z hx hy hz with ⟨e1, e2⟩ | ⟨e1, e2⟩
      · rw [e1, e2]
      · rw [e1, e2]
        exact B.uc _ _ _ h1 b4 b2
    · exact (F _ _ _ _ b1 b3 b2 b4).2
end
/-! ### the words of the law's houses -/
def word (kind a b m : Nat) : Nat := match kind with
  | 0 => max a b
  | 1 => (a + b) % m
  | 2 => 0
  | 3 => min (a + b) (m - 1)
  | 4 => a * b % m
  | _ => if a = b then a else m - 1
def goesAt (way a b m : Nat) : Nat := match way with
  | 0 => min a b
  | 1 => (a + b) / m
  | _ => 0
theorem word_facts : ∀ m < 7, ∀ kind < 6, ∀ a < m, ∀ b < m, word kind a b m < m ∧ word kind a b m = word kind b a m ∧ ∀ c < m, word kind (word kind a b m) c m = word kind (word kind a c m) b m := by decide +kernel
def evenAt (way kind a b c m : Nat) : Prop := (goesAt way a b m = goesAt way a c m ∧ goesAt way (word kind a b m) c m = goesAt way (word kind a c m) b m) ∨ (goesAt way a b m = goesAt way (word kind a c m) b m ∧ goesAt way (word kind a b m) c m = goesAt way a c m)
instance (way kind a b c m : Nat) : Decidable (evenAt way kind a b c m) := by unfold evenAt; exact inferInstance
theorem even0 : ∀ m < 7, ∀ a < m, ∀ b < m, ∀ c < m, evenAt 0 0 a b c m := by decide +kernel
theorem even1 : ∀ m < 7, ∀ a < m, ∀ b < m, ∀ c < m, evenAt 1 1 a b c m := by decide +kernel
theorem goes_facts {m way kind : Nat} (hm : m < 7) (hw : way < 3) (e : kind = way ∨ way = 2) {a b c : Nat} (ha : a < m) (hb : b < m) (hc : c < m) : evenAt way kind a b c m := by
  have : way = 0 ∨ way = 1 ∨ way = 2 := by omega
  rcases this with rfl | rfl | rfl
  · obtain rfl : kind = 0 := by omega
    exact even0 m hm a ha b hb c hc
  · obtain rfl : kind = 1 := by omega
    exact even1 m hm a ha b hb c hc
  · exact .inl ⟨rfl, rfl⟩
theorem goes_in {m way a b : Nat} (ha : a < m) (hb : b < m) : goesAt way a b m < m + 2 ∧ goesAt way a b m = goesAt way b a m := by
  unfold goesAt
  split
  · exact ⟨by omega, Nat.min_comm a b⟩
  · refine ⟨?_, by rw [Nat.add_comm]⟩
    have : (a + b) / m < 2 := Nat.div_lt_of_lt_mul (by omega)
    omega
  · exact ⟨by omega, rfl⟩
/-- numbers called otherwise, and back -/
structure Calls (m : Nat) (calls back : Nat → Nat) : Prop where
  cm : ∀ a, a < m → calls a < m
  bm : ∀ a, a < m → back a < m
  cb : ∀ a, a < m → calls (back a) = a
  bc : ∀ a, a < m → back (calls a) = a
def stayOf (kind m : Nat) (calls back : Nat → Nat) : Nat → Nat → Nat := fun a b => calls (word kind (back a) (back b) m)
def upOf (way m : Nat) (back goes : Nat → Nat) : Nat → Nat → Nat := fun a b => goes (goesAt way (back a) (back b) m)
theorem stay_facts {m kind : Nat} {calls back : Nat → Nat} (hm : m < 7) (hk : kind < 6) (C : Calls m calls back) {a b : Nat} (ha : a < m) (hb : b < m) :
    stayOf kind m calls back a b < m ∧ stayOf kind m calls back a b = stayOf kind m calls back b a ∧ ∀ c < m, stayOf kind m calls back (stayOf kind m calls back a b) c = stayOf kind m calls back (stayOf kind m calls back a c) b := by
  obtain ⟨h1, h2, h3⟩ := word_facts m hm kind hk _ (C.bm a ha) _ (C.bm b hb)
  refine ⟨C.cm _ h1, by unfold stayOf; rw [h2], fun c hc => ?_⟩
  have h4 := (word_facts m hm kind hk _ (C.bm a ha) _ (C.bm c hc)).1
  unfold stayOf
  rw [C.bc _ h1, C.bc _ h4, h3 _ (C.bm c hc)]
theorem up_even {m way kind : Nat} {calls back goes : Nat → Nat} (hm : m < 7) (hw : way < 3) (hk : kind < 6) (e : kind = way ∨ way = 2) (C : Calls m calls back) : Even m (stayOf kind m calls back) (upOf way m back goes) := by
  intro x y z hx hy hz
  have h1 := (word_facts m hm kind hk _ (C.bm x hx) _ (C.bm y hy)).1
  have h2 := (word_facts m hm kind hk _ (C.bm x hx) _ (C.bm z hz)).1
  have h3 := goes_facts hm hw e (C.bm x hx) (C.bm y hy) (C.bm z hz)
  unfold upOf stayOf
  rw [C.bc _ h1, C.bc _ h2]
  rcases h3 with ⟨g1, g2⟩ | ⟨g1, g2⟩
  · exact .inl ⟨by rw [g1], by rw [g2]⟩
  · exact .inr ⟨by rw [g1], by rw [g2]⟩
theorem forgets_of {m : Nat} {calls back back' goes : Nat → Nat} : Forgets m (stayOf 2 m calls back) (upOf 2 m back' goes) := fun x y z w _ _ _ _ => ⟨rfl, rfl⟩
end FmC
end FFmTri
section FFmNever
set_option Elab.async false
set_option linter.all false
namespace Fm
open PySem PySem.Spec PyProof.Rows L2
/-- what is never come to -/
theorem ps_never {X : Cx} {st : Stmt} : PS X st (fun _ _ _ => False) := ⟨fun pins s σ H D I h => h.elim⟩
theorem pss_never {X : Cx} {sts : List Stmt} : PSs X sts (fun _ _ _ => False) := ⟨fun pins s σ H D I h => h.elim⟩
end Fm
end FFmNever
section FFA
set_option Elab.async false
set_option linter.all false
set_option maxRecDepth 100000
set_option maxHeartbeats 4000000
local macro_rules | `(tactic| walk_at "ne") => `(tactic| first | assumption | (apply Ne.symm; assumption) | exact L2.ne_of_none (by assumption) (by assumption) | exact Ne.symm (L2.ne_of_none (by assumption) (by assumption)))
local macro_rules | `(tactic| walk_at "hl") => `(tactic| first | assumption | exact L2.upd_same | (refine Eq.trans (L2.upd_ne (by walk_at "ne")) ?_; walk_at "hl"))
local macro_rules | `(tactic| walk_at "sd") => `(tactic| first | (with_reducible show (_ : Int) < _; omega) | (with_reducible show (_ : Int) ≤ _; omega) | assumption | decide | exact ⟨by assumption, by assumption⟩ | exact ⟨by decide, by decide⟩ | exact Or.inr ⟨by decide, by decide⟩ | exact Or.inl ⟨by omega, by omega⟩ | rfl)
local macro_rules | `(tactic| walk_at "st1") => `(tactic| first
  | refine ⟨_, rfl, ?_⟩
  | refine ⟨_, _, rfl, rfl, ?_⟩
  | refine ⟨_, _, rfl, ?_⟩
  | (refine ⟨_, _, _, _, rfl, rfl, L2.SqL.of (by walk_at "hl"), rfl, ?_⟩)
  | (refine ⟨_, _, _, _, rfl, rfl, L2.SqT.of (by walk_at "hl"), rfl, ?_⟩)
  | (refine ⟨_, _, _, _, rfl, rfl, (by walk_at "hl"), rfl, ?_⟩)
  | (refine And.intro (by walk_at "sd") ?_)
  )
local macro_rules | `(tactic| walk_at "st") => `(tactic| repeat walk_at "st1")
local macro_rules | `(tactic| walk_at "op") => `(tactic| try dsimp only [L2.tSeq, L2.tAsg, L2.tOp, L2.tVar, L2.tC, L2.gSub, L2.rI, L2.rI0, L2.rIxL, L2.rIxT, L2.rSetL, L2.tIfS, L2.tTest, L2.tRet, L2.gName, L2.tNext, L2.tAnd, L2.tOr, L2.tNot, L2.tAndV, L2.tOrV, L2.tNotV, L2.tB, L2.tCB, L2.tCons, L2.tNil, L2.tCall, L2.tTup, L2.tLst, L2.tChain, L2.tUn, L2.tPar, L2.tDrop, L2.tIf, L2.tBM, L2.tBM0, L2.rAppend, L2.rCat, L2.rIsi, L2.rIsiT, L2.gTup, L2.gCons, L2.gNil, Fm.tFor_eq, Fm.tLc_eq, Fm.tLc2_eq, L2.iTup, L2.iList, L2.iRng1, L2.iRng2, L2.tSl, L2.tPart, L2.tNoPart, L2.rSlL, L2.rEq, L2.rNe, L2.rU, L2.rEqD, L2.rNeD, Fm.tRevT, Fm.rLenS, Fm.rTupOf, Fm.rLstOf, L2.tDNewK, L2.tCallS, L2.WE, Fm.wKeep, Fm.rIsK, Fm.rIsKT, List.cons_append, List.nil_append, L2.tYes])
namespace Fm
open PySem PySem.Spec PyProof.Rows L2
abbrev s_left_of_three : Stmt := top 32
abbrev N_left_of_three : List Str := ["tables", "order", "stay", "up", "a", "b", "c", "between"]
theorem sc_left_of_three : FnScope N_left_of_three ["tables", "order"] (defScope s_left_of_three) := ⟨rfl, rfl, rfl, by decide +kernel, rfl, by decide +kernel, by decide +kernel⟩
abbrev s_end_of_three : Stmt := top 33
abbrev N_end_of_three : List Str := ["house", "floor", "order", "rest", "one", "other", "stay", "up"]
theorem sc_end_of_three : FnScope N_end_of_three ["house", "floor", "order"] (defScope s_end_of_three) := ⟨rfl, rfl, rfl, by decide +kernel, rfl, by decide +kernel, by decide +kernel⟩
abbrev s_is_parted : Stmt := top 31
abbrev N_is_parted : List Str := ["house", "floor", "three", "first", "second", "third", "end"]
theorem sc_is_parted : FnScope N_is_parted ["house", "floor", "three"] (defScope s_is_parted) := ⟨rfl, rfl, rfl, by decide +kernel, rfl, by decide +kernel, by decide +kernel⟩
abbrev s_least_parted : Stmt := top 28
abbrev N_least_parted : List Str := ["house", "every_three", "floor", "three"]
theorem sc_least_parted : FnScope N_least_parted ["house"] (defScope s_least_parted) := ⟨rfl, rfl, rfl, by decide +kernel, rfl, by decide +kernel, by decide +kernel⟩
abbrev s_paper : Stmt := top 23
abbrev N_paper : List Str := ["house", "parted", "floor", "three", "shown", "order", "run", "end", "unlike", "other", "its_end"]
theorem sc_paper : FnScope N_paper ["house"] (defScope s_paper) := ⟨rfl, rfl, rfl, by decide +kernel, rfl, by decide +kernel, by decide +kernel⟩
abbrev s_check_fair : Stmt := top 24
abbrev N_check_fair : List Str := ["house", "shown"]
theorem sc_check_fair : FnScope N_check_fair ["house"] (defScope s_check_fair) := ⟨rfl, rfl, rfl, by decide +kernel, rfl, by decide +kernel, by decide +kernel⟩
section
variable {P : Program} {w : World} {K : PySem.W.Frag} {mg : Str → Option Value} {base : Heap}
/-! ### the look at threes -/
theorem atI_of {xs : List V} {i : Int} {v : V} (h0 : 0 ≤ i) (h : xs[i.toNat]? = some v) : atI xs i = some v := by
  have e := atI_nat h
  rw [Int.toNat_of_nonneg h0] at e
  exact e
/-- a floor's two tables at af -/
structure FloorAt (H : Hp) (af : Addr) (m : Nat) (S U : Nat → Nat → Nat) (t0 t1 : Addr) : Prop where
  at_ : H af = some (.tup [.ref t0, .ref t1])
  s : ∀ a b, a < m → b < m → ∃ (ss : List V) (ra : Addr) (ya : List V), H t0 = some (.tup ss) ∧ ss[a]? = some (V.ref ra) ∧ H ra = some (.tup ya) ∧ ya[b]? = some (V.int (S a b : Nat)) ∧ S a b < m
  u : ∀ a b, a < m → b < m → ∃ (ss : List V) (ra : Addr) (ya : List V), H t1 = some (.tup ss) ∧ ss[a]? = some (V.ref ra) ∧ H ra = some (.tup ya) ∧ ya[b]? = some (V.int (U a b : Nat)) ∧ U a b < m
theorem FloorAt.same {H H' : Hp} {af t0 t1 : Addr} {m : Nat} {S U : Nat → Nat → Nat} (h : FloorAt H af m S U t0 t1) (e : Same H H') : FloorAt H' af m S U t0 t1 := by
  refine ⟨e _ _ h.at_, fun a b ha hb => ?_, fun a b ha hb => ?_⟩
  · obtain ⟨ss, ra, ya, h1, h2, h3, h4, h5⟩ := h.s a b ha hb
    exact ⟨ss, ra, ya, e _ _ h1, h2, e _ _ h3, h4, h5⟩
  · obtain ⟨ss, ra, ya, h1, h2, h3, h4, h5⟩ := h.u a b ha hb
    exact ⟨ss, ra, ya, e _ _ h1, h2, e _ _ h3, h4, h5⟩
theorem floor_at {H : Hp} {ph : Addr} {hv : V} {fs : List PyData} {m n f : Nat} (hD : Dat H ph hv (.tuple fs)) (hN : HouseN m n (.tuple fs)) (hf : f < n) :
    ∃ (ah af : Addr) (hs : List V) (t0 t1 : Addr), hv = .ref ah ∧ H ah = some (.tup hs) ∧ hs.length = n ∧ hs[f]? = some (V.ref af) ∧ FloorAt H af m (goN fs 0 f) (goN fs 1 f) t0 t1 := by
  obtain ⟨ah, af, hs, tb, rfl, h1, h2, h3, h4, h5⟩ := house_goes hD hN hf
  exact ⟨ah, af, hs, tb 0, tb 1, rfl, h1, h2, h3, h4, h5 0 (by decide), h5 1 (by decide)⟩
def spLeft : Sp := fun vs H Q _ => ∃ (af t0 t1 : Addr) (ov : V) (p : Addr) (m : Nat) (S U : Nat → Nat → Nat) (x : Nat × Nat × Nat), vs = [.ref af, ov] ∧ FloorAt H af m S U t0 t1 ∧ Dat H p ov (triD x) ∧ x.1 < m ∧ x.2.1 < m ∧ x.2.2 < m ∧
  ∀ q H', H q = none → H' q = some (.tup [.int (S (S x.1 x.2.1) x.2.2 : Nat), .int (U x.1 x.2.1 : Nat), .int (U (S x.1 x.2.1) x.2.2 : Nat)]) → Same H H' → Q (.ref q) H'
theorem ok_left_of_three (D : Df K mg "left_of_three" s_left_of_three ["tables", "order"]) (T : Nms mg) : CallOk P w K mg base CX0 1 "left_of_three" ["tables", "order"] spLeft := by
  refine df_ok D sc_left_of_three (fun vs H Q E h => ?_) (fun f cdv A outer s H vs Q E hr h => ?_)
  · obtain ⟨af, t0, t1, ov, p, m, S, U, x, rfl, _⟩ := h
    rfl
  · obtain ⟨af, t0, t1, ov, p, m, S, U, x, rfl, hF, hO, hx, hy, hz, k⟩ := h
    have nd := sc_left_of_three.nd
    obtain ⟨oa, rfl, hoa, _⟩ := tri_parts hO
    obtain ⟨s1, r1, y1, a1, a2, a3, a4, a5⟩ := hF.s _ _ hx hy
    obtain ⟨s2, r2, y2, b1, b2, b3, b4, b5⟩ := hF.s _ _ a5 hz
    obtain ⟨s3, r3, y3, c1, c2, c3, c4, c5⟩ := hF.u _ _ hx hy
    obtain ⟨s4, r4, y4, d1, d2, d3, d4, d5⟩ := hF.u _ _ a5 hz
    refine ⟨_, (pss_cons (ps_asg (pv 0) (pg_tup rfl (pgs_cons (pg_name (i := 2) nd rfl (Or.inl rfl)) (pgs_cons (pg_name (i := 3) nd rfl (Or.inl rfl)) pgs_nil))))
      (pss_cons (ps_asg (pv 1) (pg_tup rfl (pgs_cons (pg_name (i := 4) nd rfl (Or.inl rfl)) (pgs_cons (pg_name (i := 5) nd rfl (Or.inl rfl)) (pgs_cons (pg_name (i := 6) nd rfl (Or.inl rfl)) pgs_nil)))))
      (pss_cons (ps_set (i := 7) nd rfl (Or.inl rfl) (pe_ix (r := rIxT K) ix_tup (pe_ix (r := rIxT K) ix_tup (pv 2) (pv 4) (fun _ _ => rfl)) (pv 5) (fun _ _ => rfl)))
      (pss_one (ps_ret (pe_tup (pa_cons (pe_ix (r := rIxT K) ix_tup (pe_ix (r := rIxT K) ix_tup (pv 2) (pv 7) (fun _ _ => rfl)) (pv 6) (fun _ _ => rfl)) (pa_cons (pe_ix (r := rIxT K) ix_tup (pe_ix (r := rIxT K) ix_tup (pv 3) (pv 4) (fun _ _ => rfl)) (pv 5) (fun _ _ => rfl)) (pa_cons (pe_ix (r := rIxT K) ix_tup (pe_ix (r := rIxT K) ix_tup (pv 3) (pv 7) (fun _ _ => rfl)) (pv 6) (fun _ _ => rfl)) pa_nil))))))))), ?_⟩
    walk_at "op"
    walk_at "st"
    refine ⟨af, _, rfl, SqT.of hF.at_, rfl, _, _, rfl, _, _, rfl, rfl, ?_⟩
    refine ⟨_, rfl, oa, _, rfl, SqT.of hoa, rfl, _, _, rfl, _, _, rfl, _, _, rfl, rfl, ?_⟩
    walk_at "op"
    refine ⟨_, rfl, _, rfl, t0, s1, _, _, rfl, rfl, SqT.of a1, atI_nat a2, _, rfl, r1, y1, _, _, rfl, rfl, SqT.of a3, atI_nat a4, ?_⟩
    refine ⟨_, rfl, _, rfl, t0, s2, _, _, rfl, rfl, SqT.of b1, atI_nat b2, _, rfl, r2, y2, _, _, rfl, rfl, SqT.of b3, atI_nat b4, ?_⟩
    refine ⟨_, rfl, _, rfl, t1, s3, _, _, rfl, rfl, SqT.of c1, atI_nat c2, _, rfl, r3, y3, _, _, rfl, rfl, SqT.of c3, atI_nat c4, ?_⟩
    refine ⟨_, rfl, _, rfl, t1, s4, _, _, rfl, rfl, SqT.of d1, atI_nat d2, _, rfl, r4, y4, _, _, rfl, rfl, SqT.of d3, atI_nat d4, ?_⟩
    refine ⟨by show 3 ≤ sizeLine; decide, fun q hq => ?_⟩
    exact k q _ hq upd_same (same_new hq)
def endL (n : Nat) (S U : Nat → Nat → Nat → Nat) (f : Nat) (x : Nat × Nat × Nat) : List Int :=
  let r : Int := (S f (S f x.1 x.2.1) x.2.2 : Nat)
  let one := U f x.1 x.2.1
  let other := U f (S f x.1 x.2.1) x.2.2
  if f + 1 = n then [r] else if f + 2 = n then [r, (S (f + 1) one other : Nat)] else [r, (S (f + 1) one other : Nat), (U (f + 1) one other : Nat)]
def spEnd3 : Sp := fun vs H Q _ => ∃ (hv ov : V) (p ph : Addr) (u : HO) (fs : List PyData) (m n f : Nat) (x : Nat × Nat × Nat), vs = [hv, .int (f : Nat), ov] ∧ H p = some u ∧ Dat H ph hv (.tuple fs) ∧ HouseN m n (.tuple fs) ∧ f < n ∧ Dat H p ov (triD x) ∧ x.1 < m ∧ x.2.1 < m ∧ x.2.2 < m ∧
  ∀ v H', Dat H' p v (rowD (endL n (goN fs 0) (goN fs 1) f x)) → Same H H' → Q v H'
theorem ok_end_of_three (D : Df K mg "end_of_three" s_end_of_three ["house", "floor", "order"]) (T : Nms mg) (c_left_of_three : CallOk P w K mg base CX0 1 "left_of_three" ["tables", "order"] spLeft) : CallOk P w K mg base CX0 2 "end_of_three" ["house", "floor", "order"] spEnd3 := by
  refine df_ok D sc_end_of_three (fun vs H Q E h => ?_) (fun f cdv A outer s H vs Q E hr h => ?_)
  · obtain ⟨hv, ov, p, ph, u, fs, m, n, f, x, rfl, _⟩ := h
    rfl
  · obtain ⟨hv, ov, p, ph, u, fs, m, n, fl, x, rfl, hp, hD, hN, hf, hO, hx, hy, hz, k⟩ := h
    have nd := sc_end_of_three.nd
    obtain ⟨ah, af, hs, t0, t1, rfl, g1, g2, g3, hF⟩ := floor_at hD hN hf
    have hn4 : n ≤ 4 := by
      obtain ⟨_, _, _, _, z, _⟩ := hN
      exact z
    obtain ⟨_, _, _, _, _, _, _, b5⟩ := hF.s _ _ hx hy
    obtain ⟨_, _, _, _, _, _, _, u1⟩ := hF.u _ _ hx hy
    obtain ⟨_, _, _, _, _, _, _, u2⟩ := hF.u _ _ b5 hz
    refine ⟨_, (pss_cons (ps_asg (pe_cc c_left_of_three (hr.mono (by omega)) (pa_cons (pe_ix (r := rIxT K) ix_tup (pv 0) (pv 1) (fun _ _ => rfl)) (pa_cons (pv 2) pa_nil))) (pg_tup rfl (pgs_cons (pg_name (i := 3) nd rfl (Or.inl rfl)) (pgs_cons (pg_name (i := 4) nd rfl (Or.inl rfl)) (pgs_cons (pg_name (i := 5) nd rfl (Or.inl rfl)) pgs_nil)))))
      (pss_cons (ps_if (pt_cmpR op_eq (pe_op op_add (pv 1) pe_int) (pe_callB (r := rLenS K) call_lenS (by rfl) T.n_len (by decide +kernel) (pa_cons (pv 0) pa_nil)) (nomark _)) (pss_one (ps_ret (pe_tup (pa_cons (pv 3) pa_nil)))) pss_nil)
      (pss_cons (ps_asg (pe_ix (r := rIxT K) ix_tup (pv 0) (pe_op op_add (pv 1) pe_int) (fun _ _ => rfl)) (pg_tup rfl (pgs_cons (pg_name (i := 6) nd rfl (Or.inl rfl)) (pgs_cons (pg_name (i := 7) nd rfl (Or.inl rfl)) pgs_nil))))
      (pss_cons (ps_if (pt_cmpR op_eq (pe_op op_add (pv 1) pe_int) (pe_callB (r := rLenS K) call_lenS (by rfl) T.n_len (by decide +kernel) (pa_cons (pv 0) pa_nil)) (nomark _)) (pss_one (ps_ret (pe_tup (pa_cons (pv 3) (pa_cons (pe_ix (r := rIxT K) ix_tup (pe_ix (r := rIxT K) ix_tup (pv 6) (pv 4) (fun _ _ => rfl)) (pv 5) (fun _ _ => rfl)) pa_nil))))) pss_nil)
      (pss_one (ps_ret (pe_tup (pa_cons (pv 3) (pa_cons (pe_ix (r := rIxT K) ix_tup (pe_ix (r := rIxT K) ix_tup (pv 6) (pv 4) (fun _ _ => rfl)) (pv 5) (fun _ _ => rfl)) (pa_cons (pe_ix (r := rIxT K) ix_tup (pe_ix (r := rIxT K) ix_tup (pv 7) (pv 4) (fun _ _ => rfl)) (pv 5) (fun _ _ => rfl)) pa_nil)))))))))), ?_⟩
    walk_at "op"
    refine ⟨_, rfl, _, rfl, ah, hs, _, _, rfl, rfl, SqT.of g1, atI_nat g3, _, rfl, af, t0, t1, ov, p, m, _, _, x, rfl, hF, hO, hx, hy, hz, fun q G hq hq' sG => ?_⟩
    refine ⟨q, _, rfl, SqT.of hq', rfl, _, _, rfl, _, _, rfl, _, _, rfl, rfl, ?_⟩
    walk_at "op"
    have fit1 : ∀ {l : List Int} {q : Addr} {G2 : Hp}, Same G G2 → G q = none → G2 q = some (.tup (l.map V.int)) → Dat G2 p (.ref q) (rowD l) := fun {l q G2} s hq h2 => .tup h2 (pne_of hp sG hq) (by rw [List.length_map, List.length_map]) fun i x d a b => (Dats.ints (p := p) l).2 i x d a b
    have hlen : hs.length = n := g2
    refine ⟨_, rfl, _, 1, rfl, rfl, _, rfl, ah, hs, rfl, .inr (SqT.of (sG _ _ g1)), rfl, ?_⟩
    rw [hlen]
    by_cases h1 : fl + 1 = n
    · rw [show decide (V.int ((fl : Int) + 1) = V.int (n : Nat)) = true from decide_eq_true (by rw [← h1]; rfl)]
      refine ⟨_, rfl, iteT ?_⟩
      refine ⟨_, rfl, by show 1 ≤ sizeLine; decide, fun r hr => ?_⟩
      refine k _ _ ?_ (sG.trans (same_new hr))
      refine fit1 (same_new hr) hr ?_
      unfold endL
      rw [if_pos h1]
      exact upd_same
    · rw [show decide (V.int ((fl : Int) + 1) = V.int (n : Nat)) = false from decide_eq_false fun z => h1 (by injection z with z; omega)]
      refine ⟨_, rfl, iteF ?_⟩
      have hf1 : fl + 1 < n := by omega
      obtain ⟨ah', af', hs', t0', t1', e', g1', g2', g3', hF'⟩ := floor_at hD hN hf1
      cases e'
      rw [g1] at g1'
      cases g1'
      obtain ⟨s1, r1, y1, a1, a2, a3, a4, a5⟩ := (hF'.same sG).s _ _ u1 u2
      obtain ⟨s2, r2, y2, b1, b2, b3, b4, b5'⟩ := (hF'.same sG).u _ _ u1 u2
      refine ⟨_, rfl, _, rfl, _, 1, rfl, rfl, ah, hs, _, _, rfl, rfl, SqT.of (sG _ _ g1), atI_of (by omega) (by rw [show ((fl : Int) + 1).toNat = fl + 1 from by omega]; exact g3'), af', _, rfl, SqT.of (sG _ _ hF'.at_), rfl, _, _, rfl, _, _, rfl, rfl, ?_⟩
      walk_at "op"
      refine ⟨_, rfl, _, 2, rfl, rfl, _, rfl, ah, hs, rfl, .inr (SqT.of (sG _ _ g1)), rfl, ?_⟩
      rw [hlen]
      by_cases h2 : fl + 2 = n
      · rw [show decide (V.int ((fl : Int) + 2) = V.int (n : Nat)) = true from decide_eq_true (by rw [← h2]; rfl)]
        refine ⟨_, rfl, iteT ?_⟩
        refine ⟨_, rfl, _, rfl, _, rfl, t0', s1, _, _, rfl, rfl, SqT.of a1, atI_nat a2, _, rfl, r1, y1, _, _, rfl, rfl, SqT.of a3, atI_nat a4, by show 2 ≤ sizeLine; decide, fun r hr => ?_⟩
        refine k _ _ ?_ (sG.trans (same_new hr))
        refine fit1 (same_new hr) hr ?_
        unfold endL
        rw [if_neg h1, if_pos h2]
        exact upd_same
      · rw [show decide (V.int ((fl : Int) + 2) = V.int (n : Nat)) = false from decide_eq_false fun z => h2 (by injection z with z; omega)]
        refine ⟨_, rfl, iteF ?_⟩
        refine ⟨_, rfl, _, rfl, _, rfl, t0', s1, _, _, rfl, rfl, SqT.of a1, atI_nat a2, _, rfl, r1, y1, _, _, rfl, rfl, SqT.of a3, atI_nat a4, _, rfl, _, rfl, t1', s2, _, _, rfl, rfl, SqT.of b1, atI_nat b2, _, rfl, r2, y2, _, _, rfl, rfl, SqT.of b3, atI_nat b4, by show 3 ≤ sizeLine; decide, fun r hr => ?_⟩
        refine k _ _ ?_ (sG.trans (same_new hr))
        refine fit1 (same_new hr) hr ?_
        unfold endL
        rw [if_neg h1, if_neg h2]
        exact upd_same
theorem dpAll_of {K : PySem.W.Frag} {H : Hp} : ∀ {xs : List V} {ds : List PyData}, xs.length = ds.length → (∀ (i : Nat) (x : V) (d : PyData), xs[i]? = some x → ds[i]? = some d → Dp K H x d) → DpAll K H xs ds
  | [], [], _, _ => .nil
  | [], _ :: _, h, _ => by simp at h
  | _ :: _, [], h, _ => by simp at h
  | x :: xs, d :: ds, h, k => .cons (k 0 x d rfl rfl) (dpAll_of (by simpa using h) fun i y e a b => k (i + 1) y e (by simpa using a) (by simpa using b))
theorem hasDict_parts : ∀ {ds : List PyData}, PyData.hasDictAll ds = false → ∀ e ∈ ds, e.hasDict = false
  | [], _, e, he => by simp at he
  | d :: r, h, e, he => by
    simp only [PyData.hasDictAll, Bool.or_eq_false_iff] at h
    rcases List.mem_cons.mp he with rfl | he
    · exact h.1
    · exact hasDict_parts h.2 e he
theorem Dat.dp {K : PySem.W.Frag} {H : Hp} {p : Addr} {d : PyData} {v : V} (h : Dat H p v d) : d.hasDict = false → Dp K H v d := by
  induction h with
  | non => exact fun _ => .non
  | bl b => exact fun _ => .bl b
  | int i => exact fun _ => .int i
  | str x => exact fun _ => .str x
  | tup h1 _ h3 h4 ih => exact fun z => .tup (SqT.of h1) (dpAll_of h3 fun i x d a b => ih i x d a b (hasDict_parts (by simpa only [PyData.hasDict] using z) d (List.mem_of_getElem? b)))
  | lst h1 _ h3 h4 ih => exact fun z => .lst (SqL.of h1) (dpAll_of h3 fun i x d a b => ih i x d a b (hasDict_parts (by simpa only [PyData.hasDict] using z) d (List.mem_of_getElem? b)))
  | dct h1 _ => exact fun z => by simp only [PyData.hasDict] at z; cases z
theorem lay_ints : ∀ ns : List Int, PyData.canLayAll0 (ns.map PyData.int) = true ∧ PyData.depthAll (ns.map PyData.int) = 0
  | [] => by simp [PyData.canLayAll0, PyData.depthAll]
  | n :: r => by
    obtain ⟨h1, h2⟩ := lay_ints r
    simp [PyData.canLayAll0, PyData.canLay0, PyData.depthAll, PyData.depth, h1, h2]

theorem eqv_ints : ∀ l : List Int, PyData.eqvAll (l.map PyData.int) (l.map PyData.int) = true
  | [] => by simp [PyData.eqvAll]
  | x :: r => by simp [PyData.eqvAll, PyData.eqv, eqv_ints r]
theorem rowD_shaped (l : List Int) : SeqAt.shaped (rowD l) = true ∧ (rowD l).hasDict = false ∧ PyData.eqv (rowD l) (rowD l) = true := by
  obtain ⟨h1, h2⟩ := lay_ints l
  refine ⟨?_, ?_, ?_⟩
  · unfold SeqAt.shaped rowD
    simp only [PyData.canLay0, PyData.depth, h1, h2, Bool.true_and]
    decide
  · unfold rowD
    simp only [PyData.hasDict]
    refine hasDict_all fun d hd => ?_
    obtain ⟨c, _, rfl⟩ := List.mem_map.mp hd
    simp only [PyData.hasDict]
  · unfold rowD
    rw [PyData.eqv]
    exact eqv_ints l
/-- in all three orders one end -/
theorem endL_tri {fs : List PyData} {m n f : Nat} {x : Nat × Nat × Nat} (hN : HouseN m n (.tuple fs)) (hf : f < n) (hT : FmC.Tri n m (goN fs 0) (goN fs 1)) (hx : x.1 < m) (hy : x.2.1 < m) (hz : x.2.2 < m)
    (hm : ∀ k, k < 2 → ∀ g, g < n → ∀ a b, a < m → b < m → goN fs k g a b < m) : ∀ y ∈ ords x, endL n (goN fs 0) (goN fs 1) f y = endL n (goN fs 0) (goN fs 1) f x := by
  obtain ⟨a, b, c⟩ := x
  dsimp only at hx hy hz
  have key : ∀ p q r, p < m → q < m → r < m → endL n (goN fs 0) (goN fs 1) f (p, q, r) = endL n (goN fs 0) (goN fs 1) f (p, r, q) := fun p q r hp hq hr => by
    obtain ⟨t1, t2, t3⟩ := hT f p q r hf hp hq hr
    unfold endL
    dsimp only
    by_cases h1 : f + 1 = n
    · rw [if_pos h1, if_pos h1, t1]
    · rw [if_neg h1, if_neg h1]
      have h1' : f + 1 < n := by omega
      by_cases h2 : f + 2 = n
      · rw [if_pos h2, if_pos h2, t1, t2 h1']
      · rw [if_neg h2, if_neg h2, t1, t2 h1', t3 (by omega)]
  have comm : ∀ p q r, p < m → q < m → endL n (goN fs 0) (goN fs 1) f (p, q, r) = endL n (goN fs 0) (goN fs 1) f (q, p, r) := fun p q r hp hq => by
    unfold endL
    dsimp only
    rw [goN_comm hN hf (k := 0) (by decide) hp hq, goN_comm hN hf (k := 1) (by decide) hp hq]
  intro y hy'
  unfold ords at hy'
  simp only [List.mem_cons, List.not_mem_nil, or_false] at hy'
  rcases hy' with rfl | rfl | rfl
  · rfl
  · exact (key a b c hx hy hz).symm
  · rw [key b c a hy hz hx, comm b a c hy hx]
def goLt (fs : List PyData) (m n : Nat) : Prop := ∀ k, k < 2 → ∀ g, g < n → ∀ a b, a < m → b < m → goN fs k g a b < m
theorem goLt_of {H : Hp} {ph : Addr} {hv : V} {fs : List PyData} {m n : Nat} (hD : Dat H ph hv (.tuple fs)) (hN : HouseN m n (.tuple fs)) : goLt fs m n := fun k hk g hg a b ha hb => by
  obtain ⟨_, _, _, _, _, _, _, _, _, hF⟩ := floor_at hD hN hg
  match k, hk with
  | 0, _ => obtain ⟨_, _, _, _, _, _, _, z⟩ := hF.s a b ha hb; exact z
  | 1, _ => obtain ⟨_, _, _, _, _, _, _, z⟩ := hF.u a b ha hb; exact z
def spParted : Sp := fun vs H Q _ => ∃ (hv tv : V) (p ph : Addr) (u : HO) (fs : List PyData) (m n f : Nat) (x : Nat × Nat × Nat), vs = [hv, .int (f : Nat), tv] ∧ H p = some u ∧ Dat H ph hv (.tuple fs) ∧ HouseN m n (.tuple fs) ∧ f < n ∧ Dat H p tv (triD x) ∧ x.1 < m ∧ x.2.1 < m ∧ x.2.2 < m ∧
  FmC.Tri n m (goN fs 0) (goN fs 1) ∧ ∀ H', Same H H' → Q (.bl false) H'
theorem ok_is_parted (D : Df K mg "is_parted" s_is_parted ["house", "floor", "three"]) (T : Nms mg) (c_orders : CallOk P w K mg base CX0 1 "orders" ["three"] spOrders) (c_end_of_three : CallOk P w K mg base CX0 2 "end_of_three" ["house", "floor", "order"] spEnd3) : CallOk P w K mg base CX0 3 "is_parted" ["house", "floor", "three"] spParted := by
  refine df_ok D sc_is_parted (fun vs H Q E h => ?_) (fun f cdv A outer s H vs Q E hr h => ?_)
  · obtain ⟨hv, tv, p, ph, u, fs, m, n, f, x, rfl, _⟩ := h
    rfl
  · obtain ⟨hv, tv, p, ph, u, fs, m, n, fl, x, rfl, hp, hD, hN, hf, hO, hx, hy, hz, hT, k⟩ := h
    have nd := sc_is_parted.nd
    have hgo := goLt_of hD hN
    have heq := endL_tri hN hf hT hx hy hz hgo
    refine ⟨_, (pss_cons (ps_asg (pe_cc c_orders (hr.mono (by omega)) (pa_cons (pv 2) pa_nil)) (pg_tup rfl (pgs_cons (pg_name (i := 3) nd rfl (Or.inl rfl)) (pgs_cons (pg_name (i := 4) nd rfl (Or.inl rfl)) (pgs_cons (pg_name (i := 5) nd rfl (Or.inl rfl)) pgs_nil)))))
      (pss_cons (ps_set (i := 6) nd rfl (Or.inl rfl) (pe_cc c_end_of_three (hr.mono (by omega)) (pa_cons (pv 0) (pa_cons (pv 1) (pa_cons (pv 3) pa_nil)))))
      (pss_one (ps_ret (pe_or (pe_cmpR (r := rNeD K) (op_neD hr.units) (pe_cc c_end_of_three (hr.mono (by omega)) (pa_cons (pv 0) (pa_cons (pv 1) (pa_cons (pv 4) pa_nil)))) (pv 6) (nomark _)) (pe_one (pe_cmpR (r := rNeD K) (op_neD hr.units) (pe_cc c_end_of_three (hr.mono (by omega)) (pa_cons (pv 0) (pa_cons (pv 1) (pa_cons (pv 5) pa_nil)))) (pv 6) (nomark _)))))))), ?_⟩
    walk_at "op"
    refine ⟨_, rfl, tv, p, u, x, rfl, hp, hO, fun v G hv1 sG => ?_⟩
    obtain ⟨ov, os, rfl, hos, _, hds⟩ := hv1.isTup
    have hl3 : os.length = 3 := by rw [hds.1]; rfl
    match os, hl3 with
    | [o1, o2, o3], _ =>
    have w1 : Dat G p o1 (triD (x.1, x.2.1, x.2.2)) := hds.2 0 o1 _ rfl rfl
    have w2 : Dat G p o2 (triD (x.1, x.2.2, x.2.1)) := hds.2 1 o2 _ rfl rfl
    have w3 : Dat G p o3 (triD (x.2.1, x.2.2, x.1)) := hds.2 2 o3 _ rfl rfl
    refine ⟨ov, _, rfl, SqT.of hos, rfl, _, _, rfl, _, _, rfl, _, _, rfl, rfl, ?_⟩
    walk_at "op"
    refine ⟨_, rfl, _, rfl, _, rfl, hv, o1, p, ph, u, fs, m, n, fl, _, rfl, sG _ _ hp, hD.same sG, hN, hf, w1, hx, hy, hz, fun v1 G1 d1 s1 => ?_⟩
    have s01 := sG.trans s1
    refine ⟨_, rfl, _, rfl, _, rfl, hv, o2, p, ph, u, fs, m, n, fl, _, rfl, s01 _ _ hp, hD.same s01, hN, hf, w2.same s1, hx, hz, hy, fun v2 G2 d2 s2 => ?_⟩
    have s02 := s01.trans s2
    rw [heq _ (by unfold ords; simp)] at d2
    have d1 : Dat G1 p v1 (rowD (endL n (goN fs 0) (goN fs 1) fl x)) := d1
    obtain ⟨z1, z2, z3⟩ := rowD_shaped (endL n (goN fs 0) (goN fs 1) fl x)
    refine ⟨_, rfl, _, _, d2.dp z2, (d1.same s2).dp z2, z1, z1, ?_⟩
    rw [z3]
    refine ⟨false, rfl, iteF ?_⟩
    refine ⟨_, rfl, _, rfl, _, rfl, hv, o3, p, ph, u, fs, m, n, fl, _, rfl, s02 _ _ hp, hD.same s02, hN, hf, w3.same (s1.trans s2), hy, hz, hx, fun v3 G3 d3 s3 => ?_⟩
    rw [heq _ (by unfold ords; simp)] at d3
    refine ⟨_, rfl, _, _, d3.dp z2, (d1.same (s2.trans s3)).dp z2, z1, z1, ?_⟩
    rw [z3]
    exact k _ (s02.trans s3)
/-- the house is fair -/
def FairH (fs : List PyData) (m n : Nat) : Prop := FmC.Tri n m (goN fs 0) (goN fs 1)
def spLeast : Sp := fun vs H Q _ => ∃ (hv : V) (p ph : Addr) (u : HO) (fs : List PyData) (m n : Nat), vs = [hv] ∧ H p = some u ∧ Dat H ph hv (.tuple fs) ∧ HouseN m n (.tuple fs) ∧ FairH fs m n ∧ ∀ H', Same H H' → Q .non H'
theorem ok_least_parted (D : Df K mg "least_parted" s_least_parted ["house"]) (T : Nms mg) (c_threes : CallOk P w K mg base CX0 1 "threes" ["m"] spThrees) (c_is_parted : CallOk P w K mg base CX0 3 "is_parted" ["house", "floor", "three"] spParted) : CallOk P w K mg base CX0 4 "least_parted" ["house"] spLeast := by
  refine df_ok D sc_least_parted (fun vs H Q E h => ?_) (fun f cdv A outer s H vs Q E hr h => ?_)
  · obtain ⟨hv, p, ph, u, fs, m, n, rfl, _⟩ := h
    rfl
  · obtain ⟨hv, p, ph, u, fs, m, n, rfl, hp, hD, hN, hT, k⟩ := h
    have nd := sc_least_parted.nd
    have hmn : 1 ≤ n ∧ n ≤ 4 ∧ 1 ≤ m ∧ m ≤ 6 := by
      obtain ⟨_, _, _, z1, z2, z3, z4, _⟩ := hN
      exact ⟨z1, z2, z3, z4⟩
    obtain ⟨ah, af, hs, t0, t1, rfl, g1, g2, g3, hF⟩ := floor_at hD hN (f := 0) (by omega)
    obtain ⟨ss, hss, hsl⟩ : ∃ ss : List V, H t0 = some (.tup ss) ∧ ss.length = m := by
      obtain ⟨fs', e, hl, _, _, _, _, hFl⟩ := id hN
      cases e
      obtain ⟨sd, ud, e1, ⟨rs, e2, l2, _⟩, _⟩ := hFl fs[0] (List.getElem_mem (by omega))
      subst e2
      obtain ⟨ah', hs', e', hah', _, hh⟩ := hD.isTup
      cases e'
      rw [g1] at hah'
      cases hah'
      obtain ⟨x, hx, hdx⟩ := hh.back (i := 0) (d := fs[0]) (List.getElem?_eq_getElem _)
      rw [g3] at hx
      cases hx
      rw [e1] at hdx
      obtain ⟨af', ys, e3, haf, _, hy⟩ := hdx.isTup
      cases e3
      rw [hF.at_] at haf
      cases haf
      obtain ⟨s0, ss, e4, hs0, _, hss⟩ := (hy.2 0 _ _ rfl rfl).isTup
      cases e4
      exact ⟨ss, hs0, by rw [hss.1, l2]⟩
    refine ⟨_, (pss_cons (ps_set (i := 1) nd rfl (Or.inl rfl) (pe_cc c_threes (hr.mono (by omega)) (pa_cons (pe_callB (r := rLenS K) call_lenS (by rfl) T.n_len (by decide +kernel) (pa_cons (pe_ix (r := rIxT K) ix_tup (pe_ix (r := rIxT K) ix_tup (pv 0) pe_int (fun _ _ => rfl)) pe_int (fun _ _ => rfl)) pa_nil)) pa_nil)))
      (pss_cons (ps_for PassesOwn.never rfl (pi_range1 rfl T.n_range (pa_cons (pe_callB (r := rLenS K) call_lenS (by rfl) T.n_len (by decide +kernel) (pa_cons (pv 0) pa_nil)) pa_nil)) (pg_name (i := 2) nd rfl (Or.inl rfl)) (pss_one (ps_for PassesOwn.never rfl (pi_list (pv 1)) (pg_name (i := 3) nd rfl (Or.inl rfl)) (pss_one (ps_if (pt_val (pe_cc c_is_parted (hr.mono (by omega)) (pa_cons (pv 0) (pa_cons (pv 2) (pa_cons (pv 3) pa_nil))))) (pss_one (ps_ret (pe_tup (pa_cons (pv 2) (pa_cons (pv 3) pa_nil))))) pss_nil)))))
      (pss_one (ps_ret pe_non)))), ?_⟩
    walk_at "op"
    walk_at "st"
    refine ⟨ah, hs, 0, _, rfl, rfl, SqT.of g1, atI_nat (j := 0) g3, af, _, 0, _, rfl, rfl, SqT.of hF.at_, rfl, t0, ss, rfl, .inr (SqT.of hss), ?_⟩
    rw [hsl]
    refine ⟨m, p, u, rfl, hmn.2.2.2, hp, fun q ws G hq hq' hW sG => ?_⟩
    refine ⟨_, rfl, ah, hs, rfl, .inr (SqT.of (sG _ _ g1)), ?_⟩
    rw [g2]
    refine ⟨_, rfl, by omega, by omega, ?_⟩
    rw [Int.toNat_natCast]
    refine fI walk_range (fun i σ G2 => Same G G2 ∧ ∃ u2 u3, σ = [some (.ref ah), some (.ref q), u2, u3]) ⟨Same.refl _, _, _, rfl⟩ (fun _ _ _ _ _ => True.intro) ?_ ?_
    · rintro i x σ _ G2 hi ⟨s2, u2, u3, rfl⟩ ⟨rfl, rfl⟩
      dsimp only
      rw [Int.zero_add]
      walk_at "op"
      refine ⟨_, rfl, q, rfl, ⟨_, SqL.of (s2 _ _ hq')⟩, ?_⟩
      refine fI walk_list (fun j σ G3 => Same G G3 ∧ ∃ u3, σ = [some (.ref ah), some (.ref q), some (.int (i : Nat)), u3]) ⟨s2, _, rfl⟩ (fun _ _ _ _ ⟨e, _⟩ => SqL.of (e _ _ hq')) ?_ ?_
      · rintro j x σ _ G3 hj ⟨s3, u3, rfl⟩ ⟨rfl, hxj⟩
        obtain ⟨d, hd1, hd2⟩ := hW.at hxj
        obtain ⟨y, hy, rfl⟩ := List.mem_map.mp (List.mem_of_getElem? hd1)
        obtain ⟨y1, y2, y3⟩ := thr_mem hy
        walk_at "op"
        refine ⟨_, rfl, _, rfl, _, rfl, .ref ah, x, p, ph, u, fs, m, n, i, y, rfl, (sG.trans s3) _ _ hp, hD.same (sG.trans s3), hN, hi, hd2.same s3, y1, y2, y3, hT, fun G4 s4 => ?_⟩
        exact ⟨_, rfl, iteF ⟨s3.trans s4, _, rfl⟩⟩
      · rintro σ G3 ⟨s3, u3, rfl⟩
        exact ⟨s3, _, _, rfl⟩
    · rintro σ G2 ⟨s2, u2, u3, rfl⟩
      walk_at "op"
      exact k _ (sG.trans s2)
def spPaper : Sp := spLeast
theorem ok_paper (D : Df K mg "paper" s_paper ["house"]) (T : Nms mg) {C : Addr} (c_size : CallOk P w K mg base (L2.CX P w) 6 "size" ["house"] (spSize C)) (c_least_parted : CallOk P w K mg base CX0 4 "least_parted" ["house"] spLeast) : CallOk P w K mg base (L2.CX P w) 7 "paper" ["house"] spPaper := by
  refine df_okX D sc_paper (fun vs H Q E h => ?_) (fun f cdv A outer s H vs Q E hr h => ?_)
  · obtain ⟨hv, p, ph, u, fs, m, n, rfl, _⟩ := h
    rfl
  · obtain ⟨hv, p, ph, u, fs, m, n, rfl, hp, hD, hN, hT, k⟩ := h
    have nd := sc_paper.nd
    refine ⟨_, (pss_cons (ps_expr (pe_cx c_size (hr.mono (by omega)) (pa_cons (pv 0) pa_nil)))
      (pss_cons (ps_set (i := 1) nd rfl (Or.inl rfl) (pe_cc c_least_parted (hr.mono (by omega)) (pa_cons (pv 0) pa_nil)))
      (pss_cons (ps_if (pt_cmpR op_isN (pv 1) pe_non (nomark _)) (pss_one (ps_ret pe_non)) pss_nil)
      pss_never))), ?_⟩
    walk_at "op"
    refine ⟨_, rfl, hv, ph, .tuple fs, rfl, hD, fun m' n' hN' q G hq hq2 sG => ?_, fun no => (no ⟨m, n, hN⟩).elim⟩
    refine ⟨_, rfl, hv, p, ph, u, fs, m, n, rfl, sG _ _ hp, hD.same sG, hN, hT, fun G2 s2 => ?_⟩
    refine ⟨_, rfl, rfl, true, by rw [decide_eq_true rfl], ?_⟩
    exact iteT (k _ (sG.trans s2))
theorem ok_check_fair (D : Df K mg "check_fair" s_check_fair ["house"]) (T : Nms mg) (c_paper : CallOk P w K mg base (L2.CX P w) 7 "paper" ["house"] spPaper) : CallOk P w K mg base (L2.CX P w) 8 "check_fair" ["house"] spLeast := by
  refine df_okX D sc_check_fair (fun vs H Q E h => ?_) (fun f cdv A outer s H vs Q E hr h => ?_)
  · obtain ⟨hv, p, ph, u, fs, m, n, rfl, _⟩ := h
    rfl
  · obtain ⟨hv, p, ph, u, fs, m, n, rfl, hp, hD, hN, hT, k⟩ := h
    have nd := sc_check_fair.nd
    refine ⟨_, (pss_cons (ps_set (i := 1) nd rfl (Or.inl rfl) (pe_cx c_paper (hr.mono (by omega)) (pa_cons (pv 0) pa_nil)))
      (pss_one (ps_if (pt_cmpR op_notN (pv 1) pe_non (nomark _)) (pss_one ps_never) pss_nil))), ?_⟩
    walk_at "op"
    refine ⟨_, rfl, hv, p, ph, u, fs, m, n, rfl, hp, hD, hN, hT, fun G2 s2 => ?_⟩
    refine ⟨_, rfl, rfl, false, by rw [decide_eq_true rfl]; rfl, ?_⟩
    exact iteF (k _ s2)
end
end Fm
end FFA
section FFmBatch
/-! Many meetings of like people at once; rows of counts. Pure arithmetic, nothing of the model. -/
set_option linter.all false
namespace FmC
def addI (c : List Int) (i : Nat) (z : Int) : List Int := c.set i (c.getD i 0 + z)
def cnt (c : List Int) (a : Nat) : Nat := (c.getD a 0).toNat
def NN (c : List Int) : Prop := ∀ x ∈ c, 0 ≤ x
def rowSt (f : Nat) (c : List Int) : St := fun g a => if g = f then cnt c a else 0
def upsSt (n f : Nat) (r : List Int) : St := fun g a => if g = f + 1 then (if f + 1 < n then cnt r a else if a = 0 then r.sum.toNat else 0) else 0
def many (t : Nat) (s : St) : St := fun g a => t * s g a
theorem addI_len (c : List Int) (i : Nat) (z : Int) : (addI c i z).length = c.length := by unfold addI; rw [List.length_set]
theorem getD_addI {c : List Int} {i : Nat} (hi : i < c.length) (z : Int) (a : Nat) : (addI c i z).getD a 0 = if a = i then c.getD i 0 + z else c.getD a 0 := by
  unfold addI
  rw [List.getD_eq_getElem?_getD, List.getElem?_set]
  by_cases h : i = a
  · subst h
    rw [if_pos rfl, if_pos hi, if_pos rfl]
    rfl
  · rw [if_neg h, if_neg (Ne.symm h), List.getD_eq_getElem?_getD]
theorem NN.get {c : List Int} (h : NN c) (a : Nat) : 0 ≤ c.getD a 0 := by
  rw [List.getD_eq_getElem?_getD]
  cases e : c[a]? with
  | none => exact Int.le_refl _
  | some x => exact h x (List.mem_of_getElem? e)
theorem NN.cnt {c : List Int} (h : NN c) (a : Nat) : ((cnt c a : Nat) : Int) = c.getD a 0 := by
  have := h.get a
  show (((c.getD a 0).toNat : Nat) : Int) = _
  omega
theorem NN.add {c : List Int} (h : NN c) {i : Nat} {z : Int} (hz : 0 ≤ c.getD i 0 + z) : NN (addI c i z) := fun x hx => by
  rcases List.mem_or_eq_of_mem_set hx with q | rfl
  · exact h x q
  · exact hz
theorem sum_addI : ∀ {c : List Int} {i : Nat}, i < c.length → ∀ z, (addI c i z).sum = c.sum + z
  | x :: c, 0, _, z => by
    show (x + z) + c.sum = x + c.sum + z
    omega
  | x :: c, i + 1, h, z => by
    have := sum_addI (c := c) (i := i) (by simpa using h) z
    show x + (addI c i z).sum = x + c.sum + z
    omega
theorem NN.sum : ∀ {c : List Int}, NN c → 0 ≤ c.sum
  | [], _ => Int.le_refl _
  | x :: c, h => by
    have h1 := h x List.mem_cons_self
    have h2 := NN.sum (c := c) fun y hy => h y (List.mem_cons_of_mem _ hy)
    show 0 ≤ x + c.sum
    omega
section
variable {n m : Nat} {S U : Nat → Nat → Nat → Nat}
/-- t meetings of two alike -/
theorem run_many {f k : Nat} (hf : f < n) (hk : k < m) (e : St) : ∀ t, Run n m S U (e + many (2 * t) (one f k)) (e + many t (one f (S f k k)) + many t (one (f + 1) (U f k k)))
  | 0 => by
    have : e + many (2 * 0) (one f k) = e + many 0 (one f (S f k k)) + many 0 (one (f + 1) (U f k k)) := by
      funext p q; simp only [add_at, many, Nat.mul_zero, Nat.zero_mul, Nat.add_zero]
    rw [this]
    exact .nil _
  | t + 1 => by
    have ih := run_many hf hk (e + one f (S f k k) + one (f + 1) (U f k k)) t
    refine .cons ⟨e + many (2 * t) (one f k), f, k, k, hf, hk, hk, ?_, rfl⟩ ?_
    · funext p q
      simp only [add_at, many]
      rw [show 2 * (t + 1) = 2 * t + 2 from rfl, Nat.add_mul]
      omega
    · have e1 : e + many (2 * t) (one f k) + one f (S f k k) + one (f + 1) (U f k k) = e + one f (S f k k) + one (f + 1) (U f k k) + many (2 * t) (one f k) := by
        funext p q; simp only [add_at]; omega
      have e2 : e + many (t + 1) (one f (S f k k)) + many (t + 1) (one (f + 1) (U f k k)) = e + one f (S f k k) + one (f + 1) (U f k k) + many t (one f (S f k k)) + many t (one (f + 1) (U f k k)) := by
        funext p q; simp only [add_at, many, Nat.add_mul, Nat.one_mul]; omega
      rw [e1, e2]
      exact ih
theorem row_add {f i : Nat} {c : List Int} (hc : NN c) (hi : i < c.length) (t : Nat) : rowSt f (addI c i t) = rowSt f c + many t (one f i) := by
  funext g a
  simp only [add_at, rowSt, many]
  by_cases hg : g = f
  · subst hg
    rw [if_pos rfl, if_pos rfl]
    unfold cnt
    rw [getD_addI hi]
    by_cases ha : a = i
    · subst ha
      rw [if_pos rfl, one_self]
      have := hc.get a
      omega
    · rw [if_neg ha, one_ne (fun q => ha q.2)]
      omega
  · rw [if_neg hg, if_neg hg, one_ne (fun q => hg q.1)]
    omega
theorem row_take {f i : Nat} {c : List Int} (hc : NN c) (hi : i < c.length) {t : Nat} (ht : (t : Int) ≤ c.getD i 0) : rowSt f c = rowSt f (addI c i (-(t : Int))) + many t (one f i) := by
  have h1 : NN (addI c i (-(t : Int))) := hc.add (by omega)
  have h2 := row_add (f := f) h1 (by rw [addI_len]; exact hi) t (i := i)
  rw [← h2]
  congr 1
  unfold addI
  rw [List.set_set, List.getD_eq_getElem?_getD (l := c.set _ _), List.getElem?_set_self hi]
  show c = c.set i (c.getD i 0 + -↑t + ↑t)
  rw [show c.getD i 0 + -(t : Int) + t = c.getD i 0 by omega, List.getD_eq_getElem?_getD, List.getElem?_eq_getElem hi]
  exact (List.set_getElem_self hi).symm
theorem ups_add {f i : Nat} {r : List Int} (hr : NN r) (hi : i < r.length) (t : Nat) : upsSt n f (addI r i t) = upsSt n f r + many t (one (f + 1) (if f + 1 < n then i else 0)) := by
  funext g a
  simp only [add_at, upsSt, many]
  by_cases hg : g = f + 1
  · subst hg
    rw [if_pos rfl, if_pos rfl]
    by_cases hn : f + 1 < n
    · rw [if_pos hn, if_pos hn, if_pos hn]
      have := congrFun (congrFun (row_add (f := f + 1) hr hi t) (f + 1)) a
      simp only [add_at, rowSt, many, if_pos] at this
      exact this
    · rw [if_neg hn, if_neg hn, if_neg hn, sum_addI hi]
      have := hr.sum
      by_cases ha : a = 0
      · subst ha
        rw [if_pos rfl, if_pos rfl, one_self]
        omega
      · rw [if_neg ha, if_neg ha, one_ne (fun q => ha q.2)]
        omega
  · rw [if_neg hg, if_neg hg, one_ne (fun q => hg q.1)]
    omega
/-- what meet_all keeps: from c on the floor, nobody risen, to c' and r' -/
structure Met (n m : Nat) (S U : Nat → Nat → Nat → Nat) (f : Nat) (c0 c r : List Int) : Prop where
  cl : c.length = m
  rl : r.length = m
  cn : NN c
  rn : NN r
  run : Run n m S (outU n U) (rowSt f c0) (rowSt f c + upsSt n f r)
  sum : c.sum + r.sum = c0.sum
/-- t meetings of two alike, in rows -/
theorem Met.twos (B : Tabs n m S U) {f : Nat} {c0 c r : List Int} (h : Met n m S U f c0 c r) (hf : f < n) {k : Nat} (hk : k < m) (t : Nat) (ht : 2 * (t : Int) ≤ c.getD k 0) :
    Met n m S U f c0 (addI (addI c k (-(2 * (t : Int)))) (S f k k) t) (addI r (U f k k) t) := by
  have hs := B.sm f k k hf hk hk
  have hu := B.um f k k hf hk hk
  have n1 : NN (addI c k (-(2 * (t : Int)))) := h.cn.add (by omega)
  have l1 : (addI c k (-(2 * (t : Int)))).length = m := by rw [addI_len, h.cl]
  have n2 : NN (addI (addI c k (-(2 * (t : Int)))) (S f k k) t) := n1.add (by have := n1.get (S f k k); omega)
  have n3 : NN (addI r (U f k k) t) := h.rn.add (by have := h.rn.get (U f k k); omega)
  refine ⟨by rw [addI_len, l1], by rw [addI_len, h.rl], n2, n3, ?_, ?_⟩
  · refine h.run.trans ?_
    have e1 := row_take (f := f) h.cn (i := k) (by rw [h.cl]; exact hk) (t := 2 * t) (by omega)
    rw [show (-((2 * t : Nat) : Int)) = -(2 * (t : Int)) by omega] at e1
    rw [e1, row_add n1 (by rw [l1]; exact hs), ups_add h.rn (by rw [h.rl]; exact hu)]
    have := run_many (S := S) (U := outU n U) hf hk (rowSt f (addI c k (-(2 * (t : Int)))) + upsSt n f r) t
    rw [show rowSt f (addI c k (-(2 * (t : Int)))) + many (2 * t) (one f k) + upsSt n f r = rowSt f (addI c k (-(2 * (t : Int)))) + upsSt n f r + many (2 * t) (one f k) from by funext p q; simp only [add_at]; omega]
    rw [show rowSt f (addI c k (-(2 * (t : Int)))) + many t (one f (S f k k)) + (upsSt n f r + many t (one (f + 1) (if f + 1 < n then U f k k else 0))) = rowSt f (addI c k (-(2 * (t : Int)))) + upsSt n f r + many t (one f (S f k k)) + many t (one (f + 1) (outU n U f k k)) from by
      show _ = _ + many t (one (f + 1) (if f + 1 < n then U f k k else 0))
      funext p q; simp only [add_at]; omega]
    exact this
  · rw [sum_addI (by rw [l1]; exact hs), sum_addI (by rw [h.cl]; exact hk), sum_addI (by rw [h.rl]; exact hu)]
    have := h.sum
    omega
/-- one meeting of two unlike, in rows -/
theorem Met.pair (B : Tabs n m S U) {f : Nat} {c0 c r : List Int} (h : Met n m S U f c0 c r) (hf : f < n) {a b : Nat} (ha : a < m) (hb : b < m) (hab : a ≠ b) (h1 : 1 ≤ c.getD a 0) (h2 : 1 ≤ c.getD b 0) :
    Met n m S U f c0 (addI (addI (addI c a (-1)) b (-1)) (S f a b) 1) (addI r (U f a b) 1) := by
  have hs := B.sm f a b hf ha hb
  have hu := B.um f a b hf ha hb
  have n1 : NN (addI c a (-1)) := h.cn.add (by omega)
  have l1 : (addI c a (-1)).length = m := by rw [addI_len, h.cl]
  have g1 : (addI c a (-1)).getD b 0 = c.getD b 0 := by rw [getD_addI (by rw [h.cl]; exact ha), if_neg (Ne.symm hab)]
  have n2 : NN (addI (addI c a (-1)) b (-1)) := n1.add (by omega)
  have l2 : (addI (addI c a (-1)) b (-1)).length = m := by rw [addI_len, l1]
  have n3 : NN (addI (addI (addI c a (-1)) b (-1)) (S f a b) 1) := n2.add (by have := n2.get (S f a b); omega)
  have n4 : NN (addI r (U f a b) 1) := h.rn.add (by have := h.rn.get (U f a b); omega)
  refine ⟨by rw [addI_len, l2], by rw [addI_len, h.rl], n3, n4, ?_, ?_⟩
  · refine h.run.trans ?_
    have e1 := row_take (f := f) h.cn (i := a) (by rw [h.cl]; exact ha) (t := 1) (by omega)
    have e2 := row_take (f := f) n1 (i := b) (by rw [l1]; exact hb) (t := 1) (by omega)
    have e3 := row_add (f := f) n2 (i := S f a b) (by rw [l2]; exact hs) 1
    have e4 := ups_add (n := n) (f := f) h.rn (i := U f a b) (by rw [h.rl]; exact hu) 1
    rw [show (-((1 : Nat) : Int)) = -1 from rfl] at e1 e2
    rw [show ((1 : Nat) : Int) = 1 from rfl] at e3 e4
    rw [e1, e2, e3, e4]
    refine .one ⟨rowSt f (addI (addI c a (-1)) b (-1)) + upsSt n f r, f, a, b, hf, ha, hb, ?_, ?_⟩
    · funext p q; simp only [add_at, many, Nat.one_mul]; omega
    · show _ = _ + _ + one (f + 1) (if f + 1 < n then U f a b else 0)
      funext p q; simp only [add_at, many, Nat.one_mul]; omega
  · rw [sum_addI (by rw [l2]; exact hs), sum_addI (by rw [l1]; exact hb), sum_addI (by rw [h.cl]; exact ha), sum_addI (by rw [h.rl]; exact hu)]
    have := h.sum
    omega
end
/-- who is here -/
def here (c : List Int) : List Nat := (List.range c.length).filter fun k => decide (c.getD k 0 ≠ 0)
end FmC
namespace FmC
section
variable {n m : Nat} {S U : Nat → Nat → Nat → Nat}
theorem met_start {f : Nat} {c : List Int} (hl : c.length = m) (hc : NN c) : Met n m S U f c c (List.replicate m 0) := by
  have z : ∀ a, (List.replicate m (0 : Int)).getD a 0 = 0 := fun a => by
    rw [List.getD_eq_getElem?_getD, List.getElem?_replicate]
    split <;> rfl
  have s : ∀ k, (List.replicate k (0 : Int)).sum = 0 := fun k => by
    induction k with
    | zero => rfl
    | succ k ih => rw [List.replicate_succ, List.sum_cons, ih]; rfl
  have u : upsSt n f (List.replicate m 0) = fun _ _ => 0 := by
    funext g a
    unfold upsSt cnt
    rw [z, s]
    simp
  refine ⟨hl, List.length_replicate, hc, fun x hx => by rw [List.eq_of_mem_replicate hx]; exact Int.le_refl _, ?_, by rw [s]; omega⟩
  have : rowSt f c + upsSt n f (List.replicate m 0) = rowSt f c := by
    rw [u]
    funext g a
    simp only [add_at]
    omega
  rw [this]
  exact .nil _
/-- rows of none and one -/
theorem sum_here {c : List Int} (hc : NN c) (h1 : ∀ k, k < c.length → c.getD k 0 ≤ 1) : ∀ i, i ≤ c.length → (c.take i).sum = (((List.range i).filter fun k => decide (c.getD k 0 ≠ 0)).length : Nat)
  | 0, _ => rfl
  | i + 1, hi => by
    have ih := sum_here hc h1 i (by omega)
    have hg : c[i]? = some (c.getD i 0) := by rw [List.getD_eq_getElem?_getD, List.getElem?_eq_getElem (by omega)]; rfl
    rw [List.take_add_one, hg, List.sum_append, ih, List.range_succ, List.filter_append, List.length_append]
    have a := hc.get i
    have b := h1 i (by omega)
    by_cases z : c.getD i 0 = 0
    · rw [z, show ([i].filter fun k => decide (c.getD k 0 ≠ 0)) = [] from by
        rw [List.filter_cons, if_neg (by rw [decide_eq_false (fun q => q z)]; decide)]; rfl]
      rfl
    · have e : c.getD i 0 = 1 := by omega
      rw [show ([i].filter fun k => decide (c.getD k 0 ≠ 0)) = [i] from by
        rw [List.filter_cons, if_pos (decide_eq_true z)]; rfl, e]
      show _ + (1 + 0 : Int) = ((_ + 1 : Nat) : Int)
      omega
theorem here_sum {c : List Int} (hc : NN c) (h1 : ∀ k, k < c.length → c.getD k 0 ≤ 1) : c.sum = ((here c).length : Nat) := by
  have := sum_here hc h1 c.length (Nat.le_refl _)
  rw [List.take_length] at this
  exact this
theorem here_mem {c : List Int} {k : Nat} (h : k ∈ here c) : k < c.length ∧ c.getD k 0 ≠ 0 := by
  unfold here at h
  rw [List.mem_filter, List.mem_range] at h
  exact ⟨h.1, of_decide_eq_true h.2⟩
theorem here_two {c : List Int} {a b : Nat} {l : List Nat} (h : here c = a :: b :: l) : a ≠ b := by
  have nd : (here c).Nodup := (List.nodup_range).filter _
  rw [h] at nd
  intro e
  subst e
  simp at nd
end
theorem addI_zero (c : List Int) (i : Nat) : addI c i 0 = c := by
  unfold addI
  rw [show c.getD i 0 + 0 = c.getD i 0 by omega, List.getD_eq_getElem?_getD]
  cases e : c[i]? with
  | none => exact List.set_eq_of_length_le (List.getElem?_eq_none_iff.mp e)
  | some x =>
    obtain ⟨h, rfl⟩ := List.getElem?_eq_some_iff.mp e
    exact List.set_getElem_self h
theorem addI_zero2 (c : List Int) (i j : Nat) : addI (addI c i (-(2 * ((0 : Nat) : Int)))) j ((0 : Nat) : Int) = c := by
  show addI (addI c i (-(2 * 0))) j 0 = c
  rw [show (-(2 * 0) : Int) = 0 from rfl, addI_zero, addI_zero]
end FmC
end FFmBatch
section FEN
set_option Elab.async false
set_option linter.all false
set_option maxRecDepth 100000
set_option maxHeartbeats 4000000
local macro_rules | `(tactic| walk_at "ne") => `(tactic| first | assumption | (apply Ne.symm; assumption) | exact L2.ne_of_none (by assumption) (by assumption) | exact Ne.symm (L2.ne_of_none (by assumption) (by assumption)))
local macro_rules | `(tactic| walk_at "hl") => `(tactic| first | assumption | exact L2.upd_same | (refine Eq.trans (L2.upd_ne (by walk_at "ne")) ?_; walk_at "hl"))
local macro_rules | `(tactic| walk_at "sd") => `(tactic| first | (with_reducible show (_ : Int) < _; omega) | (with_reducible show (_ : Int) ≤ _; omega) | assumption | decide | exact ⟨by assumption, by assumption⟩ | exact ⟨by decide, by decide⟩ | exact Or.inr ⟨by decide, by decide⟩ | exact Or.inl ⟨by omega, by omega⟩ | rfl)
local macro_rules | `(tactic| walk_at "st1") => `(tactic| first
  | refine ⟨_, rfl, ?_⟩
  | refine ⟨_, _, rfl, rfl, ?_⟩
  | refine ⟨_, _, rfl, ?_⟩
  | (refine ⟨_, _, _, _, rfl, rfl, L2.SqL.of (by walk_at "hl"), rfl, ?_⟩)
  | (refine ⟨_, _, _, _, rfl, rfl, L2.SqT.of (by walk_at "hl"), rfl, ?_⟩)
  | (refine ⟨_, _, _, _, rfl, rfl, (by walk_at "hl"), rfl, ?_⟩)
  | (refine And.intro (by walk_at "sd") ?_)
  )
local macro_rules | `(tactic| walk_at "st") => `(tactic| repeat walk_at "st1")
local macro_rules | `(tactic| walk_at "op") => `(tactic| try dsimp only [L2.tSeq, L2.tAsg, L2.tOp, L2.tVar, L2.tC, L2.gSub, L2.rI, L2.rI0, L2.rIxL, L2.rIxT, L2.rSetL, L2.tIfS, L2.tTest, L2.tRet, L2.gName, L2.tNext, L2.tAnd, L2.tOr, L2.tNot, L2.tAndV, L2.tOrV, L2.tNotV, L2.tB, L2.tCB, L2.tCons, L2.tNil, L2.tCall, L2.tTup, L2.tLst, L2.tChain, L2.tUn, L2.tPar, L2.tDrop, L2.tIf, L2.tBM, L2.tBM0, L2.rAppend, L2.rCat, L2.rIsi, L2.rIsiT, L2.gTup, L2.gCons, L2.gNil, Fm.tFor_eq, Fm.tLc_eq, Fm.tLc2_eq, L2.iTup, L2.iList, L2.iRng1, L2.iRng2, L2.tSl, L2.tPart, L2.tNoPart, L2.rSlL, L2.rEq, L2.rNe, L2.rU, L2.rEqD, L2.rNeD, Fm.tRevT, Fm.rLenS, Fm.rTupOf, Fm.rLstOf, L2.tDNewK, L2.tCallS, L2.WE, Fm.wKeep, Fm.rIsK, Fm.rIsKT, List.cons_append, List.nil_append, L2.tYes])
namespace Fm
open PySem PySem.Spec PyProof.Rows L2
abbrev s_meet_all : Stmt := top 40
abbrev N_meet_all : List Str := ["tables", "here", "stay", "up", "rising", "number", "row", "twos", "left", "many", "a", "b"]
theorem sc_meet_all : FnScope N_meet_all ["tables", "here"] (defScope s_meet_all) := ⟨rfl, rfl, rfl, by decide +kernel, rfl, by decide +kernel, by decide +kernel⟩
section
variable {P : Program} {w : World} {K : PySem.W.Frag} {mg : Str → Option Value} {base : Heap}
/-! ### all that meet on a floor -/
theorem addI_is (c : List Int) (i : Nat) (z : Int) : FmC.addI c i z = addAt c i z := rfl
theorem aug_at {K : PySem.W.Frag} {to ti te : TE} {σ : L2.St} {G : Hp} {B : Addr} {c : List Int} {i : Nat} {op : Int → Int → Int} {Dn : Ends} {v z : Int} (ho : ∀ Q : VK, Q (.ref B) G → to σ G Q) (hi : ∀ Q : VK, Q (.int (i : Nat)) G → ti σ G Q) (he : ∀ Q : VK, Q (.int v) G → te σ G Q)
    (hB : G B = some (.lst (c.map V.int))) (h : i < c.length) (e : ∀ x, op x v = x + z) (hn : Dn.nx σ (upd G B (.lst ((FmC.addI c i z).map V.int)))) : tAugS to ti te (rGetL K) (ipI op) rSetL Dn σ G := by
  refine ho _ (hi _ ?_)
  refine ⟨B, _, i, _, rfl, rfl, SqL.of hB, getD_at h, he _ ?_⟩
  refine ⟨_, _, rfl, rfl, ?_⟩
  refine ⟨B, _, _, i, rfl, rfl, hB, ixN_of (by rw [List.length_map]; exact h), ?_⟩
  rw [e, ← map_addAt]
  exact hn
theorem FloorAt.ext {H H' : Hp} {af t0 t1 L : Addr} {m : Nat} {S U : Nat → Nat → Nat} {xs : List V} (h : FloorAt H af m S U t0 t1) (hL : H L = some (.lst xs)) (e : Ext L H H') : FloorAt H' af m S U t0 t1 := by
  have ne : ∀ {b : Addr} {ys : List V}, H b = some (.tup ys) → b ≠ L := fun {b ys} hb z => by
    rw [z, hL] at hb
    cases hb
  refine ⟨e _ _ h.at_ (ne h.at_), fun a b ha hb => ?_, fun a b ha hb => ?_⟩
  · obtain ⟨ss, ra, ya, h1, h2, h3, h4, h5⟩ := h.s a b ha hb
    exact ⟨ss, ra, ya, e _ _ h1 (ne h1), h2, e _ _ h3 (ne h3), h4, h5⟩
  · obtain ⟨ss, ra, ya, h1, h2, h3, h4, h5⟩ := h.u a b ha hb
    exact ⟨ss, ra, ya, e _ _ h1 (ne h1), h2, e _ _ h3 (ne h3), h4, h5⟩
theorem rep_zero (m : Nat) : (List.replicate (m : Int).toNat [V.int 0]).flatten = (List.replicate m (0 : Int)).map V.int := by
  rw [Int.toNat_natCast, List.map_replicate]
  induction m with
  | zero => rfl
  | succ n ih => rw [List.replicate_succ, List.flatten_cons, ih, List.replicate_succ]; rfl
def hereTo (c : List Int) (i : Nat) : List Nat := (List.range i).filter fun k => decide (c.getD k 0 ≠ 0)
theorem hereTo_succ (c : List Int) (i : Nat) : hereTo c (i + 1) = hereTo c i ++ if c.getD i 0 = 0 then [] else [i] := by
  unfold hereTo
  rw [List.range_succ, List.filter_append]
  congr 1
  by_cases z : c.getD i 0 = 0
  · rw [if_pos z, List.filter_cons, if_neg (by rw [decide_eq_false (fun q => q z)]; decide)]
    rfl
  · rw [if_neg z, List.filter_cons, if_pos (decide_eq_true z)]
    rfl
theorem hereTo_len (c : List Int) (i : Nat) : (hereTo c i).length ≤ i := by
  unfold hereTo
  refine Nat.le_trans (List.length_filter_le _ _) ?_
  rw [List.length_range]
  exact Nat.le_refl _
def spMeetAll : Sp := fun vs H Q _ => ∃ (af t0 t1 L : Addr) (ss : List V) (n m f : Nat) (S U : Nat → Nat → Nat → Nat) (c : List Int), vs = [.ref af, .ref L] ∧ FloorAt H af m (S f) (U f) t0 t1 ∧ H t0 = some (.tup ss) ∧ ss.length = m ∧ f < n ∧ FmC.Tabs n m S U ∧ m ≤ 6 ∧
  H L = some (.lst (c.map V.int)) ∧ c.length = m ∧ FmC.NN c ∧ c.sum < 10 ^ 40 ∧
  ∀ R c' r H', FmC.Met n m S U f c c' r → c'.sum ≤ 1 → H R = none → H' L = some (.lst (c'.map V.int)) → H' R = some (.lst (r.map V.int)) → Ext L H H' → Q (.ref R) H'
theorem ok_meet_all (D : Df K mg "meet_all" s_meet_all ["tables", "here"]) (T : Nms mg) : CallOk P w K mg base CX0 1 "meet_all" ["tables", "here"] spMeetAll := by
  refine df_ok D sc_meet_all (fun vs H Q E h => ?_) (fun f cdv A outer s H vs Q E hr h => ?_)
  · obtain ⟨af, t0, t1, L, ss, n, m, f, S, U, c, rfl, _⟩ := h
    rfl
  · obtain ⟨af, t0, t1, L, ss, n, m, fl, S, U, c, rfl, hF, ht0, hsl, hf, B, hm, hL, hcl, hcn, hcb, k⟩ := h
    have nd := sc_meet_all.nd
    refine ⟨_, (pss_cons (ps_asg (pv 0) (pg_tup rfl (pgs_cons (pg_name (i := 2) nd rfl (Or.inl rfl)) (pgs_cons (pg_name (i := 3) nd rfl (Or.inl rfl)) pgs_nil))))
      (pss_cons (ps_set (i := 4) nd rfl (Or.inl rfl) (pe_op op_rep (pe_lst (pa_cons pe_int pa_nil)) (pe_callB (r := rLenS K) call_lenS (by rfl) T.n_len (by decide +kernel) (pa_cons (pv 1) pa_nil))))
      (pss_cons (ps_while PassesOwn.never (pt_cmpR op_gt (pe_callB (r := rSumI K) (cr_sumI rfl) (by rfl) T.n_sum (by decide +kernel) (pa_cons (pv 1) pa_nil)) pe_int (nomark _)) (pss_cons (ps_for PassesOwn.never rfl (pi_enumT (by rfl) T.n_enumerate (pa_cons (pv 2) pa_nil)) (pg_tup rfl (pgs_cons (pg_name (i := 5) nd rfl (Or.inl rfl)) (pgs_cons (pg_name (i := 6) nd rfl (Or.inl rfl)) pgs_nil))) (pss_cons (ps_set (i := 7) nd rfl (Or.inl rfl) (pe_op op_fdivW (pe_ix (r := rIxL K) ix_list (pv 1) (pv 5) (fun _ _ => rfl)) pe_int))
      (pss_cons (ps_augS (pv 1) (pv 5) get_list (pe_op op_mul pe_int (pv 7)) ip_sub set_list)
      (pss_cons (ps_augS (pv 1) (pe_ix (r := rIxT K) ix_tup (pv 6) (pv 5) (fun _ _ => rfl)) get_list (pv 7) ip_add set_list)
      (pss_one (ps_augS (pv 4) (pe_ix (r := rIxT K) ix_tup (pe_ix (r := rIxT K) ix_tup (pv 3) (pv 5) (fun _ _ => rfl)) (pv 5) (fun _ _ => rfl)) get_list (pv 7) ip_add set_list))))))
      (pss_cons (ps_setLc (i := 8) (own := [("number", 5), ("many", 9)]) (g := (gTup K 2 (gCons (gName 5) (gCons (gName 9) gNil)))) (by rfl) nd rfl rfl (sw_true rfl rfl rfl (by decide +kernel)) (pi_enum (by rfl) T.n_enumerate (pa_cons (pv 1) pa_nil)) (blkOk_by (own := [("number", 5), ("many", 9)]) (N := N_meet_all) (sc := defScope s_meet_all) (by decide +kernel)) (fun _ _ _ _ _ => (pg_tup rfl (pgs_cons (pg_name (i := 5) nd rfl (Or.inl rfl)) (pgs_cons (pg_name (i := 9) nd rfl (Or.inl rfl)) pgs_nil)))) (fun _ _ _ _ _ => (pts_one (pt_truthK (K := K) rfl (pv 9) (fun _ => rfl)))) (fun _ _ _ _ _ => (pv 5)))
      (pss_one (ps_if (pt_cmpR op_gt (pe_callB (r := rLenS K) call_lenS (by rfl) T.n_len (by decide +kernel) (pa_cons (pv 8) pa_nil)) pe_int (nomark _)) (pss_cons (ps_asg (pe_slice (r := rSlL K) sl_list (pv 8) po_none (po_some pe_int)) (pg_lst rfl (pgs_cons (pg_name (i := 10) nd rfl (Or.inl rfl)) (pgs_cons (pg_name (i := 11) nd rfl (Or.inl rfl)) pgs_nil))))
      (pss_cons (ps_augS (pv 1) (pv 10) get_list pe_int ip_sub set_list)
      (pss_cons (ps_augS (pv 1) (pv 11) get_list pe_int ip_sub set_list)
      (pss_cons (ps_augS (pv 1) (pe_ix (r := rIxT K) ix_tup (pe_ix (r := rIxT K) ix_tup (pv 2) (pv 10) (fun _ _ => rfl)) (pv 11) (fun _ _ => rfl)) get_list pe_int ip_add set_list)
      (pss_one (ps_augS (pv 4) (pe_ix (r := rIxT K) ix_tup (pe_ix (r := rIxT K) ix_tup (pv 3) (pv 10) (fun _ _ => rfl)) (pv 11) (fun _ _ => rfl)) get_list pe_int ip_add set_list)))))) pss_nil)))))
      (pss_one (ps_ret (pv 4)))))), ?_⟩
    walk_at "op"
    refine ⟨_, rfl, af, _, rfl, SqT.of hF.at_, rfl, _, _, rfl, _, _, rfl, rfl, ?_⟩
    walk_at "op"
    refine ⟨by show 1 ≤ sizeLine; decide, fun t ht => ?_⟩
    have nLt : L ≠ t := ne_of_none hL ht
    refine ⟨_, rfl, L, _, rfl, .inl (SqL.of (by rw [upd_ne nLt]; exact hL)), t, _, _, rfl, rfl, upd_same, by omega, by rw [List.length_map]; omega, by rw [sizeLine_eq, List.length_map]; show 1 * _ ≤ _; omega, fun R hR => ?_⟩
    rw [List.length_map, hcl, rep_zero]
    have nLR : L ≠ R := ne_of_none (by rw [upd_ne nLt]; exact hL) hR
    have s0 : Same H (upd (upd H t (.lst [V.int 0])) R (.lst ((List.replicate m (0 : Int)).map V.int))) := (same_new ht).trans (same_new hR)
    have hRH := sameFree (same_new (o := .lst [V.int 0]) ht) hR
    have hL1 := s0 _ _ hL
    have hR1 : upd (upd H t (.lst [V.int 0])) R (.lst ((List.replicate m (0 : Int)).map V.int)) R = some (.lst ((List.replicate m (0 : Int)).map V.int)) := upd_same
    generalize upd (upd H t (.lst [V.int 0])) R (.lst ((List.replicate m (0 : Int)).map V.int)) = G1 at *
    have M0 : FmC.Met n m S U fl c c (List.replicate m 0) := FmC.met_start hcl hcn
    refine ⟨fun k' σ G => ∃ (u5 u6 u7 u8 u9 u10 u11 : Option V) (c' r : List Int), σ = [some (.ref af), some (.ref L), some (.ref t0), some (.ref t1), some (.ref R), u5, u6, u7, u8, u9, u10, u11] ∧ FmC.Met n m S U fl c c' r ∧ G L = some (.lst (c'.map V.int)) ∧ G R = some (.lst (r.map V.int)) ∧ Ext L H G ∧ k' = c'.sum.toNat,
      ⟨_, none, none, none, none, none, none, none, c, List.replicate m 0, rfl, M0, hL1, hR1, Same.ext s0 L, rfl⟩, ?_⟩
    rintro k' σ G ⟨u5, u6, u7, u8, u9, u10, u11, c', r, rfl, M, hGL, hGR, hX, rfl⟩
    walk_at "op"
    refine ⟨_, rfl, .inl ⟨L, c', rfl, SqL.of hGL, ?_⟩⟩
    refine ⟨_, 1, rfl, rfl, _, rfl, ?_⟩
    have nRL : R ≠ L := Ne.symm nLR
    refine ite2 (fun c0 => ?_) (fun c0 => ?_)
    · have c1 := of_decide_eq_true c0
      refine ⟨fun σ' H' => ∃ (u5 u6 u7 u8 u9 u10 u11 : Option V) (c2 r2 : List Int), σ' = [some (.ref af), some (.ref L), some (.ref t0), some (.ref t1), some (.ref R), u5, u6, u7, u8, u9, u10, u11] ∧ FmC.Met n m S U fl c c2 r2 ∧ H' L = some (.lst (c2.map V.int)) ∧ H' R = some (.lst (r2.map V.int)) ∧ Ext L H H' ∧ c2.sum < c'.sum, fun σ' H' ⟨v5, v6, v7, v8, v9, v10, v11, c2, r2, e, M2, g1, g2, g3, g4⟩ => ⟨c2.sum.toNat, by have := M2.cn.sum; omega, v5, v6, v7, v8, v9, v10, v11, c2, r2, e, M2, g1, g2, g3, rfl⟩, ?_⟩
      have ht0G := hX _ _ ht0 (fun z => by rw [z, hL] at ht0; cases ht0)
      refine ⟨_, rfl, t0, ss, rfl, SqT.of ht0G, ?_⟩
      refine fI walk_enumT (fun i σ G2 => ∃ (u5 u6 u7 u8 u9 u10 u11 : Option V) (c2 r2 : List Int), σ = [some (.ref af), some (.ref L), some (.ref t0), some (.ref t1), some (.ref R), u5, u6, u7, u8, u9, u10, u11] ∧ FmC.Met n m S U fl c c2 r2 ∧ G2 L = some (.lst (c2.map V.int)) ∧ G2 R = some (.lst (r2.map V.int)) ∧ Ext L H G2 ∧ (c2.sum < c'.sum ∨ (c2 = c' ∧ ∀ k, k < i → c'.getD k 0 ≤ 1)))
        ⟨_, _, _, _, _, _, _, c', r, rfl, M, hGL, hGR, hX, .inr ⟨rfl, fun k hk => by omega⟩⟩ (fun i σ G2 _ ⟨_, _, _, _, _, _, _, _, _, _, _, _, _, hx, _⟩ => SqT.of (hx _ _ ht0 (fun z => by rw [z, hL] at ht0; cases ht0))) ?_ ?_
      · rintro i x σ G2 _ hi ⟨u5, u6, u7, u8, u9, u10, u11, c2, r2, rfl, M2, hL2, hR2, hX2, hc2⟩ ⟨T1, y1, y2, rfl, hT1, rfl, g1, g2⟩
        dsimp only at g1 g2
        cases g1
        have him : i < m := by omega
        obtain ⟨ss', ra, ya, a1, a2, a3, a4, a5⟩ := hF.s i i him him
        rw [ht0] at a1
        cases a1
        rw [g2] at a2
        cases a2
        obtain ⟨us, rb, yb, b1, b2, b3, b4, b5⟩ := hF.u i i him him
        have sT := same_new (o := .tup [V.int (i : Nat), .ref ra]) hT1
        have hL3 := sT _ _ hL2
        have hR3 := sT _ _ hR2
        have hX3 : Ext L H (upd G2 T1 (.tup [V.int (i : Nat), .ref ra])) := hX2.trans (Same.ext sT L)
        have neL : ∀ {b : Addr} {ys : List V}, H b = some (.tup ys) → b ≠ L := fun {b ys} hb z => by
          rw [z, hL] at hb
          cases hb
        refine ⟨T1, _, rfl, SqT.of upd_same, rfl, _, _, rfl, _, _, rfl, rfl, ?_⟩
        generalize upd G2 T1 (.tup [V.int (i : Nat), .ref ra]) = G3 at *
        have hil : i < c2.length := by rw [M2.cl]; exact him
        have h0 := M2.cn.get i
        obtain ⟨tw, etw⟩ : ∃ tw : Nat, c2.getD i 0 / 2 = (tw : Int) := ⟨(c2.getD i 0 / 2).toNat, by omega⟩
        have h2t : 2 * (tw : Int) ≤ c2.getD i 0 := by omega
        have MT := M2.twos B hf him tw h2t
        refine ⟨_, rfl, _, rfl, L, _, i, _, rfl, rfl, SqL.of hL3, atI_nat (getD_at hil), _, 2, rfl, rfl, ⟨by decide, by decide⟩, ?_⟩
        show gName 7 (V.int (c2.getD i 0 / 2)) _ _ _
        rw [etw]
        dsimp only [gName]
        refine aug_at (K := K) (op := fun i j => i - j) (i := i) (v := 2 * (tw : Int)) (z := -(2 * (tw : Int))) (fun Q q => ⟨_, rfl, q⟩) (fun Q q => ⟨_, rfl, q⟩) (fun Q q => ⟨_, rfl, 2, _, rfl, rfl, .inl ⟨by decide, by decide⟩, q⟩) hL3 hil (fun x => by omega) ?_
        have e1 : upd G3 L (.lst ((FmC.addI c2 i (-(2 * (tw : Int)))).map V.int)) L = some (.lst ((FmC.addI c2 i (-(2 * (tw : Int)))).map V.int)) := upd_same
        have x1 : Ext L G3 (upd G3 L (.lst ((FmC.addI c2 i (-(2 * (tw : Int)))).map V.int))) := ext_at
        have hR4 := x1 _ _ hR3 nRL
        have hX4 := hX3.trans x1
        generalize upd G3 L (.lst ((FmC.addI c2 i (-(2 * (tw : Int)))).map V.int)) = G4 at *
        dsimp only [tSeq]
        refine aug_at (K := K) (op := fun i j => i + j) (i := S fl i i) (v := (tw : Int)) (z := (tw : Int)) (fun Q q => ⟨_, rfl, q⟩) (fun Q q => ⟨_, rfl, _, rfl, ra, ya, _, _, rfl, rfl, SqT.of (hX4 _ _ a3 (neL a3)), atI_nat a4, q⟩) (fun Q q => ⟨_, rfl, q⟩) e1 (by rw [FmC.addI_len, M2.cl]; exact a5) (fun x => rfl) ?_
        have e2 : upd G4 L (.lst ((FmC.addI (FmC.addI c2 i (-(2 * (tw : Int)))) (S fl i i) tw).map V.int)) L = some (.lst ((FmC.addI (FmC.addI c2 i (-(2 * (tw : Int)))) (S fl i i) tw).map V.int)) := upd_same
        have x2 : Ext L G4 (upd G4 L (.lst ((FmC.addI (FmC.addI c2 i (-(2 * (tw : Int)))) (S fl i i) tw).map V.int))) := ext_at
        have hR5 := x2 _ _ hR4 nRL
        have hX5 := hX4.trans x2
        generalize upd G4 L (.lst ((FmC.addI (FmC.addI c2 i (-(2 * (tw : Int)))) (S fl i i) tw).map V.int)) = G5 at *
        dsimp only [tSeq]
        refine aug_at (K := K) (op := fun i j => i + j) (i := U fl i i) (v := (tw : Int)) (z := (tw : Int)) (fun Q q => ⟨_, rfl, q⟩) (fun Q q => ⟨_, rfl, _, rfl, t1, us, _, _, rfl, rfl, SqT.of (hX5 _ _ b1 (neL b1)), atI_nat b2, _, rfl, rb, yb, _, _, rfl, rfl, SqT.of (hX5 _ _ b3 (neL b3)), atI_nat b4, q⟩) (fun Q q => ⟨_, rfl, q⟩) hR5 (by rw [M2.rl]; exact b5) (fun x => rfl) ?_
        have hRfree : H R = none := hRH
        refine ⟨_, _, _, _, _, _, _, _, _, rfl, MT, by rw [upd_ne nLR]; exact e2, upd_same, fun b u eb nb => ?_, ?_⟩
        · rw [upd_ne (ne_of_none eb hRfree)]
          exact hX5 b u eb nb
        · have q1 := MT.sum
          have q2 := M2.sum
          have q3 : (FmC.addI r2 (U fl i i) tw).sum = r2.sum + tw := FmC.sum_addI (by rw [M2.rl]; exact b5) _
          by_cases z : tw = 0
          · subst z
            rcases hc2 with h | ⟨rfl, h⟩
            · exact .inl (by omega)
            · refine .inr ⟨?_, fun k hk => ?_⟩
              · exact FmC.addI_zero2 c2 i _
              · by_cases e : k = i
                · subst e; omega
                · exact h k (by omega)
          · refine .inl ?_
            rcases hc2 with h | ⟨rfl, h⟩ <;> omega
      · rintro σ G2 ⟨u5, u6, u7, u8, u9, u10, u11, c2, r2, rfl, M2, hL2, hR2, hX2, hc2⟩
        rw [hsl] at hc2
        walk_at "op"
        have hl2 : (c2.map V.int).length = m := by rw [List.length_map, M2.cl]
        refine ⟨_, rfl, L, _, rfl, SqL.of hL2, fun Bq hB => ?_⟩
        refine lI walk_enum (fun i G3 => Same G2 G3 ∧ G3 Bq = some (.lst ((hereTo c2 i).map fun k : Nat => V.int (k : Nat)))) ⟨same_new hB, upd_same⟩ (fun i G3 _ ⟨e, _⟩ => SqL.of (e _ _ hL2)) ?_ ?_
        · rintro i v G3 _ hi ⟨sm, hB3⟩ ⟨t9, x, y, rfl, ht9, rfl, hxi, hyi⟩
          dsimp only at hxi hyi
          cases hxi
          rw [hl2] at hi
          rw [getD_at (by rw [M2.cl]; exact hi)] at hyi
          cases hyi
          have nBt : Bq ≠ t9 := ne_of_none hB3 ht9
          have hhl := hereTo_len c2 i
          walk_at "op"
          refine ⟨t9, _, rfl, SqT.of upd_same, rfl, _, _, rfl, _, _, rfl, rfl, ?_⟩
          refine ⟨rfl, ?_⟩
          refine ⟨_, rfl, _, rfl, ?_⟩
          rw [hereTo_succ]
          cases e : (c2.getD i 0 != 0) with
          | true =>
            refine iteT ⟨_, rfl, _, by rw [upd_ne nBt]; exact hB3, by rw [List.length_map]; exact Nat.lt_of_le_of_lt (Nat.le_trans hhl (show i ≤ 6 by omega)) (by rw [sizeLine_eq]; omega), sameOff (sameOff sm (sameFree sm ht9)) hB, ?_⟩
            rw [upd_same, if_neg (by simpa using e), List.map_append]
            rfl
          | false =>
            refine iteF ⟨sameOff sm (sameFree sm ht9), ?_⟩
            rw [upd_ne nBt, if_pos (by simpa using e), List.append_nil]
            exact hB3
        · rintro G3 ⟨sm, hB3⟩
          rw [hl2] at hB3
          have hL3 := sm _ _ hL2
          have hR3 := sm _ _ hR2
          have hX3 := hX2.trans (Same.ext sm L)
          walk_at "op"
          refine ⟨_, rfl, Bq, _, rfl, .inl (SqL.of hB3), _, 1, rfl, rfl, _, rfl, ?_⟩
          rw [List.length_map]
          have hh : hereTo c2 m = FmC.here c2 := by unfold FmC.here hereTo; rw [M2.cl]
          rw [hh] at hB3 ⊢
          refine ite2 (fun d0 => ?_) (fun d0 => ?_)
          · have d1 := of_decide_eq_true d0
            obtain ⟨a, b, tl, eh⟩ : ∃ a b tl, FmC.here c2 = a :: b :: tl := by
              cases q : FmC.here c2 with
              | nil => rw [q] at d1; simp at d1
              | cons a r =>
                cases r with
                | nil => rw [q] at d1; simp at d1
                | cons b tl => exact ⟨a, b, tl, rfl⟩
            obtain ⟨ham, han⟩ := FmC.here_mem (c := c2) (k := a) (by rw [eh]; simp)
            obtain ⟨hbm, hbn⟩ := FmC.here_mem (c := c2) (k := b) (by rw [eh]; simp)
            rw [M2.cl] at ham hbm
            have hab := FmC.here_two eh
            have ha1 : 1 ≤ c2.getD a 0 := by have := M2.cn.get a; omega
            have hb1 : 1 ≤ c2.getD b 0 := by have := M2.cn.get b; omega
            have MP := M2.pair B hf ham hbm hab ha1 hb1
            rw [eh] at hB3
            have neL : ∀ {b : Addr} {ys : List V}, H b = some (.tup ys) → b ≠ L := fun {b ys} hb z => by
              rw [z, hL] at hb
              cases hb
            obtain ⟨ss', ra, ya, a1, a2, a3, a4, a5⟩ := hF.s a b ham hbm
            obtain ⟨us, rb, yb, b1, b2, b3, b4, b5⟩ := hF.u a b ham hbm
            refine ⟨_, rfl, 2, rfl, Bq, _, rfl, SqL.of hB3, fun P2 hP2 => ?_⟩
            have ecut : cutV ((a :: b :: tl).map fun k : Nat => V.int (k : Nat)) none (some 2) = [V.int (a : Nat), V.int (b : Nat)] := by
              unfold cutV
              simp
              rfl
            rw [ecut]
            have sP := same_new (o := .lst [V.int (a : Nat), V.int (b : Nat)]) hP2
            have hL4 := sP _ _ hL3
            have hR4 := sP _ _ hR3
            have hX4 := hX3.trans (Same.ext sP L)
            refine ⟨P2, _, rfl, SqL.of upd_same, rfl, _, _, rfl, _, _, rfl, rfl, ?_⟩
            generalize upd G3 P2 (.lst [V.int (a : Nat), V.int (b : Nat)]) = G4 at *
            dsimp only [tSeq]
            refine aug_at (K := K) (op := fun i j => i - j) (i := a) (v := 1) (z := -1) (fun Q q => ⟨_, rfl, q⟩) (fun Q q => ⟨_, rfl, q⟩) (fun Q q => q) hL4 (by rw [M2.cl]; exact ham) (fun x => rfl) ?_
            have e1 : upd G4 L (.lst ((FmC.addI c2 a (-1)).map V.int)) L = some (.lst ((FmC.addI c2 a (-1)).map V.int)) := upd_same
            have x1 : Ext L G4 (upd G4 L (.lst ((FmC.addI c2 a (-1)).map V.int))) := ext_at
            have hR5 := x1 _ _ hR4 nRL
            have hX5 := hX4.trans x1
            generalize upd G4 L (.lst ((FmC.addI c2 a (-1)).map V.int)) = G5 at *
            dsimp only [tSeq]
            refine aug_at (K := K) (op := fun i j => i - j) (i := b) (v := 1) (z := -1) (fun Q q => ⟨_, rfl, q⟩) (fun Q q => ⟨_, rfl, q⟩) (fun Q q => q) e1 (by rw [FmC.addI_len, M2.cl]; exact hbm) (fun x => rfl) ?_
            have e2 : upd G5 L (.lst ((FmC.addI (FmC.addI c2 a (-1)) b (-1)).map V.int)) L = some (.lst ((FmC.addI (FmC.addI c2 a (-1)) b (-1)).map V.int)) := upd_same
            have x2 : Ext L G5 (upd G5 L (.lst ((FmC.addI (FmC.addI c2 a (-1)) b (-1)).map V.int))) := ext_at
            have hR6 := x2 _ _ hR5 nRL
            have hX6 := hX5.trans x2
            generalize upd G5 L (.lst ((FmC.addI (FmC.addI c2 a (-1)) b (-1)).map V.int)) = G6 at *
            dsimp only [tSeq]
            refine aug_at (K := K) (op := fun i j => i + j) (i := S fl a b) (v := 1) (z := 1) (fun Q q => ⟨_, rfl, q⟩) (fun Q q => ⟨_, rfl, _, rfl, t0, ss', _, _, rfl, rfl, SqT.of (hX6 _ _ a1 (neL a1)), atI_nat a2, _, rfl, ra, ya, _, _, rfl, rfl, SqT.of (hX6 _ _ a3 (neL a3)), atI_nat a4, q⟩) (fun Q q => q) e2 (by rw [FmC.addI_len, FmC.addI_len, M2.cl]; exact a5) (fun x => rfl) ?_
            have e3 : upd G6 L (.lst ((FmC.addI (FmC.addI (FmC.addI c2 a (-1)) b (-1)) (S fl a b) 1).map V.int)) L = some (.lst ((FmC.addI (FmC.addI (FmC.addI c2 a (-1)) b (-1)) (S fl a b) 1).map V.int)) := upd_same
            have x3 : Ext L G6 (upd G6 L (.lst ((FmC.addI (FmC.addI (FmC.addI c2 a (-1)) b (-1)) (S fl a b) 1).map V.int))) := ext_at
            have hR7 := x3 _ _ hR6 nRL
            have hX7 := hX6.trans x3
            generalize upd G6 L (.lst ((FmC.addI (FmC.addI (FmC.addI c2 a (-1)) b (-1)) (S fl a b) 1).map V.int)) = G7 at *
            dsimp only [tSeq]
            refine aug_at (K := K) (op := fun i j => i + j) (i := U fl a b) (v := 1) (z := 1) (fun Q q => ⟨_, rfl, q⟩) (fun Q q => ⟨_, rfl, _, rfl, t1, us, _, _, rfl, rfl, SqT.of (hX7 _ _ b1 (neL b1)), atI_nat b2, _, rfl, rb, yb, _, _, rfl, rfl, SqT.of (hX7 _ _ b3 (neL b3)), atI_nat b4, q⟩) (fun Q q => q) hR7 (by rw [M2.rl]; exact b5) (fun x => rfl) ?_
            refine ⟨_, _, _, _, _, _, _, _, _, rfl, MP, by rw [upd_ne nLR]; exact e3, upd_same, fun b' u eb nb => ?_, ?_⟩
            · rw [upd_ne (ne_of_none eb hRH)]
              exact hX7 b' u eb nb
            · have q1 := MP.sum
              have q2 := M2.sum
              have q3 : (FmC.addI r2 (U fl a b) 1).sum = r2.sum + 1 := FmC.sum_addI (by rw [M2.rl]; exact b5) _
              rcases hc2 with h | ⟨rfl, h⟩ <;> omega
          · have d1 : ¬ (1 : Int) < ((FmC.here c2).length : Nat) := fun z => d0 (decide_eq_true z)
            refine ⟨_, _, _, _, _, _, _, c2, r2, rfl, M2, hL3, hR3, hX3, ?_⟩
            rcases hc2 with h | ⟨rfl, h⟩
            · exact h
            · have := FmC.here_sum M2.cn (fun k hk => h k (by rw [← M2.cl]; exact hk))
              omega
    · have c1 : c'.sum ≤ 1 := by
        have := of_decide_eq_false (Bool.eq_false_iff.mpr c0)
        omega
      walk_at "op"
      exact ⟨_, rfl, k R c' r G M c1 hRH hGL hGR hX⟩
end
end Fm
end FEN
section FFmEnds
/-! Floor by floor to the end. Pure arithmetic, nothing of the model. -/
set_option linter.all false
namespace FmC
def stSt (n : Nat) (rows : List (List Int)) (out : Int) : St := fun g a => if g < n then cnt (rows.getD g []) a else if g = n ∧ a = 0 then out.toNat else 0
/-- the floors below i are told, r come to floor i -/
def curSt (n : Nat) (rows : List (List Int)) (out : Int) (i : Nat) (told : List (List Int)) (r : List Int) : St := fun g a =>
  (if g < i then cnt (told.getD g []) a else if g < n then cnt (rows.getD g []) a else if g = n ∧ a = 0 then out.toNat else 0) + (if g = i then (if i < n then cnt r a else if a = 0 then r.sum.toNat else 0) else 0)
def addR (c r : List Int) : List Int := List.zipWith (· + ·) c r
theorem addR_len {c r : List Int} {m : Nat} (h1 : c.length = m) (h2 : r.length = m) : (addR c r).length = m := by unfold addR; rw [List.length_zipWith]; omega
theorem addR_get {c r : List Int} (h : c.length = r.length) (a : Nat) : (addR c r).getD a 0 = c.getD a 0 + r.getD a 0 := by
  unfold addR
  rw [List.getD_eq_getElem?_getD, List.getD_eq_getElem?_getD, List.getD_eq_getElem?_getD, List.getElem?_zipWith]
  by_cases ha : a < c.length
  · rw [List.getElem?_eq_getElem ha, List.getElem?_eq_getElem (by omega)]
    rfl
  · rw [List.getElem?_eq_none (by omega), List.getElem?_eq_none (by omega)]
    rfl
theorem addR_nn {c r : List Int} (hc : NN c) (hr : NN r) : NN (addR c r) := fun x hx => by
  unfold addR at hx
  obtain ⟨i, hi⟩ := List.mem_iff_getElem?.mp hx
  rw [List.getElem?_zipWith] at hi
  cases e1 : c[i]? with
  | none => rw [e1] at hi; cases hi
  | some p =>
    cases e2 : r[i]? with
    | none => rw [e1, e2] at hi; cases hi
    | some q =>
      rw [e1, e2] at hi
      cases hi
      have h1 := hc p (List.mem_of_getElem? e1)
      have h2 := hr q (List.mem_of_getElem? e2)
      show 0 ≤ p + q
      omega
theorem addR_sum : ∀ {c r : List Int}, c.length = r.length → (addR c r).sum = c.sum + r.sum
  | [], [], _ => rfl
  | x :: c, y :: r, h => by
    have := addR_sum (c := c) (r := r) (by simpa using h)
    show (x + y) + (addR c r).sum = (x + c.sum) + (y + r.sum)
    omega
section
variable {n m : Nat} {S U : Nat → Nat → Nat → Nat}
theorem cur_start (rows : List (List Int)) (out : Int) (hn : 1 ≤ n) : curSt n rows out 0 [] (List.replicate m 0) = stSt n rows out := by
  funext g a
  unfold curSt stSt
  rw [if_neg (Nat.not_lt_zero g)]
  by_cases h : g = 0
  · subst h
    have hn0 : 0 < n := by omega
    simp only [if_pos hn0, if_true]
    have : cnt (List.replicate m (0 : Int)) a = 0 := by
      unfold cnt
      rw [List.getD_eq_getElem?_getD, List.getElem?_replicate]
      split <;> rfl
    rw [this]
    omega
  · rw [if_neg h]
    omega
theorem cur_step {rows : List (List Int)} {out : Int} {i : Nat} {told : List (List Int)} {c r c' r' : List Int} (hi : i < n) (hc : rows[i]? = some c) (hcl : c.length = m) (hrl : r.length = m) (hcn : NN c) (hrn : NN r) (ht : told.length = i) (M : Met n m S U i (addR c r) c' r') :
    Run n m S (outU n U) (curSt n rows out i told r) (curSt n rows out (i + 1) (told ++ [c']) r') := by
  have hgd : rows.getD i [] = c := by rw [List.getD_eq_getElem?_getD, hc]; rfl
  have e1 : curSt n rows out i told r = (fun g a => if g < i then cnt (told.getD g []) a else if g = i then 0 else if g < n then cnt (rows.getD g []) a else if g = n ∧ a = 0 then out.toNat else 0) + rowSt i (addR c r) := by
    funext g a
    simp only [add_at]
    unfold curSt rowSt
    by_cases h : g = i
    · subst h
      rw [if_neg (Nat.lt_irrefl _), if_pos hi, if_pos rfl, if_pos hi, if_neg (Nat.lt_irrefl _), if_pos rfl, if_pos rfl, hgd]
      unfold cnt
      rw [addR_get (by omega)]
      have := hcn.get a
      have := hrn.get a
      omega
    · rw [if_neg h, if_neg h, if_neg h]
  have e2 : curSt n rows out (i + 1) (told ++ [c']) r' = (fun g a => if g < i then cnt (told.getD g []) a else if g = i then 0 else if g < n then cnt (rows.getD g []) a else if g = n ∧ a = 0 then out.toNat else 0) + (rowSt i c' + upsSt n i r') := by
    funext g a
    simp only [add_at]
    unfold curSt rowSt upsSt
    by_cases h : g = i
    · subst h
      rw [if_pos (Nat.lt_succ_self _), if_neg (by omega : ¬ g = g + 1), if_neg (Nat.lt_irrefl _), if_pos rfl, if_pos rfl]
      have : (told ++ [c']).getD g [] = c' := by
        rw [List.getD_eq_getElem?_getD, List.getElem?_append_right (by omega), ht, Nat.sub_self]
        rfl
      rw [this]
      omega
    · rw [if_neg h, if_neg h]
      by_cases h2 : g < i
      · rw [if_pos (by omega : g < i + 1), if_pos h2, if_neg (by omega : ¬ g = i + 1)]
        have : (told ++ [c']).getD g [] = told.getD g [] := by
          rw [List.getD_eq_getElem?_getD, List.getElem?_append_left (by omega), List.getD_eq_getElem?_getD]
        rw [this]
      · rw [if_neg (by omega : ¬ g < i + 1), if_neg h2]
        omega
  rw [e1, e2]
  exact M.run.beside _
theorem cur_end {rows told : List (List Int)} {out : Int} {r : List Int} (hr : NN r) (ho : 0 ≤ out) : curSt n rows out n told r = stSt n told (out + r.sum) := by
  funext g a
  unfold curSt stSt
  by_cases h : g < n
  · rw [if_pos h, if_pos h, if_neg (by omega : ¬ g = n)]
    omega
  · rw [if_neg h, if_neg h, if_neg h]
    by_cases e : g = n
    · subst e
      rw [if_pos rfl, if_neg (Nat.lt_irrefl _)]
      have := hr.sum
      by_cases z : a = 0
      · rw [if_pos ⟨rfl, z⟩, if_pos z, if_pos ⟨rfl, z⟩]
        omega
      · rw [if_neg (fun q => z q.2), if_neg z, if_neg (fun q => z q.2)]
    · rw [if_neg e, if_neg (fun q => e q.1), if_neg (fun q => e q.1)]
end
end FmC
end FFmEnds
section FFmZipTM
set_option Elab.async false
set_option linter.all false
set_option maxRecDepth 100000
set_option maxHeartbeats 4000000
namespace Fm
open PySem PySem.Spec PyProof.Rows L2
/-! ### zip(a list, a tuple) -/
def ItzTM (K : PySem.W.Frag) (a b : Addr) : It :=
  ⟨fun i H => ∃ (xs ys : List V) (x y : V), SqT K H a xs ∧ SqL K H b ys ∧ xs[i]? = some x ∧ ys[i]? = some y,
    fun i H v H' => ∃ (T : Addr) (x y : V), v = .ref T ∧ H T = none ∧ H' = upd H T (.tup [x, y]) ∧ (∀ xs, SqT K H a xs → xs[i]? = some x) ∧ ∀ ys, SqL K H b ys → ys[i]? = some y,
    fun i H => ∃ xs ys : List V, SqT K H a xs ∧ SqL K H b ys ∧ i ≤ xs.length ∧ i ≤ ys.length ∧ (i = xs.length ∨ i = ys.length)⟩
abbrev h1TM (h : Heap) (a : Addr) : Heap := h.push { cls := .type "tuple_iterator", data := .fields #[.ref a, .int 0 0] }
abbrev h2TM (h : Heap) (a b : Addr) : Heap := (h1TM h a).push { cls := .type "list_iterator", data := .fields #[.ref b, .int 0 0] }
abbrev h3TM (h : Heap) (a b : Addr) : Heap := (h2TM h a b).push { cls := .type "tuple", data := .seq #[.ref h.objs.size, .ref (h1TM h a).objs.size] }
abbrev h4TM (h : Heap) (a b : Addr) : Heap := (h3TM h a b).push { cls := .type "tuple", data := .seq #[.none, .none] }
abbrev h5TM (h : Heap) (a b : Addr) : Heap := (h4TM h a b).push { cls := .type "zip", data := .fields #[.none, .bool false, .bool false, .ref (h2TM h a b).objs.size, .ref (h3TM h a b).objs.size] }
theorem meetsTM (a b : Addr) (xs ys : Array Value) : Meets (Builtin.«zip.__new__» ⟨[.type "zip", .ref a, .ref b], []⟩) (fun _ R s => s.heap.IsTuple a xs ∧ s.heap.IsList b ys ∧ R (.ok (.ret (.ref (h4TM s.heap a b).objs.size))) { s with heap := h5TM s.heap a b }) :=
  .of_wp fun prog w A R s h => by
    obtain ⟨hp, g, d, tk, os⟩ := s
    obtain ⟨ha, hb, h⟩ := h
    have sz := sub_zip
    have hA : Heap.IsTuple (Shared.heap ⟨hp, g, d, tk, os⟩) a xs := ha
    have hB : Heap.IsList (Shared.heap ⟨hp.push { cls := .type "tuple_iterator", data := .fields #[.ref a, .int 0 0] }, g, d, tk, os⟩) b ys := Heap.IsList.push hb _
    wp_walk using wpAny_pyIter_tuple hA, wpAny_pyIter_list hB
    exact ⟨_, rfl, h⟩
theorem callTM {prog : Program} {w : World} {A : Around} {E : Value → Shared → Prop} {s : Shared} {a b : Addr} {xs ys : Array Value} {Q : Value → Shared → Prop} (ha : s.heap.IsTuple a xs) (hb : s.heap.IsList b ys)
    (h : ∀ h', IsZip h' (s.heap.objs.size + 4) (s.heap.objs.size + 2) (s.heap.objs.size + 3) .none → IsPair h' (s.heap.objs.size + 2) (.ref s.heap.objs.size) (.ref (s.heap.objs.size + 1)) → IsPair h' (s.heap.objs.size + 3) .none .none →
      h'.IsTupleIter s.heap.objs.size a 0 → h'.IsListIter (s.heap.objs.size + 1) b 0 → (∀ c o, s.heap.get? c = some o → h'.get? c = some o) → Q (.ref (s.heap.objs.size + 4)) { s with heap := h' }) : wpAny (model prog w) A (call (.type "zip") [.ref a, .ref b]) Q E s := by
  refine callType_new F.called_zip (by decide) (F.typeCall_zip_2 _ _) (F.newCall_zip_2 _ _) (fun obj => F.args_object_init_3 obj _ _) F.entry_zip_new (meetsTM a b xs ys) ⟨ha, hb, ?_⟩
  have e1 : (h1TM s.heap a).objs.size = s.heap.objs.size + 1 := Heap.size_push ..
  have e2 : (h2TM s.heap a b).objs.size = s.heap.objs.size + 2 := by rw [Heap.size_push, e1]
  have e3 : (h3TM s.heap a b).objs.size = s.heap.objs.size + 3 := by rw [Heap.size_push, e2]
  have e4 : (h4TM s.heap a b).objs.size = s.heap.objs.size + 4 := by rw [Heap.size_push, e3]
  have f5 : (h5TM s.heap a b).get? (h4TM s.heap a b).objs.size = some _ := Heap.get?_push_size _ rfl
  have f4 : (h5TM s.heap a b).get? (h3TM s.heap a b).objs.size = some _ := Heap.get?_push_of_some _ (Heap.get?_push_size _ rfl)
  have f3 : (h5TM s.heap a b).get? (h2TM s.heap a b).objs.size = some _ := Heap.get?_push_of_some _ (Heap.get?_push_of_some _ (Heap.get?_push_size _ rfl))
  have f2 : (h5TM s.heap a b).get? (h1TM s.heap a).objs.size = some _ := Heap.get?_push_of_some _ (Heap.get?_push_of_some _ (Heap.get?_push_of_some _ (Heap.get?_push_size _ rfl)))
  have f1 : (h5TM s.heap a b).get? s.heap.objs.size = some _ := Heap.get?_push_of_some _ (Heap.get?_push_of_some _ (Heap.get?_push_of_some _ (Heap.get?_push_of_some _ (Heap.get?_push_size _ rfl))))
  rw [e2, e3, e4] at f5
  rw [e3] at f4
  rw [e1, e2] at f3
  rw [e1] at f2
  show _ ∧ _
  rw [e4]
  exact ⟨⟨_, f5, rfl⟩, h _ f5 f3 f4 ⟨_, f1, rfl, rfl⟩ ⟨_, f2, rfl, rfl⟩ fun c o x => Heap.get?_push_of_some _ (Heap.get?_push_of_some _ (Heap.get?_push_of_some _ (Heap.get?_push_of_some _ (Heap.get?_push_of_some _ x))))⟩
theorem turn_zipTM {P : Program} {w : World} {K : PySem.W.Frag} {elts : List Expr} {kk : Nat} {tpos : Pos} {a b z TI TO i1 i2 : Addr} (D : ZipApart z TI TO i1 i2 a b) :
    Turn P w K (.Tuple elts kk tpos) (ItzTM K a b) [z, TI, TO, i1, i2] z (fun i h => IsZip h z TI TO .none ∧ IsPair h TI (.ref i1) (.ref i2) ∧ (∃ x y, IsPair h TO x y) ∧ h.IsTupleIter i1 a i ∧ h.IsListIter i2 b i) := by
  have Sp : ZipSep2 z TI TO i1 i2 [i1, a] [i2, b] := ⟨D.TIz, D.TOz, D.TITO, D.TIi1, by simp, by simp [D.i1z.symm, D.l1z.symm], by simp [D.TOi1, D.l1TO.symm], D.TIi2, by simp, by simp [D.i2z.symm, D.l2z.symm], by simp [D.TOi2, D.l2TO.symm], by simp [D.i12, D.l2i1.symm], by simp [D.i12.symm, D.l1i2.symm]⟩
  exact {
    mem := by simp
    obj := fun i h st c hc => by
      obtain ⟨hz, hTI, ⟨x, y, hTO⟩, ⟨o1, e1, _, d1⟩, ⟨o2, e2, _, d2⟩⟩ := st
      simp only [List.mem_cons, List.not_mem_nil, or_false] at hc
      rcases hc with rfl | rfl | rfl | rfl | rfl
      · exact ⟨_, hz, fun v q => nomatch q⟩
      · exact ⟨_, hTI, fun v q => nomatch q⟩
      · exact ⟨_, hTO, fun v q => nomatch q⟩
      · exact ⟨o1, e1, fun v q => by rw [d1] at q; cases q⟩
      · exact ⟨o2, e2, fun v q => by rw [d2] at q; cases q⟩
    keep := fun i h h' st k => by
      obtain ⟨hz, hTI, ⟨x, y, hTO⟩, h1, h2⟩ := st
      exact ⟨k z (by simp) _ hz, k TI (by simp) _ hTI, ⟨x, y, k TO (by simp) _ hTO⟩, h1.at fun o q => k i1 (by simp) o q, h2.at fun o q => k i2 (by simp) o q⟩
    item := by
      intro X hP hw hK hc i pins s σ H E I hf st hg
      subst hP hw hK
      obtain ⟨hz, hTI, ⟨x0, y0, hTO⟩, h1, h2⟩ := st
      obtain ⟨xs, ys, x, y, qx, qy, hx, hy⟩ := hg
      obtain ⟨its2, rv2, pl, _⟩ := I.list qy
      obtain ⟨its, rv, ⟨o2, ho2, hc2, n2, hd2⟩, _⟩ := I.tuple qx
      have ht : s.heap.IsTuple a its.toArray := ⟨o2, ho2, hc2, n2, hd2⟩
      obtain ⟨u, hu, ru⟩ := rv.get hx
      obtain ⟨u2, hu2, ru2⟩ := rv2.get hy
      have lt1 : i < its.toArray.size := by
        rw [List.size_toArray, ← rv.length]
        exact (List.getElem?_eq_some_iff.mp hx).1
      have lt2 : i < its2.toArray.size := by
        rw [List.size_toArray, ← rv2.length]
        exact (List.getElem?_eq_some_iff.mp hy).1
      have hzl : z < s.heap.objs.size := Heap.lt_size hz
      refine wpAny_pyNext_zipD2_item Sp (Draws.tuple (prog := X.prog) (w := X.w) (A := X.A.in1) (show X.A.in1.handled = none from I.ok.hd hc) i1 a D.l1i1 its.toArray) (Draws.list (prog := X.prog) (w := X.w) (A := X.A.in1) (show X.A.in1.handled = none from I.ok.hd hc) i2 b D.l2i2 its2.toArray)
        hz hTI hTO ⟨h1, ht⟩ ⟨h2, pl.isList⟩ lt1 lt2 fun v1 v2 h' tk e1 e2 hz' hTO' st1 st2 hnew hsz hk => ?_
      have ev1 : v1 = u := by
        have q : its.toArray[i]? = some u := by simpa using hu
        exact (Option.some.inj (q.symm.trans e1)).symm
      have ev2 : v2 = u2 := by
        have q : its2.toArray[i]? = some u2 := by simpa using hu2
        exact (Option.some.inj (q.symm.trans e2)).symm
      subst ev1 ev2
      refine ⟨_, rfl, wpAny_letOwnedTupleGo_zip (s := { s with heap := h', toks := tk }) hz' fun h3 hz3 sb => ?_⟩
      have hT3 : h3.get? s.heap.objs.size = some { cls := .type "tuple", data := .seq #[v1, v2] } := (sb.2 _ (Nat.ne_of_gt hzl)).trans hnew
      have new : ObjOk X.prog X.w (upd H s.heap.objs.size (.tup [x, y])) h3 s.heap.objs.size (.tup [x, y]) := ⟨show 2 ≤ sizeLine by decide, [v1, v2], .cons ru (.cons ru2 .nil), _, hT3, rfl, _, rfl⟩
      have old : ∀ c ob, c ∉ [z, TI, TO, i1, i2] → s.heap.get? c = some ob → h3.get? c = some ob := fun c ob hb q => by
        simp only [List.mem_cons, List.not_mem_nil, or_false, not_or] at hb
        exact (sb.2 c hb.1).trans (hk c ob hb.1 hb.2.2.1 hb.2.2.2.1 hb.2.2.2.2 q)
      have I1 := I.turnedNew (t' := tk) (ch := [z, TI, TO, i1, i2]) old hf (Nat.le_refl _) new
      refine ⟨.ref s.heap.objs.size, _, I1, rfl, ⟨_, x, y, rfl, I.hok.fresh (Nat.le_refl _), rfl, fun l hl => by rw [I.tuple_inj hl qx]; exact hx, fun l hl => by rw [I.list_inj hl qy]; exact hy⟩, ⟨hz3, ?_, ⟨_, _, (sb.2 _ D.TOz).trans hTO'⟩, st1.1.at fun ob q => (sb.2 i1 D.i1z).trans q, st2.1.at fun ob q => (sb.2 i2 D.i2z).trans q⟩, fun c hcm => ?_⟩
      · exact (sb.2 _ D.TIz).trans (hk _ _ D.TIz D.TITO D.TIi1 D.TIi2 hTI)
      · have lt : c < s.heap.objs.size := by
          have q := hcm
          simp only [List.mem_cons, List.not_mem_nil, or_false] at q
          rcases q with rfl | rfl | rfl | rfl | rfl
          · exact hzl
          · exact Heap.lt_size hTI
          · exact Heap.lt_size hTO
          · obtain ⟨_, q, _⟩ := h1; exact Heap.lt_size q
          · obtain ⟨_, q, _⟩ := h2; exact Heap.lt_size q
        rw [upd_ne (Nat.ne_of_lt lt)]
        exact (hf c hcm).1
    done := by
      intro X hP hw hK hc i pins s σ H E I hf st hg
      subst hP hw hK
      obtain ⟨hz, hTI, ⟨x0, y0, hTO⟩, h1, h2⟩ := st
      obtain ⟨xs, ys, qx, qy, l1, l2, hend⟩ := hg
      obtain ⟨its2, rv2, pl, _⟩ := I.list qy
      obtain ⟨its, rv, ⟨o2, ho2, hc2, n2, hd2⟩, _⟩ := I.tuple qx
      have ht : s.heap.IsTuple a its.toArray := ⟨o2, ho2, hc2, n2, hd2⟩
      have z1 : its.toArray.size = xs.length := by rw [List.size_toArray, rv.length]
      have z2 : its2.toArray.size = ys.length := by rw [List.size_toArray, rv2.length]
      refine wpAny_pyNext_zipD2_end Sp (Draws.tuple (prog := X.prog) (w := X.w) (A := X.A.in1) (show X.A.in1.handled = none from I.ok.hd hc) i1 a D.l1i1 its.toArray) (Draws.list (prog := X.prog) (w := X.w) (A := X.A.in1) (show X.A.in1.handled = none from I.ok.hd hc) i2 b D.l2i2 its2.toArray)
        hz hTI hTO ⟨h1, ht⟩ ⟨h2, pl.isList⟩ (by omega) (by omega) (by omega) fun h' tk hk => ⟨rfl, I.turnedL (t' := tk) (ch := [z, TI, TO, i1, i2]) (fun c o hb q => ?_) hf⟩
      simp only [List.mem_cons, List.not_mem_nil, or_false, not_or] at hb
      exact hk c o hb.1 hb.2.2.1 hb.2.2.2.1 hb.2.2.2.2 q
    self := fun A i s Q E st h => wpAny_pyIter_zip st.1 h }
def iZipTM (K : PySem.W.Frag) (ta : TA) : TI := fun σ H R => ta σ H fun vs H1 => ∃ (a b : Addr) (xs ys : List V), vs = [.ref a, .ref b] ∧ SqT K H1 a xs ∧ SqL K H1 b ys ∧ R (ItzTM K a b) H1
theorem pi_zipTM {X : Cx} {e e2 : Expr} {ta : TA} {p pos tpos : Pos} {elts : List Expr} {kk : Nat} (hg : Gl X "zip") (hm : X.mg "zip" = none) (ha : PA X [e, e2] ta)
    (hs : starEach [e, e2] X.env = (false, eval e X.env) :: starEach [e2] X.env := by rfl) (hpl : (backTo pos (starEach [e2] X.env)).any (·.1) = false := by rfl) : PI X (.Tuple elts kk tpos) (.Call (.Name "zip" p) [e, e2] [] pos) (iZipTM X.K ta) := by
  refine ⟨fun pins s σ H R I h => Call_ (ld_blt I hg hm PyProof.Rows.boot_zip (PyProof.Rows.callWith_type1 (thn (ha.run pos pins s σ H _ I h) fun us s1 ⟨vs, H1, I1, r1, a, b, xs, ys, ex, qx, qy, q⟩ => ?_) hs hpl))⟩
  subst ex
  obtain ⟨w1, w2, rfl, ra, rb⟩ := vals2 r1
  cases ra
  cases rb
  obtain ⟨its2, rv2, pl, _⟩ := I1.list qy
  obtain ⟨its, rv, ⟨o2, ho2, hc2, n2, hd2⟩, _⟩ := I1.tuple qx
  have ht : s1.heap.IsTuple a its.toArray := ⟨o2, ho2, hc2, n2, hd2⟩
  refine callTM ht pl.isList fun h' hz hTI hTO h1 h2 hk => wpAny_pyIter_zip hz ?_
  have I2 : Inv X pins σ H1 { s1 with heap := h' } := I1.kept (t' := s1.toks) hk
  refine ⟨s1.heap.objs.size + 4, [s1.heap.objs.size + 4, s1.heap.objs.size + 2, s1.heap.objs.size + 3, s1.heap.objs.size, s1.heap.objs.size + 1], _, _, H1, rfl, I2, turn_zipTM (PySem.W.ktu_apart s1.heap.objs.size a b (Heap.lt_size ho2) pl.lt), ⟨hz, hTI, ⟨_, _, hTO⟩, h1, h2⟩, fun c hc => ?_, q⟩
  have le : s1.heap.objs.size ≤ c := by
    simp only [List.mem_cons, List.not_mem_nil, or_false] at hc
    rcases hc with rfl | rfl | rfl | rfl | rfl
    · exact Nat.le_add_right _ _
    · exact Nat.le_add_right _ _
    · exact Nat.le_add_right _ _
    · exact Nat.le_refl _
    · exact Nat.le_add_right _ _
  exact I1.fpOk le (I1.hok.fresh le)
theorem walk_zipTM {K : PySem.W.Frag} {a b : Addr} {xs ys : List V} (hl : xs.length = ys.length) : Walk (ItzTM K a b) xs.length (fun H => SqT K H a xs ∧ SqL K H b ys) (YPair (fun i => xs[i]?) (fun i => ys[i]?)) := by
  refine ⟨fun i H hi q => ⟨xs, ys, xs[i], ys[i]'(by omega), q.1, q.2, List.getElem?_eq_getElem hi, List.getElem?_eq_getElem _⟩, fun H q => ⟨xs, ys, q.1, q.2, Nat.le_refl _, by omega, .inl rfl⟩, fun i H v H' hi q y => ?_⟩
  obtain ⟨T, x, y, h1, h2, h3, h4, h5⟩ := y
  exact ⟨T, x, y, h1, h2, h3, h4 xs q.1, h5 ys q.2⟩
end Fm
end FFmZipTM
section FEO
set_option Elab.async false
set_option linter.all false
set_option maxRecDepth 100000
set_option maxHeartbeats 4000000
local macro_rules | `(tactic| walk_at "ne") => `(tactic| first | assumption | (apply Ne.symm; assumption) | exact L2.ne_of_none (by assumption) (by assumption) | exact Ne.symm (L2.ne_of_none (by assumption) (by assumption)))
local macro_rules | `(tactic| walk_at "hl") => `(tactic| first | assumption | exact L2.upd_same | (refine Eq.trans (L2.upd_ne (by walk_at "ne")) ?_; walk_at "hl"))
local macro_rules | `(tactic| walk_at "sd") => `(tactic| first | (with_reducible show (_ : Int) < _; omega) | (with_reducible show (_ : Int) ≤ _; omega) | assumption | decide | exact ⟨by assumption, by assumption⟩ | exact ⟨by decide, by decide⟩ | exact Or.inr ⟨by decide, by decide⟩ | exact Or.inl ⟨by omega, by omega⟩ | rfl)
local macro_rules | `(tactic| walk_at "st1") => `(tactic| first
  | refine ⟨_, rfl, ?_⟩
  | refine ⟨_, _, rfl, rfl, ?_⟩
  | refine ⟨_, _, rfl, ?_⟩
  | (refine ⟨_, _, _, _, rfl, rfl, L2.SqL.of (by walk_at "hl"), rfl, ?_⟩)
  | (refine ⟨_, _, _, _, rfl, rfl, L2.SqT.of (by walk_at "hl"), rfl, ?_⟩)
  | (refine ⟨_, _, _, _, rfl, rfl, (by walk_at "hl"), rfl, ?_⟩)
  | (refine And.intro (by walk_at "sd") ?_)
  )
local macro_rules | `(tactic| walk_at "st") => `(tactic| repeat walk_at "st1")
local macro_rules | `(tactic| walk_at "op") => `(tactic| try dsimp only [L2.tSeq, L2.tAsg, L2.tOp, L2.tVar, L2.tC, L2.gSub, L2.rI, L2.rI0, L2.rIxL, L2.rIxT, L2.rSetL, L2.tIfS, L2.tTest, L2.tRet, L2.gName, L2.tNext, L2.tAnd, L2.tOr, L2.tNot, L2.tAndV, L2.tOrV, L2.tNotV, L2.tB, L2.tCB, L2.tCons, L2.tNil, L2.tCall, L2.tTup, L2.tLst, L2.tChain, L2.tUn, L2.tPar, L2.tDrop, L2.tIf, L2.tBM, L2.tBM0, L2.rAppend, L2.rCat, L2.rIsi, L2.rIsiT, L2.gTup, L2.gCons, L2.gNil, Fm.tFor_eq, Fm.tLc_eq, Fm.tLc2_eq, L2.iTup, L2.iList, L2.iRng1, L2.iRng2, L2.tSl, L2.tPart, L2.tNoPart, L2.rSlL, L2.rEq, L2.rNe, L2.rU, L2.rEqD, L2.rNeD, Fm.tRevT, Fm.rLenS, Fm.rTupOf, Fm.rLstOf, L2.tDNewK, L2.tCallS, L2.WE, Fm.wKeep, Fm.rIsK, Fm.rIsKT, List.cons_append, List.nil_append, L2.tYes])
namespace Fm
open PySem PySem.Spec PyProof.Rows L2
abbrev s_end_of : Stmt := top 37
abbrev N_end_of : List Str := ["house", "standing", "rows", "rising", "tables", "counts", "here", "many", "more"]
theorem sc_end_of : FnScope N_end_of ["house", "standing"] (defScope s_end_of) := ⟨rfl, rfl, rfl, by decide +kernel, rfl, by decide +kernel, by decide +kernel⟩
section
variable {P : Program} {w : World} {K : PySem.W.Frag} {mg : Str → Option Value} {base : Heap}
/-! ### the end -/
theorem tk_snoc {α : Type} {l : List α} {i : Nat} {x : α} (h : l[i]? = some x) : l.take (i + 1) = l.take i ++ [x] := by rw [List.take_add_one, h]; rfl
theorem e36 : (10 : Int) ^ 36 = 1000000000000000000000000000000000000 := by decide
theorem e40 : (10 : Int) ^ 40 = 10000000000000000000000000000000000000000 := by decide
theorem noList_ints' (r : List Int) : noList (rowD r) = true := noList_of fun e he => by
  obtain ⟨n, _, rfl⟩ := List.mem_map.mp he
  unfold noList
  rfl
theorem tabs_of {fs : List PyData} {m n : Nat} (hN : HouseN m n (.tuple fs)) (hgo : goLt fs m n) : FmC.Tabs n m (goN fs 0) (goN fs 1) := by
  obtain ⟨_, _, _, _, _, h1, _⟩ := id hN
  exact ⟨h1, fun f a b hf ha hb => goN_comm hN hf (by decide) ha hb, fun f a b hf ha hb => goN_comm hN hf (by decide) ha hb, fun f a b hf ha hb => hgo 0 (by decide) f hf a b ha hb, fun f a b hf ha hb => hgo 1 (by decide) f hf a b ha hb⟩
theorem stay_len {H : Hp} {ph : Addr} {fs : List PyData} {m n f : Nat} {ah af t0 t1 : Addr} {hs : List V} {S U : Nat → Nat → Nat} (hD : Dat H ph (.ref ah) (.tuple fs)) (hN : HouseN m n (.tuple fs)) (hf : f < n) (g1 : H ah = some (.tup hs)) (g3 : hs[f]? = some (V.ref af)) (hF : FloorAt H af m S U t0 t1) :
    ∃ ss : List V, H t0 = some (.tup ss) ∧ ss.length = m := by
  obtain ⟨fs', e, hl, _, _, _, _, hFl⟩ := id hN
  cases e
  have hfl : f < fs.length := by omega
  obtain ⟨sd, ud, e1, ⟨rs, e2, l2, _⟩, _⟩ := hFl fs[f] (List.getElem_mem hfl)
  subst e2
  obtain ⟨ah', hs', e', hah', _, hh⟩ := hD.isTup
  cases e'
  rw [g1] at hah'
  cases hah'
  obtain ⟨x, hx, hdx⟩ := hh.back (i := f) (d := fs[f]) (List.getElem?_eq_getElem _)
  rw [g3] at hx
  cases hx
  rw [e1] at hdx
  obtain ⟨af', ys, e3, haf, _, hy⟩ := hdx.isTup
  cases e3
  rw [hF.at_] at haf
  cases haf
  obtain ⟨s0, ss, e4, hs0, _, hss⟩ := (hy.2 0 _ _ rfl rfl).isTup
  cases e4
  exact ⟨ss, hs0, by rw [hss.1, l2]⟩
/-- what end_of tells: rows at rest to which a run leads -/
structure EndOf (fs : List PyData) (m n : Nat) (rows : List (List Int)) (out : Int) (rows' : List (List Int)) (out' : Int) : Prop where
  len : rows'.length = n
  row : ∀ r ∈ rows', r.length = m ∧ FmC.NN r ∧ r.sum ≤ 1
  pos : 0 ≤ out'
  run : FmC.Run n m (goN fs 0) (FmC.outU n (goN fs 1)) (FmC.stSt n rows out) (FmC.stSt n rows' out')
def spEndOf : Sp := fun vs H Q _ => ∃ (hv sv : V) (p ph : Addr) (u : HO) (fs : List PyData) (m n : Nat) (rows : List (List Int)) (out : Int), vs = [hv, sv] ∧ H p = some u ∧ Dat H ph hv (.tuple fs) ∧ HouseN m n (.tuple fs) ∧ FairH fs m n ∧ Dat H p sv (stD rows out) ∧ rows.length = n ∧ StOk m rows out ∧ (∀ r ∈ rows, r.sum < 10 ^ 36) ∧
  ∀ v H' rows' out', EndOf fs m n rows out rows' out' → Dat H' p v (stD rows' out') → Same H H' → Q v H'
theorem ok_end_of (D : Df K mg "end_of" s_end_of ["house", "standing"]) (T : Nms mg) (c_check_fair : CallOk P w K mg base (L2.CX P w) 8 "check_fair" ["house"] spLeast) (c_check_standing : CallOk P w K mg base (L2.CX P w) 7 "check_standing" ["house", "standing"] spCheck)
    (c_meet_all : CallOk P w K mg base CX0 1 "meet_all" ["tables", "here"] spMeetAll) : CallOk P w K mg base CX0 9 "end_of" ["house", "standing"] spEndOf := by
  refine df_ok D sc_end_of (fun vs H Q E h => ?_) (fun f cdv A outer s H vs Q E hr h => ?_)
  · obtain ⟨hv, sv, p, ph, u, fs, m, n, rows, out, rfl, _⟩ := h
    rfl
  · obtain ⟨hv, sv, p, ph, u, fs, m, n, rows, out, rfl, hp, hD, hN, hT, sD, hl, ok, hbig, k⟩ := h
    have nd := sc_end_of.nd
    have hmn : 1 ≤ n ∧ n ≤ 4 ∧ 1 ≤ m ∧ m ≤ 6 := by
      obtain ⟨_, _, _, z1, z2, z3, z4, _⟩ := hN
      exact ⟨z1, z2, z3, z4⟩
    have B := tabs_of hN (goLt_of hD hN)
    obtain ⟨sa, xs, rfl, hsa, nsp, hx⟩ := st_parts sD
    refine ⟨_, (pss_cons (ps_expr (pe_cx c_check_fair (hr.mono (by omega)) (pa_cons (pv 0) pa_nil)))
      (pss_cons (ps_expr (pe_cx c_check_standing (hr.mono (by omega)) (pa_cons (pv 0) (pa_cons (pv 1) pa_nil))))
      (pss_cons (ps_set (i := 2) nd rfl (Or.inl rfl) (pe_lst pa_nil))
      (pss_cons (ps_set (i := 3) nd rfl (Or.inl rfl) (pe_op op_rep (pe_lst (pa_cons pe_int pa_nil)) (pe_callB (r := rLenS K) call_lenS (by rfl) T.n_len (by decide +kernel) (pa_cons (pe_ix (r := rIxT K) ix_tup (pv 1) pe_int (fun _ _ => rfl)) pa_nil))))
      (pss_cons (ps_for PassesOwn.never rfl (RZ.pi_zipA (by rfl) T.n_zip (pa_cons (pv 0) (pa_cons (pe_slice (r := rSlA K) sl_tupA (pv 1) po_none (po_some (pe_un un_neg pe_int))) pa_nil))) (pg_tup rfl (pgs_cons (pg_name (i := 4) nd rfl (Or.inl rfl)) (pgs_cons (pg_name (i := 5) nd rfl (Or.inl rfl)) pgs_nil))) (pss_cons (ps_setLc (i := 6) (own := [("many", 7), ("more", 8)]) (g := (gTup K 2 (gCons (gName 7) (gCons (gName 8) gNil)))) (tt := tYes) (by rfl) nd rfl rfl (sw_true rfl rfl rfl (by decide +kernel)) (pi_zipTM (by rfl) T.n_zip (pa_cons (pv 5) (pa_cons (pv 3) pa_nil))) (blkOk_by (own := [("many", 7), ("more", 8)]) (N := N_end_of) (sc := defScope s_end_of) (by decide +kernel)) (fun _ _ _ _ _ => (pg_tup rfl (pgs_cons (pg_name (i := 7) nd rfl (Or.inl rfl)) (pgs_cons (pg_name (i := 8) nd rfl (Or.inl rfl)) pgs_nil)))) (fun _ _ _ _ _ => pts_nil) (fun _ _ _ _ _ => (pe_op op_add (pv 7) (pv 8))))
      (pss_cons (ps_set (i := 3) nd rfl (Or.inl rfl) (pe_cc c_meet_all (hr.mono (by omega)) (pa_cons (pv 4) (pa_cons (pv 6) pa_nil))))
      (pss_one (ps_expr (pe_bm PySem.F.plainAttrs_list PySem.F.slot_list_append PySem.F.type_list_append mt_append (pv 2) (pa_cons (pe_callTy (r := rTupOf K) call_tupOf (by rfl) T.n_tuple (by decide +kernel) (pa_cons (pv 6) pa_nil)) pa_nil)))))))
      (pss_one (ps_ret (pe_op (r := rCatA K) op_catA (pe_callTy (r := rTupOf K) call_tupOf (by rfl) T.n_tuple (by decide +kernel) (pa_cons (pv 2) pa_nil)) (pe_tup (pa_cons (pe_op op_add (pe_ix (r := rIxT K) ix_tup (pv 1) (pe_un un_neg pe_int) (fun _ _ => rfl)) (pe_callB (r := rSumI K) (cr_sumI rfl) (by rfl) T.n_sum (by decide +kernel) (pa_cons (pv 3) pa_nil))) pa_nil)))))))))), ?_⟩
    walk_at "op"
    refine ⟨_, rfl, hv, p, ph, u, fs, m, n, rfl, hp, hD, hN, hT, fun G0 s0 => ?_⟩
    refine ⟨_, rfl, _, rfl, hv, .ref sa, ph, p, .tuple fs, m, n, rows, out, rfl, hD.same s0, hN, sD.same s0, hl, ok, fun G1 s1 => ?_⟩
    have s01 := s0.trans s1
    obtain ⟨ah, hs, rfl, hah, _, hh⟩ := id hD.isTup
    have hhl : hs.length = n := by
      rw [hh.1]
      obtain ⟨_, e, z, _⟩ := hN
      cases e
      exact z
    have hxl : xs.length = n := by rw [hx.1, List.length_map, hl]
    have hr0 : rows[0]? = some (rows[0]'(by omega)) := List.getElem?_eq_getElem _
    obtain ⟨x0, hx0, hdx0⟩ := hx.back (i := 0) (d := rowD (rows[0]'(by omega))) (by rw [List.getElem?_map, hr0]; rfl)
    obtain ⟨c0, rfl, hc0, _⟩ := row_parts hdx0
    have hl0 : (rows[0]'(by omega)).length = m := ok.len _ (List.getElem_mem _)
    refine ⟨Nat.zero_le _, fun R0 hR0 => ⟨by show 1 ≤ sizeLine; decide, fun z0 hz0 => ?_⟩⟩
    have s2 : Same G1 (upd (upd G1 R0 (.lst [])) z0 (.lst [V.int 0])) := (same_new hR0).trans (same_new hz0)
    have s02 := s01.trans s2
    have hR0H := sameFree s01 hR0
    have nR0z : R0 ≠ z0 := ne_of_none upd_same hz0
    refine ⟨_, rfl, sa, xs ++ [.int out], 0, .ref c0, rfl, rfl, SqT.of (s02 _ _ hsa), atI_nat (j := 0) (by rw [List.getElem?_append_left (by omega)]; exact hx0), c0, _, rfl, .inr (SqT.of (s02 _ _ hc0)), z0, _, _, rfl, rfl, upd_same, by omega, by rw [List.length_map, hl0]; omega, by rw [sizeLine_eq, List.length_map, hl0]; show 1 * _ ≤ _; omega, fun R1 hR1 => ?_⟩
    rw [List.length_map, hl0, rep_zero]
    have nR01 : R0 ≠ R1 := ne_of_none (by rw [upd_ne nR0z]; exact upd_same) hR1
    have s3 := s02.trans (same_new (o := .lst ((List.replicate m (0 : Int)).map V.int)) hR1)
    have hRR0 : upd (upd (upd G1 R0 (.lst [])) z0 (.lst [V.int 0])) R1 (.lst ((List.replicate m (0 : Int)).map V.int)) R0 = some (.lst []) := by rw [upd_ne nR01, upd_ne nR0z]; exact upd_same
    have hRR1 : upd (upd (upd G1 R0 (.lst [])) z0 (.lst [V.int 0])) R1 (.lst ((List.replicate m (0 : Int)).map V.int)) R1 = some (.lst ((List.replicate m (0 : Int)).map V.int)) := upd_same
    generalize upd (upd (upd G1 R0 (.lst [])) z0 (.lst [V.int 0])) R1 (.lst ((List.replicate m (0 : Int)).map V.int)) = G2 at *
    walk_at "op"
    walk_at "st"
    refine sl_init (SqT.of (s3 _ _ hsa)) fun q hq => ?_
    have sq := same_new (o := .tup xs) hq
    have nqR0 : q ≠ R0 := (ne_of_none hRR0 hq).symm
    have hqH := sameFree s3 hq
    have s4 := s3.trans sq
    have hqq : upd G2 q (.tup xs) q = some (.tup xs) := upd_same
    have hRR0 := sq _ _ hRR0
    have hRR1 := sq _ _ hRR1
    generalize upd G2 q (.tup xs) = G3 at *
    refine ⟨ah, q, hs, xs, rfl, .inr ⟨SqT.of (s4 _ _ hah), SqT.of hqq, ?_⟩⟩
    have z0 : ∀ k, (List.replicate k (0 : Int)).sum = 0 := fun k => by
      induction k with
      | zero => rfl
      | succ k ih => rw [List.replicate_succ, List.sum_cons, ih]; rfl
    refine fI (walk_zipT (by rw [hhl, hxl])) (fun i σ G => ∃ (u4 u5 u6 : Option V) (Rr : Addr) (tws : List V) (told : List (List Int)) (r : List Int), σ = [some (.ref ah), some (.ref sa), some (.ref R0), some (.ref Rr), u4, u5, u6, none, none] ∧ Same H G ∧ G q = some (.tup xs) ∧ G R0 = some (.lst tws) ∧ Dats G p tws (told.map rowD) ∧ told.length = i ∧ G Rr = some (.lst (r.map V.int)) ∧ Rr ≠ R0 ∧ r.length = m ∧ FmC.NN r ∧ r.sum ≤ i * 10 ^ 36 ∧
        (∀ t ∈ told, t.length = m ∧ FmC.NN t ∧ t.sum ≤ 1) ∧ FmC.Run n m (goN fs 0) (FmC.outU n (goN fs 1)) (FmC.stSt n rows out) (FmC.curSt n rows out i told r))
      ⟨none, none, none, R1, [], [], List.replicate m 0, rfl, s4, hqq, hRR0, Dats.nil, rfl, hRR1, nR01.symm, List.length_replicate, fun x hx => by rw [List.eq_of_mem_replicate hx]; exact Int.le_refl _, by rw [z0]; omega, fun t ht => (by cases ht), by rw [FmC.cur_start rows out hmn.1]; exact .nil _⟩
      (fun i σ G _ ⟨_, _, _, _, _, _, _, _, e, e2, _⟩ => ⟨SqT.of (e _ _ hah), SqT.of e2⟩) ?_ ?_
    · rintro i x σ G4 _ hi ⟨u4, u5, u6, Rr, tws, told, r, rfl, sH, hq4, hR04, hdt, htl, hRr, nRr, hrl, hrn, hrs, htold, hrun⟩ ⟨T1, y1, y2, rfl, hT1, rfl, g1, g2⟩
      dsimp only at g1 g2
      rw [hhl] at hi
      obtain ⟨ah', af, hs', t0, t1, e', gg1, gg2, gg3, hF⟩ := floor_at hD hN hi
      cases e'
      rw [hah] at gg1
      cases gg1
      rw [gg3] at g1
      cases g1
      obtain ⟨ss, hss, hsl⟩ := stay_len hD hN hi hah gg3 hF
      have hri : rows[i]? = some (rows[i]'(by omega)) := List.getElem?_eq_getElem _
      obtain ⟨d, hd1, hd2⟩ := hx.at g2
      rw [List.getElem?_map, hri] at hd1
      cases hd1
      obtain ⟨cb, rfl, hcb, _⟩ := row_parts hd2
      have hcm : rows[i]'(by omega) ∈ rows := List.getElem_mem _
      have hcl := ok.len _ hcm
      have hcn : FmC.NN (rows[i]'(by omega)) := ok.pos _ hcm
      have hcs := hbig _ hcm
      generalize rows[i]'(by omega) = c at *
      have sT := same_new (o := .tup [V.ref af, .ref cb]) hT1
      refine ⟨T1, _, rfl, SqT.of upd_same, rfl, _, _, rfl, _, _, rfl, rfl, ?_⟩
      have sHT := sH.trans sT
      have hq5 := sT _ _ hq4
      have hR05 := sT _ _ hR04
      have hRr5 := sT _ _ hRr
      have hdt5 : Dats (upd G4 T1 (.tup [V.ref af, .ref cb])) p tws (told.map rowD) := hdt.off hT1
      generalize upd G4 T1 (.tup [V.ref af, .ref cb]) = G5 at *
      have hlen : (c.map V.int).length = (r.map V.int).length := by rw [List.length_map, List.length_map, hcl, hrl]
      have hal := FmC.addR_len hcl hrl
      walk_at "op"
      refine ⟨_, rfl, _, rfl, cb, Rr, c.map V.int, r.map V.int, rfl, SqT.of (sHT _ _ hcb), SqL.of hRr5, fun Hr hHr => ?_⟩
      refine lI (walk_zipTM hlen) (fun j G6 => Same G5 G6 ∧ G6 Hr = some (.lst (((FmC.addR c r).take j).map V.int))) ⟨same_new hHr, upd_same⟩ (fun j G6 _ ⟨e, _⟩ => ⟨SqT.of (e _ _ (sHT _ _ hcb)), SqL.of (e _ _ hRr5)⟩) ?_ ?_
      · rintro j x G6 _ hj ⟨s6, hH6⟩ ⟨T2, w1, w2, rfl, hT2, rfl, k1, k2⟩
        dsimp only at k1 k2
        have hjc : j < c.length := by rw [List.length_map] at hj; exact hj
        rw [getD_at hjc] at k1
        cases k1
        rw [getD_at (by omega)] at k2
        cases k2
        have nHT : Hr ≠ T2 := ne_of_none hH6 hT2
        have hga : (FmC.addR c r)[j]? = some (c.getD j 0 + r.getD j 0) := by
          have := FmC.addR_get (by omega : c.length = r.length) j
          rw [← this, List.getD_eq_getElem?_getD, List.getElem?_eq_getElem (by omega)]
          rfl
        walk_at "op"
        refine ⟨T2, _, rfl, SqT.of upd_same, rfl, _, _, rfl, _, _, rfl, rfl, ?_⟩
        refine ⟨rfl, ?_⟩
        refine iteT ?_
        refine ⟨_, rfl, _, rfl, _, _, rfl, rfl, _, by rw [upd_ne nHT]; exact hH6, by rw [List.length_map, List.length_take]; exact Nat.lt_of_le_of_lt (Nat.min_le_left _ _) (by rw [sizeLine_eq]; omega), sameOff (s6.trans (same_new hT2)) hHr, ?_⟩
        rw [upd_same, tk_snoc hga, List.map_append]
        rfl
      · rintro G6 ⟨s6, hH6⟩
        rw [List.length_map, hcl, ← hal, List.take_length] at hH6
        have sH6 := sHT.trans s6
        have hHrH := sameFree sHT hHr
        walk_at "op"
        refine ⟨_, rfl, _, rfl, af, t0, t1, Hr, ss, n, m, i, goN fs 0, goN fs 1, FmC.addR c r, rfl, hF.same sH6, sH6 _ _ hss, hsl, hi, B, hmn.2.2.2, hH6, hal, FmC.addR_nn hcn hrn, ?_, fun R' c' r' G7 M hc1 hR' hL7 hR7 x7 => ?_⟩
        · rw [FmC.addR_sum (by omega), e40]
          rw [e36] at hrs hcs
          omega
        · have s57 : Same G5 G7 := fun b u eb => x7 b u (s6 b u eb) (ne_of_none eb hHr)
          have sH7 := sHT.trans s57
          have hR07 := s57 _ _ hR05
          have hq7 := s57 _ _ hq5
          have hR'5 := sameFree s6 hR'
          have nR'0 : R' ≠ R0 := (ne_of_none hR05 hR'5).symm
          have hdt7 : Dats G7 p tws (told.map rowD) := ⟨hdt5.1, fun i x d a b => (hdt5.2 i x d a b).same s57⟩
          refine ⟨_, rfl, .inl ⟨rfl, _, SqL.of hR07⟩, _, rfl, Hr, c'.map V.int, rfl, .inl ⟨SqL.of hL7, fun l hl => ?_⟩⟩
          have sl := same_new (o := .tup (c'.map V.int)) hl
          have hR08 := sl _ _ hR07
          have hlt : tws.length ≤ 4 := by
            rw [hdt5.1, List.length_map]
            omega
          refine ⟨R0, tws, .ref l, rfl, rfl, hR08, Nat.lt_of_le_of_lt hlt (by rw [sizeLine_eq]; omega), ?_⟩
          have nqR : q ≠ R0 := nqR0
          have hs := M.sum
          rw [FmC.addR_sum (by omega)] at hs
          have hc0 := M.cn.sum
          refine ⟨_, _, _, R', tws ++ [.ref l], told ++ [c'], r', rfl, sameOff (sH7.trans sl) hR0H, by rw [upd_ne nqR]; exact sl _ _ hq7, upd_same, ?_, by rw [List.length_append, htl]; rfl, by rw [upd_ne nR'0]; exact sl _ _ hR7, nR'0, M.rl, M.rn, ?_, fun t ht => ?_, hrun.trans (FmC.cur_step hi hri hcl hrl hcn hrn htl M)⟩
          · rw [List.map_append]
            refine ((hdt7.off hl).setL hR08 (fun d hd => by obtain ⟨r, _, rfl⟩ := List.mem_map.mp hd; exact noList_ints' r)).snoc (Dat.setL hR08 (.tup upd_same (pne_of hp sH7 hl) (by rw [List.length_map, List.length_map]) fun i x d a b => (Dats.ints (p := p) c').2 i x d a b) (noList_ints' c'))
          · rw [e36] at hrs hcs ⊢
            omega
          · rcases List.mem_append.mp ht with ht | ht
            · exact htold t ht
            · rw [List.mem_singleton.mp ht]
              exact ⟨M.cl, M.cn, hc1⟩
    · rintro σ G4 ⟨u4, u5, u6, Rr, tws, told, r, rfl, sH, hq4, hR04, hdt, htl, hRr, nRr, hrl, hrn, hrs, htold, hrun⟩
      rw [hhl] at htl hrun
      walk_at "op"
      have hlt : tws.length = n := by rw [hdt.1, List.length_map, htl]
      refine ⟨_, rfl, R0, tws, rfl, .inl ⟨SqL.of hR04, fun t1 ht1 => ?_⟩⟩
      have st1 := same_new (o := .tup tws) ht1
      refine ⟨_, rfl, 1, rfl, sa, _, _, _, rfl, rfl, SqT.of ((sH.trans st1) _ _ hsa), atI_last (by omega), _, rfl, .inl ⟨Rr, r, rfl, SqL.of (st1 _ _ hRr), ?_⟩⟩
      refine ⟨_, _, rfl, rfl, by show 1 ≤ sizeLine; decide, fun t2 ht2 => ?_⟩
      have n12 : t1 ≠ t2 := ne_of_none upd_same ht2
      have s6 : Same H (upd (upd G4 t1 (.tup tws)) t2 (.tup [.int (out + r.sum)])) := (sH.trans st1).trans (same_new ht2)
      refine ⟨t1, t2, tws, _, rfl, rfl, SqT.of (by rw [upd_ne n12]; exact upd_same), SqT.of upd_same, Nat.le_of_lt (Nat.lt_of_le_of_lt (show tws.length + 1 ≤ 5 by omega) (by rw [sizeLine_eq]; omega)), fun e => ?_, fun _ e => (by cases e), fun _ _ w hw => ?_⟩
      · rw [e] at hlt
        have : ([] : List V).length = 0 := rfl
        omega
      · refine k _ _ told (out + r.sum) ⟨htl, htold, ?_, ?_⟩ ?_ (s6.trans (same_new hw))
        · have := hrn.sum
          have := ok.out
          omega
        · rw [← FmC.cur_end hrn ok.out]
          exact hrun
        · exact Dat.new hw (pne_of hp s6 hw) (((hdt.off ht1).off ht2).snoc (.int _))
end
end Fm
end FEO
section FAK
set_option Elab.async false
set_option linter.all false
set_option maxRecDepth 100000
set_option maxHeartbeats 4000000
local macro_rules | `(tactic| walk_at "ne") => `(tactic| first | assumption | (apply Ne.symm; assumption) | exact L2.ne_of_none (by assumption) (by assumption) | exact Ne.symm (L2.ne_of_none (by assumption) (by assumption)))
local macro_rules | `(tactic| walk_at "hl") => `(tactic| first | assumption | exact L2.upd_same | (refine Eq.trans (L2.upd_ne (by walk_at "ne")) ?_; walk_at "hl"))
local macro_rules | `(tactic| walk_at "sd") => `(tactic| first | (with_reducible show (_ : Int) < _; omega) | (with_reducible show (_ : Int) ≤ _; omega) | assumption | decide | exact ⟨by assumption, by assumption⟩ | exact ⟨by decide, by decide⟩ | exact Or.inr ⟨by decide, by decide⟩ | exact Or.inl ⟨by omega, by omega⟩ | rfl)
local macro_rules | `(tactic| walk_at "st1") => `(tactic| first
  | refine ⟨_, rfl, ?_⟩
  | refine ⟨_, _, rfl, rfl, ?_⟩
  | refine ⟨_, _, rfl, ?_⟩
  | (refine ⟨_, _, _, _, rfl, rfl, L2.SqL.of (by walk_at "hl"), rfl, ?_⟩)
  | (refine ⟨_, _, _, _, rfl, rfl, L2.SqT.of (by walk_at "hl"), rfl, ?_⟩)
  | (refine ⟨_, _, _, _, rfl, rfl, (by walk_at "hl"), rfl, ?_⟩)
  | (refine And.intro (by walk_at "sd") ?_)
  )
local macro_rules | `(tactic| walk_at "st") => `(tactic| repeat walk_at "st1")
local macro_rules | `(tactic| walk_at "op") => `(tactic| try dsimp only [L2.tSeq, L2.tAsg, L2.tOp, L2.tVar, L2.tC, L2.gSub, L2.rI, L2.rI0, L2.rIxL, L2.rIxT, L2.rSetL, L2.tIfS, L2.tTest, L2.tRet, L2.gName, L2.tNext, L2.tAnd, L2.tOr, L2.tNot, L2.tAndV, L2.tOrV, L2.tNotV, L2.tB, L2.tCB, L2.tCons, L2.tNil, L2.tCall, L2.tTup, L2.tLst, L2.tChain, L2.tUn, L2.tPar, L2.tDrop, L2.tIf, L2.tBM, L2.tBM0, L2.rAppend, L2.rCat, L2.rIsi, L2.rIsiT, L2.gTup, L2.gCons, L2.gNil, Fm.tFor_eq, Fm.tLc_eq, Fm.tLc2_eq, L2.iTup, L2.iList, L2.iRng1, L2.iRng2, L2.tSl, L2.tPart, L2.tNoPart, L2.rSlL, L2.rEq, L2.rNe, L2.rU, L2.rEqD, L2.rNeD, Fm.tRevT, Fm.rLenS, Fm.rTupOf, Fm.rLstOf, L2.tDNewK, L2.tCallS, L2.WE, Fm.wKeep, Fm.rIsK, Fm.rIsKT, List.cons_append, List.nil_append, L2.tYes])
namespace Fm
open PySem PySem.Spec PyProof.Rows L2
abbrev s_is_alike_alone : Stmt := top 27
abbrev N_is_alike_alone : List Str := ["tables", "three", "told", "order", "rest", "one", "other"]
theorem sc_is_alike_alone : FnScope N_is_alike_alone ["tables", "three"] (defScope s_is_alike_alone) := ⟨rfl, rfl, rfl, by decide +kernel, rfl, by decide +kernel, by decide +kernel⟩
abbrev s_kind_of : Stmt := top 26
abbrev N_kind_of : List Str := ["house", "floor", "every_three", "told", "three"]
theorem sc_kind_of : FnScope N_kind_of ["house", "floor", "every_three"] (defScope s_kind_of) := ⟨rfl, rfl, rfl, by decide +kernel, rfl, by decide +kernel, by decide +kernel⟩
abbrev s_floor_kinds : Stmt := top 25
abbrev N_floor_kinds : List Str := ["house", "m", "floors", "floor"]
theorem sc_floor_kinds : FnScope N_floor_kinds ["house"] (defScope s_floor_kinds) := ⟨rfl, rfl, rfl, by decide +kernel, rfl, by decide +kernel, by decide +kernel⟩
abbrev s_check_sure : Stmt := top 39
abbrev N_check_sure : List Str := ["house", "kind"]
theorem sc_check_sure : FnScope N_check_sure ["house"] (defScope s_check_sure) := ⟨rfl, rfl, rfl, by decide +kernel, rfl, by decide +kernel, by decide +kernel⟩
section
variable {P : Program} {w : World} {K : PySem.W.Frag} {mg : Str → Option Value} {base : Heap}
/-! ### floors that stand by themselves -/
theorem ords_lt {m : Nat} {y o : Nat × Nat × Nat} (y1 : y.1 < m) (y2 : y.2.1 < m) (y3 : y.2.2 < m) (ho : o ∈ ords y) : o.1 < m ∧ o.2.1 < m ∧ o.2.2 < m := by
  unfold ords at ho
  simp only [List.mem_cons, List.not_mem_nil, or_false] at ho
  rcases ho with rfl | rfl | rfl
  · exact ⟨y1, y2, y3⟩
  · exact ⟨y1, y3, y2⟩
  · exact ⟨y2, y3, y1⟩
theorem ne_nq {H : Hp} {a b : Addr} {u : HO} (h : H a = none) (k : H b = some u) : a ≠ b := fun z => by rw [z, k] at h; cases h
theorem shaped_of {d : PyData} {k : Nat} (h : d.canLay0 = true ∧ d.depth ≤ k) (hk : k ≤ 64) : SeqAt.shaped d = true := by
  unfold SeqAt.shaped
  rw [h.1, Bool.true_and, decide_eq_true_iff]
  omega
def oLast (y : Nat × Nat × Nat) : Nat → Nat × Nat × Nat
  | 0 => (y.2.1, y.2.2, y.1)
  | 1 => (y.1, y.2.2, y.2.1)
  | _ => (y.1, y.2.1, y.2.2)
def lo3 (S U : Nat → Nat → Nat) (o : Nat × Nat × Nat) : Nat × Nat × Nat := (S (S o.1 o.2.1) o.2.2, min (U o.1 o.2.1) (U (S o.1 o.2.1) o.2.2), max (U o.1 o.2.1) (U (S o.1 o.2.1) o.2.2))
def Alk (S U : Nat → Nat → Nat) (y : Nat × Nat × Nat) : Prop := lo3 S U (oLast y 1) = lo3 S U (oLast y 0) ∧ lo3 S U (oLast y 2) = lo3 S U (oLast y 0)
instance (S U : Nat → Nat → Nat) (y : Nat × Nat × Nat) : Decidable (Alk S U y) := by unfold Alk; infer_instance
theorem alk_iff (S U : Nat → Nat → Nat) (y : Nat × Nat × Nat) : (lo3 S U (y.1, y.2.1, y.2.2) = lo3 S U (y.1, y.2.2, y.2.1) ∧ lo3 S U (y.1, y.2.2, y.2.1) = lo3 S U (y.2.1, y.2.2, y.1)) ↔ Alk S U y := by
  unfold Alk oLast
  exact ⟨fun ⟨a, b⟩ => ⟨b, a.trans b⟩, fun ⟨a, b⟩ => ⟨b.trans a.symm, a⟩⟩
theorem eqv_tri (x z : Nat × Nat × Nat) : PyData.eqv (triD x) (triD z) = decide (x = z) := by
  obtain ⟨a, b, c⟩ := x
  obtain ⟨a', b', c'⟩ := z
  unfold triD
  simp only [PyData.eqv, PyData.eqvAll, Bool.and_true]
  by_cases h1 : a = a'
  · subst h1
    by_cases h2 : b = b'
    · subst h2
      by_cases h3 : c = c'
      · subst h3
        simp
      · have : ¬ (c : Int) = (c' : Int) := by omega
        simp [h3, this]
    · have : ¬ (b : Int) = (b' : Int) := by omega
      simp [h2, this]
  · have : ¬ (a : Int) = (a' : Int) := by omega
    simp [h1, this]
theorem tri_shape (x : Nat × Nat × Nat) : SeqAt.shaped (triD x) = true ∧ (triD x).hasDict = false := by
  refine ⟨?_, ?_⟩
  · exact shaped_of (k := 1) (by unfold triD; simp [PyData.canLay0, PyData.canLayAll0, PyData.depth, PyData.depthAll]) (by decide)
  · unfold triD
    simp [PyData.hasDict, PyData.hasDictAll]
theorem min_cast3 (a b : Nat) : (if ((b : Nat) : Int) < ((a : Nat) : Int) then ((b : Nat) : Int) else ((a : Nat) : Int)) = ((min a b : Nat) : Int) := by
  by_cases z : b < a
  · rw [if_pos (by omega), Nat.min_eq_right (by omega)]
  · rw [if_neg (by omega), Nat.min_eq_left (by omega)]
theorem max_cast3 (a b : Nat) : (if ((a : Nat) : Int) < ((b : Nat) : Int) then ((b : Nat) : Int) else ((a : Nat) : Int)) = ((max a b : Nat) : Int) := by
  by_cases z : a < b
  · rw [if_pos (by omega), Nat.max_eq_right (by omega)]
  · rw [if_neg (by omega), Nat.max_eq_left (by omega)]
def spAlike : Sp := fun vs H Q _ => ∃ (af t0 t1 : Addr) (tv : V) (p : Addr) (u : HO) (m : Nat) (S U : Nat → Nat → Nat) (y : Nat × Nat × Nat), vs = [.ref af, tv] ∧ H p = some u ∧ FloorAt H af m S U t0 t1 ∧ Dat H p tv (triD y) ∧ y.1 < m ∧ y.2.1 < m ∧ y.2.2 < m ∧ ∀ H', Same H H' → Q (.bl (decide (Alk S U y))) H'
theorem ok_is_alike_alone (D : Df K mg "is_alike_alone" s_is_alike_alone ["tables", "three"]) (T : Nms mg) (c_orders : CallOk P w K mg base CX0 1 "orders" ["three"] spOrders) (c_left_of_three : CallOk P w K mg base CX0 1 "left_of_three" ["tables", "order"] spLeft) : CallOk P w K mg base CX0 2 "is_alike_alone" ["tables", "three"] spAlike := by
  refine df_ok D sc_is_alike_alone (fun vs H Q E h => ?_) (fun f cdv A outer s H vs Q E hr h => ?_)
  · obtain ⟨af, t0, t1, tv, p, u, m, S, U, y, rfl, _⟩ := h
    rfl
  · obtain ⟨af, t0, t1, tv, p, u, m, S, U, y, rfl, hp, hF, hy, y1, y2, y3, k⟩ := h
    have nd := sc_is_alike_alone.nd
    refine ⟨_, (pss_cons (ps_set (i := 2) nd rfl (Or.inl rfl) (pe_lst pa_nil))
      (pss_cons (ps_for PassesOwn.never rfl (pi_tup (pe_cc c_orders (hr.mono (by omega)) (pa_cons (pv 1) pa_nil))) (pg_name (i := 3) nd rfl (Or.inl rfl)) (pss_cons (ps_asg (pe_cc c_left_of_three (hr.mono (by omega)) (pa_cons (pv 0) (pa_cons (pv 3) pa_nil))) (pg_tup rfl (pgs_cons (pg_name (i := 4) nd rfl (Or.inl rfl)) (pgs_cons (pg_name (i := 5) nd rfl (Or.inl rfl)) (pgs_cons (pg_name (i := 6) nd rfl (Or.inl rfl)) pgs_nil)))))
      (pss_one (ps_expr (pe_bm PySem.F.plainAttrs_list PySem.F.slot_list_append PySem.F.type_list_append mt_append (pv 2) (pa_cons (pe_tup (pa_cons (pv 4) (pa_cons (pe_callB (call_min2 rfl) (by rfl) T.n_min (by decide +kernel) (pa_cons (pv 5) (pa_cons (pv 6) pa_nil))) (pa_cons (pe_callB (call_max2 rfl) (by rfl) T.n_max (by decide +kernel) (pa_cons (pv 5) (pa_cons (pv 6) pa_nil))) pa_nil)))) pa_nil))))))
      (pss_one (ps_ret (pe_chain (r := rEqD K) (op_eqD hr.units) (r' := rEqD K) (op_eqD hr.units) (pe_ix (r := rIxL K) ix_list (pv 2) pe_int (fun _ _ => rfl)) (pe_ix (r := rIxL K) ix_list (pv 2) pe_int (fun _ _ => rfl)) (pe_ix (r := rIxL K) ix_list (pv 2) pe_int (fun _ _ => rfl))))))), ?_⟩
    walk_at "op"
    have hst : L2.start N_is_alike_alone [V.ref af, tv] = [some (V.ref af), some tv, none, none, none, none, none] := rfl
    rw [hst]
    refine ⟨Nat.zero_le _, fun L hL => ?_⟩
    have nLp : L ≠ p := ne_nq hL hp
    have sL := same_new (o := .lst []) hL
    have hL1 : upd H L (.lst []) L = some (.lst []) := upd_same
    generalize upd H L (.lst []) = H1 at *
    try dsimp only [List.set]
    refine ⟨_, rfl, tv, p, u, y, rfl, sL _ _ hp, hy.same sL, fun ov G1 hov s1 => ?_⟩
    obtain ⟨oa, oxs, rfl, hoa, noa, hos⟩ := hov.isTup
    refine ⟨oa, rfl, ⟨_, SqT.of hoa⟩, ?_⟩
    have hol : oxs.length = 3 := by rw [hos.1]; rfl
    have sH1 := sL.trans s1
    have hL2 := s1 _ _ hL1
    have nLo : L ≠ oa := fun z => by rw [z, hoa] at hL2; cases hL2
    refine fI walk_tup (fun i σ G => Same H G ∧ G oa = some (.tup oxs) ∧ Dats G p oxs ((ords y).map triD) ∧ (∃ ts, G L = some (.lst ts) ∧ Dats G p ts (((ords y).take i).map fun o => triD (lo3 S U o))) ∧ ∃ u3 u4 u5 u6, σ = [some (V.ref af), some tv, some (V.ref L), u3, u4, u5, u6]) ⟨sH1, hoa, hos, ⟨[], hL2, Dats.nil⟩, _, _, _, _, rfl⟩ (fun i σ G _ ⟨_, e, _⟩ => SqT.of e) ?_ ?_
    · rintro i x σ _ G hi ⟨sG, hoG, hosG, ⟨ts, hts, hT⟩, u3, u4, u5, u6, rfl⟩ ⟨rfl, hxi⟩
      have hio : i < (ords y).length := by
        have : (ords y).length = 3 := rfl
        omega
      have hgi : (ords y)[i]? = some (ords y)[i] := List.getElem?_eq_getElem hio
      have hx := hosG.2 i x (triD (ords y)[i]) hxi (by rw [List.getElem?_map, hgi]; rfl)
      have htk : (ords y).take (i + 1) = (ords y).take i ++ [(ords y)[i]] := by rw [List.take_add_one, hgi]; rfl
      obtain ⟨o1, o2, o3⟩ := ords_lt y1 y2 y3 (List.getElem_mem hio)
      generalize (ords y)[i] = o at *
      walk_at "op"
      refine ⟨_, rfl, _, rfl, af, t0, t1, x, p, m, S, U, o, rfl, hF.same sG, hx, o1, o2, o3, fun q G2 hq hq' s2 => ?_⟩
      refine ⟨q, _, rfl, SqT.of hq', rfl, _, _, rfl, _, _, rfl, _, _, rfl, rfl, ?_⟩
      try dsimp only [List.set]
      have hts2 := s2 _ _ hts
      refine ⟨_, rfl, .inl ⟨rfl, _, SqL.of hts2⟩, ?_⟩
      refine ⟨_, rfl, _, rfl, _, rfl, _, _, rfl, _, rfl, _, rfl, _, _, rfl, ?_⟩
      rw [min_cast3, max_cast3]
      refine ⟨by show 3 ≤ sizeLine; decide, fun t ht => ?_⟩
      have st := same_new (o := .tup [V.int ((S (S o.1 o.2.1) o.2.2 : Nat) : Int), V.int ((min (U o.1 o.2.1) (U (S o.1 o.2.1) o.2.2) : Nat) : Int), V.int ((max (U o.1 o.2.1) (U (S o.1 o.2.1) o.2.2) : Nat) : Int)]) ht
      have ntp : t ≠ p := ne_nq ht (s2 _ _ (sG _ _ hp))
      have dt : Dat (upd G2 t (.tup [V.int ((S (S o.1 o.2.1) o.2.2 : Nat) : Int), V.int ((min (U o.1 o.2.1) (U (S o.1 o.2.1) o.2.2) : Nat) : Int), V.int ((max (U o.1 o.2.1) (U (S o.1 o.2.1) o.2.2) : Nat) : Int)])) p (.ref t) (triD (lo3 S U o)) := Dat.new ht ntp (Dats.cons (.int _) (Dats.cons (.int _) (Dats.cons (.int _) Dats.nil)))
      have s2t := s2.trans st
      have hts3 := st _ _ hts2
      have tno : ∀ l : List (Nat × Nat × Nat), ∀ d ∈ l.map triD, noList d = true := tris_no
      have tno2 : ∀ d ∈ (((ords y).take i).map fun o => triD (lo3 S U o)), noList d = true := fun d hd => by
        obtain ⟨z, _, rfl⟩ := List.mem_map.mp hd
        exact triD_no _
      refine ⟨L, ts, .ref t, rfl, rfl, hts3, small1000 (by rw [hT.1, List.length_map]; exact Nat.le_trans (List.length_take_le' _ _) (show 3 ≤ 1000 by decide)), ?_⟩
      refine ⟨sameOff (sG.trans s2t) hL, by rw [upd_ne nLo.symm]; exact s2t _ _ hoG, (Dats.setL hts3 ⟨hosG.1, fun i x d a b => (hosG.2 i x d a b).same s2t⟩ (tno _)), ⟨ts ++ [.ref t], upd_same, ?_⟩, _, _, _, _, rfl⟩
      rw [htk, List.map_append]
      exact (Dats.setL hts3 ⟨hT.1, fun i x d a b => (hT.2 i x d a b).same s2t⟩ tno2).snoc (dt.setL hts3 (triD_no _))
    · rintro σ G ⟨sG, hoG, hosG, ⟨ts, hts, hT⟩, u3, u4, u5, u6, rfl⟩
      rw [hol, show (ords y).take 3 = ords y from rfl] at hT
      obtain ⟨w0, h0, d0⟩ := hT.back (i := 0) rfl
      obtain ⟨w1, h1, d1⟩ := hT.back (i := 1) rfl
      obtain ⟨w2, h2, d2⟩ := hT.back (i := 2) rfl
      walk_at "op"
      refine ⟨_, rfl, L, ts, 0, _, rfl, rfl, SqL.of hts, atI_nat (j := 0) h0, _, rfl, L, ts, 1, _, rfl, rfl, SqL.of hts, atI_nat (j := 1) h1, _, _, d0.dp (tri_shape _).2, d1.dp (tri_shape _).2, (tri_shape _).1, (tri_shape _).1, ?_⟩
      rw [eqv_tri]
      have hk := k G sG
      by_cases e1 : lo3 S U (y.1, y.2.1, y.2.2) = lo3 S U (y.1, y.2.2, y.2.1)
      · refine ⟨true, by rw [decide_eq_true e1], iteT ?_⟩
        refine ⟨_, rfl, L, ts, 2, _, rfl, rfl, SqL.of hts, atI_nat (j := 2) h2, _, _, d1.dp (tri_shape _).2, d2.dp (tri_shape _).2, (tri_shape _).1, (tri_shape _).1, ?_⟩
        rw [eqv_tri]
        have e : decide (lo3 S U (y.1, y.2.2, y.2.1) = lo3 S U (y.2.1, y.2.2, y.1)) = decide (Alk S U y) := by
          rw [Bool.eq_iff_iff, decide_eq_true_eq, decide_eq_true_eq]
          exact ⟨fun z => (alk_iff S U y).mp ⟨e1, z⟩, fun z => ((alk_iff S U y).mpr z).2⟩
        rw [e]
        exact hk
      · refine ⟨false, by rw [decide_eq_false e1], iteF ?_⟩
        rw [decide_eq_false (fun z => e1 ((alk_iff S U y).mpr z).1)] at hk
        exact hk
/-- each floor of the house stands by itself -/
def SureH (fs : List PyData) (m n : Nat) : Prop := ∀ f, f < n → FmC.Even m (goN fs 0 f) (goN fs 1 f)
theorem alk_of {m : Nat} {S U : Nat → Nat → Nat} (sc : ∀ a b, a < m → b < m → S a b = S b a) (sm : ∀ a b, a < m → b < m → S a b < m) (uc : ∀ a b, a < m → b < m → U a b = U b a) (hs : ∀ x y z, x < m → y < m → z < m → S (S x y) z = S (S x z) y) (hE : FmC.Even m S U) {y : Nat × Nat × Nat} (y1 : y.1 < m) (y2 : y.2.1 < m) (y3 : y.2.2 < m) : Alk S U y := by
  have key : ∀ a b c, a < m → b < m → c < m → lo3 S U (a, b, c) = lo3 S U (a, c, b) := fun a b c ha hb hc => by
    unfold lo3
    dsimp only
    rw [hs a b c ha hb hc]
    rcases hE a b c ha hb hc with ⟨e1, e2⟩ | ⟨e1, e2⟩
    · rw [e1, e2]
    · rw [e1, e2, Nat.min_comm, Nat.max_comm]
  have sw : ∀ a b c, a < m → b < m → lo3 S U (a, b, c) = lo3 S U (b, a, c) := fun a b c ha hb => by
    unfold lo3
    dsimp only
    rw [sc a b ha hb, uc a b ha hb]
  refine (alk_iff S U y).mp ⟨key _ _ _ y1 y2 y3, ?_⟩
  rw [sw _ _ _ y1 y3, key _ _ _ y3 y1 y2, sw _ _ _ y3 y2]
def spKind : Sp := fun vs H Q _ => ∃ (hv : V) (p ph : Addr) (u : HO) (fs : List PyData) (m n g : Nat) (q : Addr) (ws : List V), vs = [hv, .int (g : Nat), .ref q] ∧ H p = some u ∧ Dat H ph hv (.tuple fs) ∧ HouseN m n (.tuple fs) ∧ FairH fs m n ∧ SureH fs m n ∧ g < n ∧ H q = some (.lst ws) ∧ Dats H p ws ((thr m).map triD) ∧
  ∀ H', Same H H' → Q (.str ("stands" : Str)) H'
theorem ok_kind_of (D : Df K mg "kind_of" s_kind_of ["house", "floor", "every_three"]) (T : Nms mg) (c_is_parted : CallOk P w K mg base CX0 3 "is_parted" ["house", "floor", "three"] spParted) (c_is_alike_alone : CallOk P w K mg base CX0 2 "is_alike_alone" ["tables", "three"] spAlike) : CallOk P w K mg base CX0 4 "kind_of" ["house", "floor", "every_three"] spKind := by
  refine df_ok D sc_kind_of (fun vs H Q E h => ?_) (fun f cdv A outer s H vs Q E hr h => ?_)
  · obtain ⟨hv, p, ph, u, fs, m, n, g, q, ws, rfl, _⟩ := h
    rfl
  · obtain ⟨hv, p, ph, u, fs, m, n, g, q, ws, rfl, hp, hD, hN, hT, hSu, hg, hq, hW, k⟩ := h
    have nd := sc_kind_of.nd
    have B := tabs_of hN (goLt_of hD hN)
    obtain ⟨ah, afg, hs, tg0, tg1, rfl, k1, _, k3, hFg⟩ := floor_at hD hN hg
    refine ⟨_, (pss_cons (ps_set (i := 3) nd rfl (Or.inl rfl) pe_str)
      (pss_cons (ps_for PassesOwn.never rfl (pi_list (pv 2)) (pg_name (i := 4) nd rfl (Or.inl rfl)) (pss_cons (ps_if (pt_val (pe_cc c_is_parted (hr.mono (by omega)) (pa_cons (pv 0) (pa_cons (pv 1) (pa_cons (pv 4) pa_nil))))) (pss_one (ps_ret pe_str)) pss_nil)
      (pss_one (ps_if (pt_not (pt_val (pe_cc c_is_alike_alone (hr.mono (by omega)) (pa_cons (pe_ix (r := rIxT K) ix_tup (pv 0) (pv 1) (fun _ _ => rfl)) (pa_cons (pv 4) pa_nil))))) (pss_one (ps_set (i := 3) nd rfl (Or.inl rfl) pe_str)) pss_nil))))
      (pss_one (ps_ret (pv 3))))), ?_⟩
    walk_at "op"
    have hst : L2.start N_kind_of [V.ref ah, V.int (g : Nat), V.ref q] = [some (V.ref ah), some (V.int (g : Nat)), some (V.ref q), none, none] := rfl
    rw [hst]
    refine ⟨_, rfl, q, rfl, ⟨_, SqL.of hq⟩, ?_⟩
    try dsimp only [List.set]
    have hwl : ws.length = (thr m).length := by rw [hW.1, List.length_map]
    refine fI walk_list (fun i σ G => Same H G ∧ ∃ u4, σ = [some (V.ref ah), some (V.int (g : Nat)), some (V.ref q), some (V.str ("stands" : Str)), u4]) ⟨Same.refl _, _, rfl⟩ (fun i σ G _ ⟨e, _⟩ => SqL.of (e _ _ hq)) ?_ ?_
    · rintro i x σ _ G hi ⟨sG, u4, rfl⟩ ⟨rfl, hxi⟩
      have hil : i < (thr m).length := by omega
      have hgi : (thr m)[i]? = some (thr m)[i] := List.getElem?_eq_getElem hil
      have hx := hW.2 i x (triD (thr m)[i]) hxi (by rw [List.getElem?_map, hgi]; rfl)
      obtain ⟨y1, y2, y3⟩ := thr_mem (List.getElem_mem hil)
      generalize (thr m)[i] = y at *
      walk_at "op"
      refine ⟨_, rfl, _, rfl, _, rfl, .ref ah, x, p, ph, u, fs, m, n, g, y, rfl, sG _ _ hp, hD.same sG, hN, hg, hx.same sG, y1, y2, y3, hT, fun G2 s2 => ?_⟩
      have s02 := sG.trans s2
      refine ⟨false, rfl, iteF ?_⟩
      refine ⟨_, rfl, _, rfl, ah, hs, _, _, rfl, rfl, SqT.of (s02 _ _ k1), atI_nat k3, _, rfl, afg, tg0, tg1, x, p, u, m, _, _, y, rfl, s02 _ _ hp, hFg.same s02, hx.same s02, y1, y2, y3, fun G3 s3 => ?_⟩
      have s03 := s02.trans s3
      have hA : Alk (goN fs 0 g) (goN fs 1 g) y := alk_of (fun a b => B.sc g a b hg) (fun a b => B.sm g a b hg) (fun a b => B.uc g a b hg) (fun x y z hx hy hz => (hT g x y z hg hx hy hz).1) (hSu g hg) y1 y2 y3
      refine ⟨true, by rw [decide_eq_true hA], iteF ?_⟩
      exact ⟨s03, some x, rfl⟩
    · rintro σ G ⟨sG, u4, rfl⟩
      walk_at "op"
      exact ⟨_, rfl, k G sG⟩
def spKinds : Sp := fun vs H Q _ => ∃ (hv : V) (p ph : Addr) (u : HO) (fs : List PyData) (m n : Nat), vs = [hv] ∧ H p = some u ∧ Dat H ph hv (.tuple fs) ∧ HouseN m n (.tuple fs) ∧ FairH fs m n ∧ SureH fs m n ∧
  ∀ q H', H q = none → H' q = some (.lst (List.replicate n (V.str ("stands" : Str)))) → Same H H' → Q (.ref q) H'
theorem ok_floor_kinds (D : Df K mg "floor_kinds" s_floor_kinds ["house"]) (T : Nms mg) {C : Addr} (c_size : CallOk P w K mg base (L2.CX P w) 6 "size" ["house"] (spSize C)) (c_kind_of : CallOk P w K mg base CX0 4 "kind_of" ["house", "floor", "every_three"] spKind) (c_threes : CallOk P w K mg base CX0 1 "threes" ["m"] spThrees) :
    CallOk P w K mg base (L2.CX P w) 7 "floor_kinds" ["house"] spKinds := by
  refine df_okX D sc_floor_kinds (fun vs H Q E h => ?_) (fun f cdv A outer s H vs Q E hr h => ?_)
  · obtain ⟨hv, p, ph, u, fs, m, n, rfl, _⟩ := h
    rfl
  · obtain ⟨hv, p, ph, u, fs, m, n, rfl, hp, hD, hN, hT, hSu, k⟩ := h
    have nd := sc_floor_kinds.nd
    have hmn : 1 ≤ n ∧ n ≤ 4 ∧ 1 ≤ m ∧ m ≤ 6 := by
      obtain ⟨_, _, _, z1, z2, z3, z4, _⟩ := hN
      exact ⟨z1, z2, z3, z4⟩
    refine ⟨_, (pss_cons (ps_asg (pe_cx c_size (hr.mono (by omega)) (pa_cons (pv 0) pa_nil)) (pg_tup rfl (pgs_cons (pg_name (i := 1) nd rfl (Or.inr rfl)) (pgs_cons (pg_name (i := 2) nd rfl (Or.inl rfl)) pgs_nil))))
      (pss_one (ps_ret (pe_lc (own := [("floor", 3)]) (g := (gName 3)) (tt := tYes) (by rfl) nd (pi_range1 rfl T.n_range (pa_cons (pv 2) pa_nil)) (blkOk_by (own := [("floor", 3)]) (N := N_floor_kinds) (sc := defScope s_floor_kinds) (by decide +kernel)) (fun _ _ _ _ _ => (pg_name (i := 3) nd rfl (Or.inl rfl))) (fun _ _ _ _ _ => pts_nil) (fun _ _ _ _ _ => (pe_cc c_kind_of (hr.mono (by omega)) (pa_cons (pv 0) (pa_cons (pv 3) (pa_cons (pe_cc c_threes (hr.mono (by omega)) (pa_cons (pv 1) pa_nil)) pa_nil))))))))), ?_⟩
    walk_at "op"
    have hst : L2.start N_floor_kinds [hv] = [some hv, none, none, none] := rfl
    rw [hst]
    refine ⟨_, rfl, hv, ph, .tuple fs, rfl, hD, fun m' n' hN' q G hq hq2 sG => ?_, fun no => (no ⟨m, n, hN⟩).elim⟩
    obtain ⟨rfl, rfl⟩ := houseN_inj hN hN'
    refine ⟨q, _, rfl, SqT.of hq2, rfl, _, _, rfl, _, _, rfl, rfl, ?_⟩
    try dsimp only [List.set]
    refine ⟨_, rfl, _, rfl, by omega, by omega, ?_⟩
    rw [Int.toNat_natCast]
    refine fun L hL => ?_
    refine lI walk_range (fun g G2 => Same G G2 ∧ G2 L = some (.lst (List.replicate g (V.str ("stands" : Str))))) ⟨same_new hL, upd_same⟩ (fun _ _ _ _ => True.intro) ?_ ?_
    · rintro g x _ G2 hg ⟨s2, hG2⟩ ⟨rfl, rfl⟩
      walk_at "op"
      refine ⟨rfl, ?_⟩
      refine iteT ?_
      rw [Int.zero_add]
      refine ⟨_, rfl, _, rfl, _, rfl, m, p, u, rfl, hmn.2.2.2, (sG.trans s2) _ _ hp, fun q2 ws G3 hq2 hq2' hW s3 => ?_⟩
      have s03 := (sG.trans s2).trans s3
      refine ⟨hv, p, ph, u, fs, m, n, g, q2, ws, rfl, s03 _ _ hp, hD.same s03, hN, hT, hSu, hg, hq2', hW, fun G4 s4 => ?_⟩
      have hG4 := (s3.trans s4) _ _ hG2
      refine ⟨_, hG4, small1000 (by rw [List.length_replicate]; omega), sameOff (s2.trans (s3.trans s4)) hL, ?_⟩
      rw [upd_same, List.replicate_succ']
    · rintro G2 ⟨s2, hG2⟩
      exact k L G2 (sameFree sG hL) hG2 (sG.trans s2)
def spSureC : Sp := fun vs H Q _ => ∃ (hv : V) (p ph : Addr) (u : HO) (fs : List PyData) (m n : Nat), vs = [hv] ∧ H p = some u ∧ Dat H ph hv (.tuple fs) ∧ HouseN m n (.tuple fs) ∧ FairH fs m n ∧ SureH fs m n ∧ ∀ H', Same H H' → Q .non H'
theorem ok_check_sure (D : Df K mg "check_sure" s_check_sure ["house"]) (T : Nms mg) (c_check_fair : CallOk P w K mg base (L2.CX P w) 8 "check_fair" ["house"] spLeast) (c_floor_kinds : CallOk P w K mg base (L2.CX P w) 7 "floor_kinds" ["house"] spKinds) :
    CallOk P w K mg base CX0 9 "check_sure" ["house"] spSureC := by
  refine df_ok D sc_check_sure (fun vs H Q E h => ?_) (fun f cdv A outer s H vs Q E hr h => ?_)
  · obtain ⟨hv, p, ph, u, fs, m, n, rfl, _⟩ := h
    rfl
  · obtain ⟨hv, p, ph, u, fs, m, n, rfl, hp, hD, hN, hT, hSu, k⟩ := h
    have nd := sc_check_sure.nd
    refine ⟨_, (pss_cons (ps_expr (pe_cx c_check_fair (hr.mono (by omega)) (pa_cons (pv 0) pa_nil)))
      (pss_one (ps_for PassesOwn.never rfl (pi_list (pe_cx c_floor_kinds (hr.mono (by omega)) (pa_cons (pv 0) pa_nil))) (pg_name (i := 1) nd rfl (Or.inl rfl)) (pss_one (ps_if (pt_cmpR op_ne (pv 1) pe_str (nomark _)) (pss_one ps_never) pss_nil))))), ?_⟩
    walk_at "op"
    refine ⟨_, rfl, hv, p, ph, u, fs, m, n, rfl, hp, hD, hN, hT, fun G0 s0 => ?_⟩
    refine ⟨_, rfl, hv, p, ph, u, fs, m, n, rfl, s0 _ _ hp, hD.same s0, hN, hT, hSu, fun q G1 hq hq1 s1 => ?_⟩
    have s01 := s0.trans s1
    refine ⟨q, rfl, ⟨_, SqL.of hq1⟩, ?_⟩
    refine fI walk_list (fun i σ G => Same H G ∧ G q = some (.lst (List.replicate n (V.str ("stands" : Str)))) ∧ ∃ u1, σ = [some hv, u1]) ⟨s01, hq1, _, rfl⟩ (fun i σ G _ ⟨_, e, _⟩ => SqL.of e) ?_ ?_
    · rintro i x σ _ G hi ⟨sG, hqG, u1, rfl⟩ ⟨rfl, hxi⟩
      rw [List.length_replicate] at hi
      rw [List.getElem?_replicate, if_pos hi] at hxi
      cases hxi
      walk_at "op"
      refine ⟨_, rfl, rfl, false, by rw [decide_eq_true rfl]; rfl, ?_⟩
      rw [if_neg (by decide)]
      exact ⟨sG, hqG, _, rfl⟩
    · rintro σ G ⟨sG, hqG, u1, rfl⟩
      walk_at "op"
      exact k G sG
end
end Fm
end FAK
section FTG
set_option Elab.async false
set_option linter.all false
set_option maxRecDepth 100000
set_option maxHeartbeats 4000000
local macro_rules | `(tactic| walk_at "ne") => `(tactic| first | assumption | (apply Ne.symm; assumption) | exact L2.ne_of_none (by assumption) (by assumption) | exact Ne.symm (L2.ne_of_none (by assumption) (by assumption)))
local macro_rules | `(tactic| walk_at "hl") => `(tactic| first | assumption | exact L2.upd_same | (refine Eq.trans (L2.upd_ne (by walk_at "ne")) ?_; walk_at "hl"))
local macro_rules | `(tactic| walk_at "sd") => `(tactic| first | (with_reducible show (_ : Int) < _; omega) | (with_reducible show (_ : Int) ≤ _; omega) | assumption | decide | exact ⟨by assumption, by assumption⟩ | exact ⟨by decide, by decide⟩ | exact Or.inr ⟨by decide, by decide⟩ | exact Or.inl ⟨by omega, by omega⟩ | rfl)
local macro_rules | `(tactic| walk_at "st1") => `(tactic| first
  | refine ⟨_, rfl, ?_⟩
  | refine ⟨_, _, rfl, rfl, ?_⟩
  | refine ⟨_, _, rfl, ?_⟩
  | (refine ⟨_, _, _, _, rfl, rfl, L2.SqL.of (by walk_at "hl"), rfl, ?_⟩)
  | (refine ⟨_, _, _, _, rfl, rfl, L2.SqT.of (by walk_at "hl"), rfl, ?_⟩)
  | (refine ⟨_, _, _, _, rfl, rfl, (by walk_at "hl"), rfl, ?_⟩)
  | (refine And.intro (by walk_at "sd") ?_)
  )
local macro_rules | `(tactic| walk_at "st") => `(tactic| repeat walk_at "st1")
local macro_rules | `(tactic| walk_at "op") => `(tactic| try dsimp only [L2.tSeq, L2.tAsg, L2.tOp, L2.tVar, L2.tC, L2.gSub, L2.rI, L2.rI0, L2.rIxL, L2.rIxT, L2.rSetL, L2.tIfS, L2.tTest, L2.tRet, L2.gName, L2.tNext, L2.tAnd, L2.tOr, L2.tNot, L2.tAndV, L2.tOrV, L2.tNotV, L2.tB, L2.tCB, L2.tCons, L2.tNil, L2.tCall, L2.tTup, L2.tLst, L2.tChain, L2.tUn, L2.tPar, L2.tDrop, L2.tIf, L2.tBM, L2.tBM0, L2.rAppend, L2.rCat, L2.rIsi, L2.rIsiT, L2.gTup, L2.gCons, L2.gNil, Fm.tFor_eq, Fm.tLc_eq, Fm.tLc2_eq, L2.iTup, L2.iList, L2.iRng1, L2.iRng2, L2.tSl, L2.tPart, L2.tNoPart, L2.rSlL, L2.rEq, L2.rNe, L2.rU, L2.rEqD, L2.rNeD, Fm.tRevT, Fm.rLenS, Fm.rTupOf, Fm.rLstOf, L2.tDNewK, L2.tCallS, L2.WE, Fm.wKeep, Fm.rIsK, Fm.rIsKT, List.cons_append, List.nil_append, L2.tYes])
namespace Fm
open PySem PySem.Spec PyProof.Rows L2
abbrev s_added : Stmt := top 21
abbrev N_added : List Str := ["counts", "more", "a", "b"]
theorem sc_added : FnScope N_added ["counts", "more"] (defScope s_added) := ⟨rfl, rfl, rfl, by decide +kernel, rfl, by decide +kernel, by decide +kernel⟩
abbrev s_together : Stmt := top 20
abbrev N_together : List Str := ["house", "one", "other", "m", "floors", "rows", "counts", "more"]
theorem sc_together : FnScope N_together ["house", "one", "other"] (defScope s_together) := ⟨rfl, rfl, rfl, by decide +kernel, rfl, by decide +kernel, by decide +kernel⟩
section
variable {P : Program} {w : World} {K : PySem.W.Frag} {mg : Str → Option Value} {base : Heap}
/-! ### standings together -/
def spAdded : Sp := fun vs H Q _ => ∃ (v1 v2 : V) (p p' : Addr) (r1 r2 : List Int), vs = [v1, v2] ∧ Dat H p v1 (rowD r1) ∧ Dat H p' v2 (rowD r2) ∧ r1.length = r2.length ∧ r1.length ≤ 6 ∧
  ∀ q H', H q = none → H' q = some (.tup ((List.zipWith (· + ·) r1 r2).map V.int)) → Same H H' → Q (.ref q) H'
theorem ok_added (D : Df K mg "added" s_added ["counts", "more"]) (T : Nms mg) : CallOk P w K mg base CX0 1 "added" ["counts", "more"] spAdded := by
  refine df_ok D sc_added (fun vs H Q E h => ?_) (fun f cdv A outer s H vs Q E hr h => ?_)
  · obtain ⟨v1, v2, p, p', r1, r2, rfl, _⟩ := h
    rfl
  · obtain ⟨v1, v2, p, p', r1, r2, rfl, h1, h2, hl, h6, k⟩ := h
    obtain ⟨a1, rfl, ha1, _⟩ := row_parts h1
    obtain ⟨a2, rfl, ha2, _⟩ := row_parts h2
    have nd := sc_added.nd
    refine ⟨_, (pss_one (ps_ret (pe_callTy (r := rTupOf K) call_tupOf (by rfl) T.n_tuple (by decide +kernel) (pa_cons (pe_lc (own := [("a", 2), ("b", 3)]) (g := (gTup K 2 (gCons (gName 2) (gCons (gName 3) gNil)))) (tt := tYes) (by rfl) nd (RZ.pi_zipA (by rfl) T.n_zip (pa_cons (pv 0) (pa_cons (pv 1) pa_nil))) (blkOk_by (own := [("a", 2), ("b", 3)]) (N := N_added) (sc := defScope s_added) (by decide +kernel)) (fun _ _ _ _ _ => (pg_tup rfl (pgs_cons (pg_name (i := 2) nd rfl (Or.inl rfl)) (pgs_cons (pg_name (i := 3) nd rfl (Or.inl rfl)) pgs_nil)))) (fun _ _ _ _ _ => pts_nil) (fun _ _ _ _ _ => (pe_op op_add (pv 2) (pv 3)))) pa_nil)))), ?_⟩
    walk_at "op"
    walk_at "st"
    refine ⟨_, _, _, _, rfl, .inr ⟨SqT.of ha1, SqT.of ha2, fun D' hD' => ?_⟩⟩
    have hlm : (r1.map V.int).length = (r2.map V.int).length := by rw [List.length_map, List.length_map, hl]
    refine lI (walk_zipT hlm) (fun i H2 => Same H H2 ∧ H2 D' = some (.lst (((List.zipWith (· + ·) r1 r2).take i).map V.int))) 
      ⟨same_new hD', upd_same⟩ (fun i H2 _ ⟨e, _⟩ => ⟨SqT.of (e _ _ ha1), SqT.of (e _ _ ha2)⟩) ?_ ?_
    · rintro i v H2 _ hi ⟨sm2, hT2⟩ ⟨t, x, y, rfl, ht, rfl, hxi, hyi⟩
      rw [List.length_map] at hi
      dsimp only at hxi hyi
      rw [List.getElem?_map, List.getElem?_eq_getElem hi] at hxi
      rw [List.getElem?_map, List.getElem?_eq_getElem (by omega)] at hyi
      cases hxi
      cases hyi
      have nDt : D' ≠ t := ne_of_none hT2 ht
      walk_at "op"
      refine ⟨t, _, rfl, SqT.of upd_same, rfl, _, _, rfl, _, _, rfl, rfl, ?_⟩
      refine ⟨rfl, ?_⟩
      walk_at "st"
      have hlen : ((List.zipWith (· + ·) r1 r2).take i).length ≤ 6 := by
        rw [List.length_take, List.length_zipWith]
        omega
      refine ⟨_, by rw [upd_ne nDt]; exact hT2, by rw [List.length_map]; exact small1000 (by omega), sameOff (sameOff sm2 (sameFree sm2 ht)) hD', ?_⟩
      rw [upd_same, List.take_add_one, List.getElem?_zipWith, List.getElem?_eq_getElem hi, List.getElem?_eq_getElem (show i < r2.length by omega), List.map_append]
      rfl
    · rintro H2 ⟨sm2, hT2⟩
      walk_at "op"
      walk_at "st"
      have e1 : (r1.map V.int).length = (List.zipWith (· + ·) r1 r2).length := by rw [List.length_map, List.length_zipWith]; omega
      rw [e1, List.take_length] at hT2
      exact ⟨_, _, rfl, .inl ⟨SqL.of hT2, fun t ht => k t _ (sameFree sm2 ht) upd_same (sameOff sm2 (sameFree sm2 ht))⟩⟩

def addRows (a b : List (List Int)) : List (List Int) := List.zipWith (List.zipWith (· + ·)) a b
theorem Dats.same {H H' : Hp} {p : Addr} {xs : List V} {ds : List PyData} (h : Dats H p xs ds) (e : Same H H') : Dats H' p xs ds := ⟨h.1, fun i x d a b => (h.2 i x d a b).same e⟩
def spTogether : Sp := fun vs H Q _ => ∃ (hv v1 v2 : V) (p ph : Addr) (hd : PyData) (m n : Nat) (R1 R2 : List (List Int)) (o1 o2 : Int) (u : HO), vs = [hv, v1, v2] ∧ H p = some u ∧ Dat H ph hv hd ∧ HouseN m n hd ∧ Dat H p v1 (stD R1 o1) ∧ Dat H p v2 (stD R2 o2) ∧ R1.length = n ∧ R2.length = n ∧ StOk m R1 o1 ∧ StOk m R2 o2 ∧
  ∀ v H', Dat H' p v (stD (addRows R1 R2) (o1 + o2)) → Same H H' → Q v H'
theorem ok_together (D : Df K mg "together" s_together ["house", "one", "other"]) (T : Nms mg) {C M C2 : Addr} (EX_NoStanding : Exn K mg "NoStanding" C2 M)
    (c_size : CallOk P w K mg base (L2.CX P w) 6 "size" ["house"] (spSize C)) (c_has_form : CallOk P w K mg base CX0 4 "has_form" ["thing", "m", "floors", "most"] spForm) (c_added : CallOk P w K mg base CX0 1 "added" ["counts", "more"] spAdded) :
    CallOk P w K mg base (L2.CX P w) 7 "together" ["house", "one", "other"] spTogether := by
  refine df_okX D sc_together (fun vs H Q E h => ?_) (fun f cdv A outer s H vs Q E hr h => ?_)
  · obtain ⟨hv, v1, v2, p, ph, hd, m, n, R1, R2, o1, o2, u, rfl, _⟩ := h
    rfl
  · obtain ⟨hv, v1, v2, p, ph, hd, m, n, R1, R2, o1, o2, u, rfl, hp, hD, hN, d1, d2, hl1, hl2, ok1, ok2, k⟩ := h
    have nd := sc_together.nd
    obtain ⟨_, _, _, hn1, hn4, _, hm6, _⟩ := id hN
    refine ⟨_, (pss_cons (ps_asg (pe_cx c_size (hr.mono (by omega)) (pa_cons (pv 0) pa_nil)) (pg_tup rfl (pgs_cons (pg_name (i := 3) nd rfl (Or.inl rfl)) (pgs_cons (pg_name (i := 4) nd rfl (Or.inl rfl)) pgs_nil))))
      (pss_cons (ps_if (PW.pt (pw_or (pt_not (pt_val (pe_cc c_has_form (hr.mono (by omega)) (pa_cons (pv 1) (pa_cons (pv 3) (pa_cons (pv 4) (pa_cons pe_non pa_nil))))))) (pw_or1 (pt_not (pt_val (pe_cc c_has_form (hr.mono (by omega)) (pa_cons (pv 2) (pa_cons (pv 3) (pa_cons (pv 4) (pa_cons pe_non pa_nil)))))))))) (pss_one (ps_raiseE rfl (takes_of rfl rfl rfl rfl) EX_NoStanding rfl)) pss_nil)
      (pss_cons (ps_setLc (i := 5) (own := [("counts", 6), ("more", 7)]) (g := (gTup K 2 (gCons (gName 6) (gCons (gName 7) gNil)))) (tt := tYes) (by rfl) nd rfl rfl (sw_true rfl rfl rfl (by decide +kernel)) (RZ.pi_zipA (by rfl) T.n_zip (pa_cons (pe_slice (r := rSlA K) sl_tupA (pv 1) po_none (po_some (pe_un un_neg pe_int))) (pa_cons (pe_slice (r := rSlA K) sl_tupA (pv 2) po_none (po_some (pe_un un_neg pe_int))) pa_nil))) (blkOk_by (own := [("counts", 6), ("more", 7)]) (N := N_together) (sc := defScope s_together) (by decide +kernel)) (fun _ _ _ _ _ => (pg_tup rfl (pgs_cons (pg_name (i := 6) nd rfl (Or.inl rfl)) (pgs_cons (pg_name (i := 7) nd rfl (Or.inl rfl)) pgs_nil)))) (fun _ _ _ _ _ => pts_nil) (fun _ _ _ _ _ => (pe_cc c_added (hr.mono (by omega)) (pa_cons (pv 6) (pa_cons (pv 7) pa_nil)))))
      (pss_one (ps_ret (pe_op (r := rCatA K) op_catA (pe_callTy (r := rTupOf K) call_tupOf (by rfl) T.n_tuple (by decide +kernel) (pa_cons (pv 5) pa_nil)) (pe_tup (pa_cons (pe_op op_add (pe_ix (r := rIxT K) ix_tup (pv 1) (pe_un un_neg pe_int) (fun _ _ => rfl)) (pe_ix (r := rIxT K) ix_tup (pv 2) (pe_un un_neg pe_int) (fun _ _ => rfl))) pa_nil)))))))), ?_⟩
    walk_at "op"
    walk_at "st"
    refine ⟨hv, ph, hd, rfl, hD, fun m' n' hN' q H' hq hq2 sm => ?_, fun no => (no ⟨m, n, hN⟩).elim⟩
    obtain ⟨rfl, rfl⟩ := houseN_inj hN hN'
    refine ⟨q, _, rfl, SqT.of hq2, rfl, _, _, rfl, _, _, rfl, rfl, ?_⟩
    walk_at "op"
    walk_at "st"
    refine ⟨v1, p, m, n, R1, o1, rfl, d1.same sm, hl1, hn1, hn4, ok1, fun H2 sm2 => ?_⟩
    walk_at "st"
    refine ⟨v2, p, m, n, R2, o2, rfl, d2.same (sm.trans sm2), hl2, hn1, hn4, ok2, fun H3 sm3 => ?_⟩
    have sm03 := (sm.trans sm2).trans sm3
    obtain ⟨a1, x1, rfl, ha1, na1, hx1⟩ := st_parts (d1.same sm03)
    obtain ⟨a2, x2, rfl, ha2, na2, hx2⟩ := st_parts (d2.same sm03)
    walk_at "op"
    walk_at "st"
    refine sl_init (SqT.of ha1) fun q1 hq1 => ?_
    have hq1H := sameFree sm03 hq1
    walk_at "op"
    walk_at "st"
    refine sl_init (SqT.of (by rw [upd_ne (ne_of_none ha2 hq1)]; exact ha2)) fun q2 hq2' => ?_
    have n12 : q1 ≠ q2 := ne_of_none upd_same hq2'
    have hq2H : H q2 = none := sameFree (sm03.trans (same_new hq1)) hq2'
    refine ⟨_, _, _, _, rfl, .inr ⟨SqT.of (by rw [upd_ne n12]; exact upd_same), SqT.of upd_same, fun D' hD' => ?_⟩⟩
    have nq2D : q2 ≠ D' := ne_of_none upd_same hD'
    have nq1D : q1 ≠ D' := ne_of_none (by rw [upd_ne n12]; exact upd_same) hD'
    have sm4 : Same H (upd (upd H3 q1 (.tup x1)) q2 (.tup x2)) := (sm03.trans (same_new hq1)).trans (same_new hq2')
    have hDH := sameFree sm4 hD'
    have pne : ∀ {S : Addr} {G : Hp}, Same H G → G S = none → S ≠ p := fun {S G} e z q => by
      rw [q] at z
      have := e p u hp
      rw [z] at this
      cases this
    have hlx : x1.length = x2.length := by rw [hx1.1, hx2.1, List.length_map, List.length_map, hl1, hl2]
    have hadl : (addRows R1 R2).length = n := by
      unfold addRows
      rw [List.length_zipWith, hl1, hl2]
      omega
    have nl : ∀ (l : List (List Int)), ∀ d ∈ l.map rowD, noList d = true := fun l d hd => by
      obtain ⟨r, _, rfl⟩ := List.mem_map.mp hd
      exact noList_ints' _
    refine lI (walk_zipT hlx) (fun i H4 => Same H H4 ∧ H4 q1 = some (.tup x1) ∧ H4 q2 = some (.tup x2) ∧ H4 a1 = some (.tup (x1 ++ [.int o1])) ∧ H4 a2 = some (.tup (x2 ++ [.int o2])) ∧ Dats H4 p x1 (R1.map rowD) ∧ Dats H4 p x2 (R2.map rowD) ∧ ∃ ws, H4 D' = some (.lst ws) ∧ Dats H4 p ws (((addRows R1 R2).take i).map rowD))
      ⟨sameOff sm4 hDH, by rw [upd_ne nq1D, upd_ne n12]; exact upd_same, by rw [upd_ne nq2D]; exact upd_same, ?_, ?_, ((hx1.off hq1).off hq2').off hD', ((hx2.off hq1).off hq2').off hD', [], upd_same, Dats.nil⟩ (fun i H4 _ ⟨_, e1, e2, _⟩ => ⟨SqT.of e1, SqT.of e2⟩) ?_ ?_
    · exact (same_new hD') _ _ ((same_new hq2') _ _ ((same_new hq1) _ _ ha1))
    · exact (same_new hD') _ _ ((same_new hq2') _ _ ((same_new hq1) _ _ ha2))
    · rintro i v H4 _ hi ⟨s4, e1, e2, f1, f2, g1, g2, ws, hws, hW⟩ ⟨t, x, y, rfl, ht, rfl, hxi, hyi⟩
      dsimp only at hxi hyi
      obtain ⟨d1', hd1', hdx⟩ := g1.at hxi
      obtain ⟨d2', hd2', hdy⟩ := g2.at hyi
      rw [List.getElem?_map] at hd1' hd2'
      have hi1 : i < R1.length := by rw [hl1, ← hl1, ← List.length_map (f := rowD), ← hx1.1]; exact hi
      have hi2 : i < R2.length := by omega
      rw [List.getElem?_eq_getElem hi1] at hd1'
      rw [List.getElem?_eq_getElem hi2] at hd2'
      cases hd1'
      cases hd2'
      have nDt : D' ≠ t := ne_of_none hws ht
      have htp := pne s4 ht
      walk_at "op"
      refine ⟨t, _, rfl, SqT.of upd_same, rfl, _, _, rfl, _, _, rfl, rfl, ?_⟩
      refine ⟨rfl, ?_⟩
      walk_at "st"
      have m1 := ok1.len _ (List.getElem_mem hi1)
      have m2 := ok2.len _ (List.getElem_mem hi2)
      refine ⟨x, y, p, p, _, _, rfl, hdx.off ht, hdy.off ht, by rw [m1, m2], by omega, fun r H5 hr hr2 s5 => ?_⟩
      have s45 : Same H4 H5 := (same_new ht).trans s5
      have hws5 := s45 _ _ hws
      have hr4 : H4 r = none := sameFree (same_new ht) hr
      have hrp := pne s4 hr4
      have nrD : r ≠ D' := fun z => by rw [z, hws] at hr4; cases hr4
      have wl : ws.length ≤ 4 := by
        rw [hW.1, List.length_map, List.length_take]
        omega
      refine ⟨_, hws5, small1000 (by omega), sameOff (s4.trans s45) hDH, by rw [upd_ne nq1D]; exact s45 _ _ e1, by rw [upd_ne nq2D]; exact s45 _ _ e2, ?_, ?_, ?_, ?_, ws ++ [.ref r], upd_same, ?_⟩
      · rw [upd_ne (fun z => by rw [z, hws] at f1; cases f1)]; exact s45 _ _ f1
      · rw [upd_ne (fun z => by rw [z, hws] at f2; cases f2)]; exact s45 _ _ f2
      · exact (g1.same s45).setL hws5 (nl _)
      · exact (g2.same s45).setL hws5 (nl _)
      · have e9 : ((addRows R1 R2).take (i + 1)).map rowD = ((addRows R1 R2).take i).map rowD ++ [rowD (List.zipWith (· + ·) R1[i] R2[i])] := by
          have e8 : (addRows R1 R2)[i]? = some (List.zipWith (· + ·) R1[i] R2[i]) := by
            unfold addRows
            rw [List.getElem?_zipWith, List.getElem?_eq_getElem hi1, List.getElem?_eq_getElem hi2]
          rw [List.take_add_one, e8, List.map_append]
          rfl
        rw [e9]
        refine ((hW.same s45).setL hws5 (nl _)).snoc ?_
        exact Dat.tup (by rw [upd_ne nrD]; exact hr2) hrp (by simp) fun j x d q1 q2 => by
          have := (Dats.ints (H := upd H5 D' (.lst (ws ++ [.ref r]))) (p := p) (List.zipWith (· + ·) R1[i] R2[i])).2 j x d q1 q2
          exact this
    · rintro H4 ⟨s4, e1, e2, f1, f2, g1, g2, ws, hws, hW⟩
      have hxn : x1.length = n := by rw [hx1.1, List.length_map, hl1]
      rw [hxn, ← hadl, List.take_length] at hW
      walk_at "op"
      walk_at "st"
      refine ⟨_, _, rfl, .inl ⟨SqL.of hws, fun l hl => ?_⟩⟩
      have hlp := pne s4 hl
      walk_at "st"
      refine ⟨_, _, _, _, rfl, rfl, SqT.of (by rw [upd_ne (ne_of_none f1 hl)]; exact f1), atI_last (by omega), ?_⟩
      walk_at "st"
      refine ⟨_, _, _, _, rfl, rfl, SqT.of (by rw [upd_ne (ne_of_none f2 hl)]; exact f2), atI_last (by omega), ?_⟩
      walk_at "st"
      refine ⟨by show 1 ≤ sizeLine; decide, fun t ht => ?_⟩
      have nlt : l ≠ t := ne_of_none upd_same ht
      have s5 : Same H (upd H4 l (.tup ws)) := s4.trans (same_new hl)
      have htp := pne s5 ht
      refine ⟨l, t, ws, _, rfl, rfl, SqT.of (by rw [upd_ne nlt]; exact upd_same), SqT.of upd_same, Nat.le_trans (m := 1000) (by rw [hW.1, List.length_map, hadl]; show n + 1 ≤ 1000; omega) (by rw [sizeLine_eq]; omega), fun e => ?_, fun _ e => (by cases e), fun _ _ r hr => ?_⟩
      · have := hW.1
        rw [e, List.length_map, hadl] at this
        simp at this
        omega
      · have s6 : Same H (upd (upd H4 l (.tup ws)) t (.tup [.int (o1 + o2)])) := s5.trans (same_new ht)
        refine k _ _ ?_ (s6.trans (same_new hr))
        have hW6 : Dats (upd (upd H4 l (.tup ws)) t (.tup [.int (o1 + o2)])) p ws ((addRows R1 R2).map rowD) := (hW.off hl).off ht
        refine Dat.new hr (pne s6 hr) ?_
        exact Dats.snoc hW6 (.int _)
end
end Fm
end FTG
section FFmPow
set_option Elab.async false
set_option linter.all false
set_option maxRecDepth 100000
set_option maxHeartbeats 4000000
namespace Fm
open PySem PySem.Spec PyProof.Rows L2
/-- to the third and less, of numbers to a thousand bits -/
def CPow3 (i j : Int) : Prop := 0 ≤ j ∧ j ≤ 3 ∧ i.natAbs.log2 < 1000
theorem op_pow3 {X : Cx} : OpR X (binaryOp .Pow) (rI CPow3 fun i j => .int (i ^ j.toNat)) := opI fun i j _ _ _ _ _ hc q => by
  obtain ⟨h1, h2, h3⟩ := hc
  refine pow_int h1 ?_ q
  have b : Builtin.Int.intBits i ≤ i.natAbs.log2 + 1 := by
    unfold Builtin.Int.intBits
    split
    · omega
    · exact Nat.le_refl _
  have e : (2 : Int) ^ 27 = 134217728 := by decide
  rw [e]
  have k : (Builtin.Int.intBits i : Int) ≤ 1000 := by omega
  have : (Builtin.Int.intBits i : Int) * j ≤ 1000 * 3 := Int.mul_le_mul k h2 h1 (by decide)
  omega
end Fm
end FFmPow
section FLA
set_option Elab.async false
set_option linter.all false
set_option maxRecDepth 100000
set_option maxHeartbeats 4000000
local macro_rules | `(tactic| walk_at "ne") => `(tactic| first | assumption | (apply Ne.symm; assumption) | exact L2.ne_of_none (by assumption) (by assumption) | exact Ne.symm (L2.ne_of_none (by assumption) (by assumption)))
local macro_rules | `(tactic| walk_at "hl") => `(tactic| first | assumption | exact L2.upd_same | (refine Eq.trans (L2.upd_ne (by walk_at "ne")) ?_; walk_at "hl"))
local macro_rules | `(tactic| walk_at "sd") => `(tactic| first | (with_reducible show (_ : Int) < _; omega) | (with_reducible show (_ : Int) ≤ _; omega) | assumption | decide | exact ⟨by assumption, by assumption⟩ | exact ⟨by decide, by decide⟩ | exact Or.inr ⟨by decide, by decide⟩ | exact Or.inl ⟨by omega, by omega⟩ | rfl)
local macro_rules | `(tactic| walk_at "st1") => `(tactic| first
  | refine ⟨_, rfl, ?_⟩
  | refine ⟨_, _, rfl, rfl, ?_⟩
  | refine ⟨_, _, rfl, ?_⟩
  | (refine ⟨_, _, _, _, rfl, rfl, L2.SqL.of (by walk_at "hl"), rfl, ?_⟩)
  | (refine ⟨_, _, _, _, rfl, rfl, L2.SqT.of (by walk_at "hl"), rfl, ?_⟩)
  | (refine ⟨_, _, _, _, rfl, rfl, (by walk_at "hl"), rfl, ?_⟩)
  | (refine And.intro (by walk_at "sd") ?_)
  )
local macro_rules | `(tactic| walk_at "st") => `(tactic| repeat walk_at "st1")
local macro_rules | `(tactic| walk_at "op") => `(tactic| try dsimp only [L2.tSeq, L2.tAsg, L2.tOp, L2.tVar, L2.tC, L2.gSub, L2.rI, L2.rI0, L2.rIxL, L2.rIxT, L2.rSetL, L2.tIfS, L2.tTest, L2.tRet, L2.gName, L2.tNext, L2.tAnd, L2.tOr, L2.tNot, L2.tAndV, L2.tOrV, L2.tNotV, L2.tB, L2.tCB, L2.tCons, L2.tNil, L2.tCall, L2.tTup, L2.tLst, L2.tChain, L2.tUn, L2.tPar, L2.tDrop, L2.tIf, L2.tBM, L2.tBM0, L2.rAppend, L2.rCat, L2.rIsi, L2.rIsiT, L2.gTup, L2.gCons, L2.gNil, Fm.tFor_eq, Fm.tLc_eq, Fm.tLc2_eq, L2.iTup, L2.iList, L2.iRng1, L2.iRng2, L2.tSl, L2.tPart, L2.tNoPart, L2.rSlL, L2.rEq, L2.rNe, L2.rU, L2.rEqD, L2.rNeD, Fm.tRevT, Fm.rLenS, Fm.rTupOf, Fm.rLstOf, L2.tDNewK, L2.tCallS, L2.WE, Fm.wKeep, Fm.rIsK, Fm.rIsKT, List.cons_append, List.nil_append, L2.tYes])
namespace Fm
open PySem PySem.Spec PyProof.Rows L2
abbrev s_law_jar : Stmt := top 42
abbrev N_law_jar : List Str := ["cell"]
theorem sc_law_jar : FnScope N_law_jar ["cell"] (defScope s_law_jar) := ⟨rfl, rfl, rfl, by decide +kernel, rfl, by decide +kernel, by decide +kernel⟩
abbrev s_law_dip : Stmt := top 43
abbrev N_law_dip : List Str := ["jar", "many", "found", "one"]
theorem sc_law_dip : FnScope N_law_dip ["jar", "many"] (defScope s_law_dip) := ⟨rfl, rfl, rfl, by decide +kernel, rfl, by decide +kernel, by decide +kernel⟩
section
variable {P : Program} {w : World} {K : PySem.W.Frag} {mg : Str → Option Value} {base : Heap}
/-! ### the law's draws -/
/-- the jar of draws at p, of which at most N were made -/
def Jar (H : Hp) (p : Addr) (N : Nat) : Prop := ∃ x y c : Int, H p = some (.lst [.int x, .int y, .int c]) ∧ 0 ≤ y ∧ y < 10 ^ 37 ∧ 0 ≤ c ∧ c ≤ N
theorem Jar.le {H : Hp} {p : Addr} {N M : Nat} (h : Jar H p N) (l : N ≤ M) : Jar H p M := by
  obtain ⟨x, y, c, h1, h2, h3, h4, h5⟩ := h
  exact ⟨x, y, c, h1, h2, h3, h4, by omega⟩
theorem Jar.up {H : Hp} {p q : Addr} {N : Nat} {o : HO} (h : Jar H p N) (n : p ≠ q) : Jar (upd H q o) p N := by
  obtain ⟨x, y, c, h1, h2⟩ := h
  exact ⟨x, y, c, by rw [upd_ne n]; exact h1, h2⟩
theorem Jar.same {H H' : Hp} {p : Addr} {N : Nat} (h : Jar H p N) (e : Same H H') : Jar H' p N := by
  obtain ⟨x, y, c, h1, h2⟩ := h
  exact ⟨x, y, c, e _ _ h1, h2⟩
theorem Jar.here {H : Hp} {p : Addr} {N : Nat} (h : Jar H p N) : ∃ u, H p = some u := by
  obtain ⟨x, y, c, h1, _⟩ := h
  exact ⟨_, h1⟩
theorem Jar.ne {H : Hp} {p q : Addr} {N : Nat} (h : Jar H p N) (hq : H q = none) : p ≠ q := by
  obtain ⟨x, y, c, h1, _⟩ := h
  exact ne_of_none h1 hq
def spJar : Sp := fun vs H Q _ => ∃ c : Int, vs = [.int c] ∧ ∀ p H', H p = none → Jar H' p 0 → Same H H' → Q (.ref p) H'
theorem ok_law_jar (D : Df K mg "_law_jar" s_law_jar ["cell"]) (T : Nms mg) : CallOk P w K mg base CX0 1 "_law_jar" ["cell"] spJar := by
  refine df_ok D sc_law_jar (fun vs H Q E h => ?_) (fun f cdv A outer s H vs Q E hr h => ?_)
  · obtain ⟨c, rfl, _⟩ := h
    rfl
  · obtain ⟨c, rfl, k⟩ := h
    have nd := sc_law_jar.nd
    have e1 : (10 : Int) ^ (36 : Int).toNat + 67 = 1000000000000000000000000000000000067 := by decide
    have e2 : (10 : Int) ^ 37 = 10000000000000000000000000000000000000 := by decide
    refine ⟨_, (pss_one (ps_ret (pe_lst (pa_cons (pe_callB (call_max2 rfl) (by rfl) T.n_max (by decide +kernel) (pa_cons pe_int (pa_cons (pe_op op_sub (pv 0) (pe_op op_pow pe_int pe_int)) pa_nil))) (pa_cons (pe_op op_mod (pv 0) (pe_op op_add (pe_op op_pow pe_int pe_int) pe_int)) (pa_cons pe_int pa_nil)))))), ?_⟩
    walk_at "op"
    refine ⟨_, rfl, 10, 18, rfl, rfl, ⟨by decide, by decide, by decide⟩, _, _, rfl, rfl, _, _, rfl, _, rfl, 10, 36, rfl, rfl, ⟨by decide, by decide, by decide⟩, _, 67, rfl, rfl, _, _, rfl, rfl, by rw [e1]; decide, by show 3 ≤ sizeLine; decide, fun q hq => ?_⟩
    refine k q _ hq ⟨_, _, 0, upd_same, ?_, ?_, by decide, by decide⟩ (same_new hq)
    · exact Int.emod_nonneg _ (by rw [e1]; decide)
    · refine Int.lt_of_lt_of_le (Int.emod_lt_of_pos _ (by rw [e1]; decide)) ?_
      rw [e1, e2]
      decide
theorem log_lt {i : Int} (h : i.natAbs < 10 ^ 60) : i.natAbs.log2 < 1000 := by
  by_cases z : i.natAbs = 0
  · rw [z]; decide
  · exact (Nat.log2_lt z).mpr (Nat.lt_of_lt_of_le h (by decide +kernel))
theorem e39 : (10 : Int) ^ (39 : Int).toNat + 3 = 1000000000000000000000000000000000000003 := by decide
theorem e37' : (10 : Int) ^ (37 : Int).toNat + 43 = 10000000000000000000000000000000000043 := by decide
def spDip : Sp := fun vs H Q _ => ∃ (p : Addr) (m : Int) (N : Nat), vs = [.ref p, .int m] ∧ 0 < m ∧ m.natAbs.log2 < 9000 ∧ N ≤ 1000000000 ∧ Jar H p N ∧ ∀ (k : Int) (H' : Hp), 0 ≤ k → k < m → Jar H' p (N + 1) → Ext p H H' → Q (.int k) H'
theorem ok_law_dip (D : Df K mg "_law_dip" s_law_dip ["jar", "many"]) (T : Nms mg) : CallOk P w K mg base CX0 1 "_law_dip" ["jar", "many"] spDip := by
  refine df_ok D sc_law_dip (fun vs H Q E h => ?_) (fun f cdv A outer s H vs Q E hr h => ?_)
  · obtain ⟨p, m, N, rfl, _⟩ := h
    rfl
  · obtain ⟨p, m, N, rfl, m0, ml, hN, ⟨x, y, c, hp, hy0, hy1, hc0, hc1⟩, k⟩ := h
    have nd := sc_law_dip.nd
    refine ⟨_, (pss_cons (ps_if (pt_cmpR op_gt (pe_ix (r := rIxL K) ix_list (pv 0) pe_int (fun _ _ => rfl)) pe_int (nomark _)) (pss_cons (ps_set (i := 2) nd rfl (Or.inl rfl) (pe_op op_mod (pe_ix (r := rIxL K) ix_list (pv 0) pe_int (fun _ _ => rfl)) (pv 1)))
      (pss_cons (ps_asg (pe_op op_fdivW (pe_ix (r := rIxL K) ix_list (pv 0) pe_int (fun _ _ => rfl)) (pv 1)) (pg_sub (pv 0) pe_int set_list))
      (pss_one (ps_ret (pv 2))))) pss_nil)
      (pss_cons (ps_asg (pe_op op_add (pe_ix (r := rIxL K) ix_list (pv 0) pe_int (fun _ _ => rfl)) pe_int) (pg_sub (pv 0) pe_int set_list))
      (pss_cons (ps_set (i := 3) nd rfl (Or.inl rfl) (pe_op op_mod (pe_op (r := rI CPow3 fun i j => .int (i ^ j.toNat)) op_pow3 (pe_op op_add (pe_ix (r := rIxL K) ix_list (pv 0) pe_int (fun _ _ => rfl)) (pe_op op_mul pe_int (pe_ix (r := rIxL K) ix_list (pv 0) pe_int (fun _ _ => rfl)))) pe_int) (pe_op op_add (pe_op op_pow pe_int pe_int) pe_int)))
      (pss_cons (ps_set (i := 3) nd rfl (Or.inl rfl) (pe_op op_mod (pe_op (r := rI CPow3 fun i j => .int (i ^ j.toNat)) op_pow3 (pe_op op_add (pv 3) (pe_op op_mul pe_int (pe_ix (r := rIxL K) ix_list (pv 0) pe_int (fun _ _ => rfl)))) pe_int) (pe_op op_add (pe_op op_pow pe_int pe_int) pe_int)))
      (pss_one (ps_ret (pe_op op_mod (pe_op op_fdivW (pv 3) pe_int) (pv 1)))))))), ?_⟩
    walk_at "op"
    have e37 : (10 : Int) ^ 37 = 10000000000000000000000000000000000000 := by decide
    have g0 : atI [V.int x, V.int y, V.int c] 0 = some (.int x) := rfl
    refine ⟨_, rfl, p, _, 0, .int x, rfl, rfl, SqL.of hp, rfl, x, 0, rfl, rfl, _, rfl, ?_⟩
    refine ite2 (fun c0 => ?_) (fun c0 => ?_)
    · refine ⟨_, rfl, p, _, 0, .int x, rfl, rfl, SqL.of hp, rfl, _, rfl, x, m, rfl, rfl, m0, ?_⟩
      refine ⟨_, rfl, p, _, 0, .int x, rfl, rfl, SqL.of hp, rfl, _, rfl, x, m, rfl, rfl, ⟨m0, ml⟩, _, rfl, p, _, 0, 0, rfl, rfl, hp, rfl, _, rfl, ?_⟩
      exact k _ _ (Int.emod_nonneg _ (by omega)) (Int.emod_lt_of_pos _ m0) ⟨x / m, y, c, upd_same, hy0, hy1, hc0, by omega⟩ ext_at
    · refine ⟨_, rfl, p, _, 2, .int c, rfl, rfl, SqL.of hp, rfl, c, 1, rfl, rfl, _, rfl, p, _, 2, 2, rfl, rfl, hp, rfl, ?_⟩
      have hp2 : upd H p (.lst ([V.int x, V.int y, V.int c].set 2 (.int (c + 1)))) p = some (.lst [V.int x, V.int y, V.int (c + 1)]) := upd_same
      have x2 : Ext p H (upd H p (.lst ([V.int x, V.int y, V.int c].set 2 (.int (c + 1))))) := ext_at
      generalize upd H p (.lst ([V.int x, V.int y, V.int c].set 2 (.int (c + 1)))) = G at *
      have b1 : (y + 15485863 * (c + 1)).natAbs.log2 < 1000 := log_lt (by rw [e37] at hy1; omega)
      refine ⟨_, rfl, p, _, 1, .int y, rfl, rfl, SqL.of hp2, rfl, _, rfl, p, _, 2, .int (c + 1), rfl, rfl, SqL.of hp2, rfl, 15485863, c + 1, rfl, rfl, .inl ⟨by decide, by decide⟩, y, _, rfl, rfl, _, 3, rfl, rfl, ⟨by decide, by decide, b1⟩, 10, 39, rfl, rfl, ⟨by decide, by decide, by decide⟩, _, 3, rfl, rfl, _, _, rfl, rfl, by rw [e39]; decide, ?_⟩
      have o0 : 0 ≤ (y + 15485863 * (c + 1)) ^ (3 : Int).toNat % ((10 : Int) ^ (39 : Int).toNat + 3) := Int.emod_nonneg _ (by rw [e39]; decide)
      have o2 : (y + 15485863 * (c + 1)) ^ (3 : Int).toNat % ((10 : Int) ^ (39 : Int).toNat + 3) < 1000000000000000000000000000000000000003 := by
        have := Int.emod_lt_of_pos ((y + 15485863 * (c + 1)) ^ (3 : Int).toNat) (show (0 : Int) < (10 : Int) ^ (39 : Int).toNat + 3 by rw [e39]; decide)
        rw [e39] at this ⊢
        exact this
      generalize (y + 15485863 * (c + 1)) ^ (3 : Int).toNat % ((10 : Int) ^ (39 : Int).toNat + 3) = o1 at *
      have b2 : (o1 + 982451653 * (c + 1)).natAbs.log2 < 1000 := log_lt (by omega)
      refine ⟨_, rfl, _, rfl, p, _, 2, .int (c + 1), rfl, rfl, SqL.of hp2, rfl, 982451653, c + 1, rfl, rfl, .inl ⟨by decide, by decide⟩, o1, _, rfl, rfl, _, 3, rfl, rfl, ⟨by decide, by decide, b2⟩, 10, 37, rfl, rfl, ⟨by decide, by decide, by decide⟩, _, 43, rfl, rfl, _, _, rfl, rfl, by rw [e37']; decide, ?_⟩
      refine ⟨_, rfl, _, 1048576, rfl, rfl, ⟨by decide, by decide⟩, _, rfl, _, m, rfl, rfl, m0, ?_⟩
      exact k _ _ (Int.emod_nonneg _ (by omega)) (Int.emod_lt_of_pos _ m0) ⟨x, y, c + 1, hp2, hy0, hy1, by omega, by omega⟩ x2
end
end Fm
end FLA
section FLB
set_option Elab.async false
set_option linter.all false
set_option maxRecDepth 100000
set_option maxHeartbeats 4000000
local macro_rules | `(tactic| walk_at "ne") => `(tactic| first | assumption | (apply Ne.symm; assumption) | exact L2.ne_of_none (by assumption) (by assumption) | exact Ne.symm (L2.ne_of_none (by assumption) (by assumption)))
local macro_rules | `(tactic| walk_at "hl") => `(tactic| first | assumption | exact L2.upd_same | (refine Eq.trans (L2.upd_ne (by walk_at "ne")) ?_; walk_at "hl"))
local macro_rules | `(tactic| walk_at "sd") => `(tactic| first | (with_reducible show (_ : Int) < _; omega) | (with_reducible show (_ : Int) ≤ _; omega) | assumption | decide | exact ⟨by assumption, by assumption⟩ | exact ⟨by decide, by decide⟩ | exact Or.inr ⟨by decide, by decide⟩ | exact Or.inl ⟨by omega, by omega⟩ | rfl)
local macro_rules | `(tactic| walk_at "st1") => `(tactic| first
  | refine ⟨_, rfl, ?_⟩
  | refine ⟨_, _, rfl, rfl, ?_⟩
  | refine ⟨_, _, rfl, ?_⟩
  | (refine ⟨_, _, _, _, rfl, rfl, L2.SqL.of (by walk_at "hl"), rfl, ?_⟩)
  | (refine ⟨_, _, _, _, rfl, rfl, L2.SqT.of (by walk_at "hl"), rfl, ?_⟩)
  | (refine ⟨_, _, _, _, rfl, rfl, (by walk_at "hl"), rfl, ?_⟩)
  | (refine And.intro (by walk_at "sd") ?_)
  )
local macro_rules | `(tactic| walk_at "st") => `(tactic| repeat walk_at "st1")
local macro_rules | `(tactic| walk_at "op") => `(tactic| try dsimp only [L2.tSeq, L2.tAsg, L2.tOp, L2.tVar, L2.tC, L2.gSub, L2.rI, L2.rI0, L2.rIxL, L2.rIxT, L2.rSetL, L2.tIfS, L2.tTest, L2.tRet, L2.gName, L2.tNext, L2.tAnd, L2.tOr, L2.tNot, L2.tAndV, L2.tOrV, L2.tNotV, L2.tB, L2.tCB, L2.tCons, L2.tNil, L2.tCall, L2.tTup, L2.tLst, L2.tChain, L2.tUn, L2.tPar, L2.tDrop, L2.tIf, L2.tBM, L2.tBM0, L2.rAppend, L2.rCat, L2.rIsi, L2.rIsiT, L2.gTup, L2.gCons, L2.gNil, Fm.tFor_eq, Fm.tLc_eq, Fm.tLc2_eq, L2.iTup, L2.iList, L2.iRng1, L2.iRng2, L2.tSl, L2.tPart, L2.tNoPart, L2.rSlL, L2.rEq, L2.rNe, L2.rU, L2.rEqD, L2.rNeD, Fm.tRevT, Fm.rLenS, Fm.rTupOf, Fm.rLstOf, L2.tDNewK, L2.tCallS, L2.WE, Fm.wKeep, Fm.rIsK, Fm.rIsKT, List.cons_append, List.nil_append, L2.tYes])
namespace Fm
open PySem PySem.Spec PyProof.Rows L2
abbrev s_law_word : Stmt := top 44
abbrev N_law_word : List Str := ["kind", "a", "b", "m"]
theorem sc_law_word : FnScope N_law_word ["kind", "a", "b", "m"] (defScope s_law_word) := ⟨rfl, rfl, rfl, by decide +kernel, rfl, by decide +kernel, by decide +kernel⟩
section
variable {P : Program} {w : World} {K : PySem.W.Frag} {mg : Str → Option Value} {base : Heap}
/-! ### the law's words -/
theorem vint {x y : Int} (h : x = y) : some (V.int x) = some (V.int y) := by rw [h]
theorem word_list {kind a b m : Nat} (hk : kind < 6) (ha : a < m) (hb : b < m) {z : Int} (hz : z = (FmC.word 5 a b m : Nat)) :
    ([V.int (if (b : Int) > a then b else a), V.int (((a : Int) + b) % m), V.int 0, V.int (if (m : Int) - 1 < a + b then (m : Int) - 1 else a + b), V.int ((a : Int) * b % m), V.int z] : List V)[kind]? = some (.int (FmC.word kind a b m : Nat)) := by
  match kind, hk with
  | 0, _ =>
    refine vint ?_
    show _ = ((max a b : Nat) : Int)
    split <;> omega
  | 1, _ =>
    refine vint ?_
    show _ = (((a + b) % m : Nat) : Int)
    rw [Int.natCast_emod, Int.natCast_add]
  | 2, _ => exact vint rfl
  | 3, _ =>
    refine vint ?_
    show _ = ((min (a + b) (m - 1) : Nat) : Int)
    split <;> omega
  | 4, _ =>
    refine vint ?_
    show _ = ((a * b % m : Nat) : Int)
    rw [Int.natCast_emod, Int.natCast_mul]
  | 5, _ => exact vint hz
def spWord : Sp := fun vs H Q _ => ∃ (kind a b m : Nat), vs = [.int (kind : Nat), .int (a : Nat), .int (b : Nat), .int (m : Nat)] ∧ kind < 6 ∧ a < m ∧ b < m ∧ m ≤ 6 ∧ ∀ H', Same H H' → Q (.int (FmC.word kind a b m : Nat)) H'
theorem ok_law_word (D : Df K mg "_law_word" s_law_word ["kind", "a", "b", "m"]) (T : Nms mg) : CallOk P w K mg base CX0 1 "_law_word" ["kind", "a", "b", "m"] spWord := by
  refine df_ok D sc_law_word (fun vs H Q E h => ?_) (fun f cdv A outer s H vs Q E hr h => ?_)
  · obtain ⟨kind, a, b, m, rfl, _⟩ := h
    rfl
  · obtain ⟨kind, a, b, m, rfl, hk, ha, hb, hm, k⟩ := h
    have nd := sc_law_word.nd
    refine ⟨_, (pss_one (ps_ret (pe_ix (r := rIxL K) ix_list (pe_lst (pa_cons (pe_callB (call_max2 rfl) (by rfl) T.n_max (by decide +kernel) (pa_cons (pv 1) (pa_cons (pv 2) pa_nil))) (pa_cons (pe_op op_mod (pe_op op_add (pv 1) (pv 2)) (pv 3)) (pa_cons pe_int (pa_cons (pe_callB (call_min2 rfl) (by rfl) T.n_min (by decide +kernel) (pa_cons (pe_op op_add (pv 1) (pv 2)) (pa_cons (pe_op op_sub (pv 3) pe_int) pa_nil))) (pa_cons (pe_op op_mod (pe_op op_mul (pv 1) (pv 2)) (pv 3)) (pa_cons (pe_ifExp (pt_cmpR op_ne (pv 1) (pv 2) (nomark _)) (pe_op op_sub (pv 3) pe_int) (pv 1)) pa_nil))))))) (pv 0) (fun _ _ => rfl)))), ?_⟩
    walk_at "op"
    refine ⟨_, rfl, _, rfl, _, _, rfl, _, rfl, _, rfl, _, _, rfl, rfl, _, rfl, _, _, rfl, rfl, by omega, ?_⟩
    refine ⟨_, rfl, _, rfl, _, _, rfl, rfl, _, rfl, _, 1, rfl, rfl, _, _, rfl, ?_⟩
    refine ⟨_, rfl, _, rfl, _, _, rfl, rfl, .inl ⟨by omega, by omega⟩, _, rfl, _, _, rfl, rfl, by omega, ?_⟩
    refine ⟨_, rfl, _, rfl, rfl, _, rfl, ?_⟩
    by_cases e : a = b
    · rw [show (!decide (V.int (a : Nat) = V.int (b : Nat))) = false from by rw [e, decide_eq_true rfl]; rfl]
      refine iteF ⟨_, rfl, by show 6 ≤ sizeLine; decide, fun q hq => ?_⟩
      refine ⟨_, rfl, q, _, _, _, rfl, rfl, SqL.of upd_same, atI_nat (word_list hk ha hb (z := (a : Int)) ?_), k _ (same_new hq)⟩
      show (a : Int) = ((if a = b then a else m - 1 : Nat) : Int)
      rw [if_pos e]
    · rw [show (!decide (V.int (a : Nat) = V.int (b : Nat))) = true from by
        rw [decide_eq_false (fun z => e (by injection z with z; exact Int.ofNat.inj z))]; rfl]
      refine iteT ⟨_, rfl, _, 1, rfl, rfl, by show 6 ≤ sizeLine; decide, fun q hq => ?_⟩
      refine ⟨_, rfl, q, _, _, _, rfl, rfl, SqL.of upd_same, atI_nat (word_list hk ha hb (z := (m : Int) - 1) ?_), k _ (same_new hq)⟩
      show (m : Int) - 1 = ((if a = b then a else m - 1 : Nat) : Int)
      rw [if_neg e]
      omega
end
end Fm
end FLB
section FFmBmK
set_option Elab.async false
set_option linter.all false
set_option maxRecDepth 100000
set_option maxHeartbeats 4000000
namespace Fm
open PySem PySem.Spec PySem.Calls PyProof.Rows L2
/-- a method of a list within a comprehension: its place's K told -/
theorem pe_bmK {X : Cx} {K : PySem.W.Frag} {o e : Expr} {es : List Expr} {to : TE} {t : TA} {name : Str} {apos cpos : Pos} {T id : String} {r : V → List V → Hp → VK → Prop} (eK : X.K = K) (pa : PlainAttrs T) (slot : Slot T name id) (hty : typeOf (.builtin id) = pure (.type "method_descriptor")) (hm : MtR X id r) (ho : PE X o to) (ha : PA X (e :: es) t)
    (hbase : attributeBase o name X.env (eval o X.env) = eval o X.env := by rfl)
    (hfew : ((backTo cpos (starEach (e :: es) X.env)).all (fun x => !x.1) && (backToKw cpos (keywordEach [] X.env)).all (fun x => x.1.isSome)
      && decide ((e :: es).length + ([] : List Keyword).length + (if ([] : List Keyword).isEmpty then 0 else 1) < 30)) = true := by rfl)
    (hline : (apos.endLine == cpos.line) = true := by rfl) (hs : starEach (e :: es) X.env = (false, eval e X.env) :: starEach es X.env := by rfl) (hplain : (backTo cpos (starEach es X.env)).any (·.1) = false := by rfl) :
    PE X (.Call (.Attribute o name apos) (e :: es) [] cpos) (tBM K T r to t) := by
  subst eK
  exact pe_bm pa slot hty hm ho ha hbase hfew hline hs hplain
/-- xs.count(k), whole numbers -/
def rCountI (K : PySem.W.Frag) : V → List V → Hp → VK → Prop := fun x xs H Q => ∃ (a : Addr) (ns : List Int) (k : Int), x = V.ref a ∧ xs = [.int k] ∧ SqL K H a (ns.map V.int) ∧ Q (.int (ns.count k : Nat)) H
theorem mt_countI {X : Cx} : MtR X "list.count" (rCountI X.K) := by
  intro pins s σ H x xs v us Q I rx rxs h
  obtain ⟨a, ns, k, rfl, rfl, hs, q⟩ := h
  cases rx
  obtain ⟨u, rfl, ru⟩ := rxs.one
  obtain ⟨t, rfl⟩ := ru
  obtain ⟨its, rv, hl, _⟩ := I.list hs
  exact count_list_ints hl.isList rv.ints ⟨.int (ns.count k : Nat), H, I.tok _, ⟨_, rfl⟩, q⟩
end Fm
end FFmBmK
section FLC
set_option Elab.async false
set_option linter.all false
set_option maxRecDepth 100000
set_option maxHeartbeats 4000000
local macro_rules | `(tactic| walk_at "ne") => `(tactic| first | assumption | (apply Ne.symm; assumption) | exact L2.ne_of_none (by assumption) (by assumption) | exact Ne.symm (L2.ne_of_none (by assumption) (by assumption)))
local macro_rules | `(tactic| walk_at "hl") => `(tactic| first | assumption | exact L2.upd_same | (refine Eq.trans (L2.upd_ne (by walk_at "ne")) ?_; walk_at "hl"))
local macro_rules | `(tactic| walk_at "sd") => `(tactic| first | (with_reducible show (_ : Int) < _; omega) | (with_reducible show (_ : Int) ≤ _; omega) | assumption | decide | exact ⟨by assumption, by assumption⟩ | exact ⟨by decide, by decide⟩ | exact Or.inr ⟨by decide, by decide⟩ | exact Or.inl ⟨by omega, by omega⟩ | rfl)
local macro_rules | `(tactic| walk_at "st1") => `(tactic| first
  | refine ⟨_, rfl, ?_⟩
  | refine ⟨_, _, rfl, rfl, ?_⟩
  | refine ⟨_, _, rfl, ?_⟩
  | (refine ⟨_, _, _, _, rfl, rfl, L2.SqL.of (by walk_at "hl"), rfl, ?_⟩)
  | (refine ⟨_, _, _, _, rfl, rfl, L2.SqT.of (by walk_at "hl"), rfl, ?_⟩)
  | (refine ⟨_, _, _, _, rfl, rfl, (by walk_at "hl"), rfl, ?_⟩)
  | (refine And.intro (by walk_at "sd") ?_)
  )
local macro_rules | `(tactic| walk_at "st") => `(tactic| repeat walk_at "st1")
local macro_rules | `(tactic| walk_at "op") => `(tactic| try dsimp only [L2.tSeq, L2.tAsg, L2.tOp, L2.tVar, L2.tC, L2.gSub, L2.rI, L2.rI0, L2.rIxL, L2.rIxT, L2.rSetL, L2.tIfS, L2.tTest, L2.tRet, L2.gName, L2.tNext, L2.tAnd, L2.tOr, L2.tNot, L2.tAndV, L2.tOrV, L2.tNotV, L2.tB, L2.tCB, L2.tCons, L2.tNil, L2.tCall, L2.tTup, L2.tLst, L2.tChain, L2.tUn, L2.tPar, L2.tDrop, L2.tIf, L2.tBM, L2.tBM0, L2.rAppend, L2.rCat, L2.rIsi, L2.rIsiT, L2.gTup, L2.gCons, L2.gNil, Fm.tFor_eq, Fm.tLc_eq, Fm.tLc2_eq, L2.iTup, L2.iList, L2.iRng1, L2.iRng2, L2.tSl, L2.tPart, L2.tNoPart, L2.rSlL, L2.rEq, L2.rNe, L2.rU, L2.rEqD, L2.rNeD, Fm.tRevT, Fm.rLenS, Fm.rTupOf, Fm.rLstOf, L2.tDNewK, L2.tCallS, L2.WE, Fm.wKeep, Fm.rIsK, Fm.rIsKT, List.cons_append, List.nil_append, L2.tYes])
namespace Fm
open PySem PySem.Spec PyProof.Rows L2
abbrev s_law_order : Stmt := top 45
abbrev N_law_order : List Str := ["jar", "m", "left", "k"]
theorem sc_law_order : FnScope N_law_order ["jar", "m"] (defScope s_law_order) := ⟨rfl, rfl, rfl, by decide +kernel, rfl, by decide +kernel, by decide +kernel⟩
section
variable {P : Program} {w : World} {K : PySem.W.Frag} {mg : Str → Option Value} {base : Heap}
/-! ### numbers in an order -/
theorem erase_perm : ∀ {l : List Nat} {i : Nat} (h : i < l.length), (l[i] :: l.eraseIdx i).Perm l
  | x :: l, 0, _ => List.Perm.refl _
  | x :: l, i + 1, h => by
    have hl : i < l.length := by simpa using h
    have ih := erase_perm hl
    show (l[i] :: x :: l.eraseIdx i).Perm (x :: l)
    exact (List.Perm.swap x l[i] _).trans (List.Perm.cons x ih)
theorem map_erase : ∀ (l : List Nat) (i : Nat), (l.map fun k : Nat => V.int (k : Nat)).eraseIdx i = (l.eraseIdx i).map fun k : Nat => V.int (k : Nat)
  | [], _ => rfl
  | x :: l, 0 => rfl
  | x :: l, i + 1 => by
    show V.int _ :: _ = V.int _ :: _
    rw [map_erase l i]
def spOrder : Sp := fun vs H Q _ => ∃ (p : Addr) (m N : Nat), vs = [.ref p, .int (m : Nat)] ∧ 1 ≤ m ∧ m ≤ 6 ∧ N + m ≤ 1000000000 ∧ Jar H p N ∧
  ∀ (q : Addr) (l : List Nat) (H' : Hp), H q = none → H' q = some (.lst (l.map fun k : Nat => V.int (k : Nat))) → l.Perm (List.range m) → Jar H' p (N + m) → Ext p H H' → Q (.ref q) H'
theorem ok_law_order (D : Df K mg "_law_order" s_law_order ["jar", "m"]) (T : Nms mg) (c_law_dip : CallOk P w K mg base CX0 1 "_law_dip" ["jar", "many"] spDip) : CallOk P w K mg base CX0 2 "_law_order" ["jar", "m"] spOrder := by
  refine df_ok D sc_law_order (fun vs H Q E h => ?_) (fun f cdv A outer s H vs Q E hr h => ?_)
  · obtain ⟨p, m, N, rfl, _⟩ := h
    rfl
  · obtain ⟨p, m, N, rfl, h1, h6, hN, hJ, k⟩ := h
    have nd := sc_law_order.nd
    refine ⟨_, (pss_cons (ps_set (i := 2) nd rfl (Or.inr rfl) (pe_listRg (by rfl) (by rfl) T.n_list (prg_1 (by rfl) T.n_range (pv 1))))
      (pss_one (ps_ret (pe_lc (own := [("k", 3)]) (g := (gName 3)) (tt := tYes) (by rfl) nd (pi_range1 rfl T.n_range (pa_cons (pv 1) pa_nil)) (blkOk_by (own := [("k", 3)]) (N := N_law_order) (sc := defScope s_law_order) (by decide +kernel)) (fun _ _ _ _ _ => (pg_name (i := 3) nd rfl (Or.inl rfl))) (fun _ _ _ _ _ => pts_nil) (fun _ _ _ _ _ => (pe_bmK (K := K) rfl PySem.F.plainAttrs_list PySem.F.slot_list_pop PySem.F.type_list_pop mt_popAt (pv 2) (pa_cons (pe_cc c_law_dip (hr.mono (by omega)) (pa_cons (pv 0) (pa_cons (pe_callB (r := rLenS K) call_lenS (by rfl) T.n_len (by decide +kernel) (pa_cons (pv 2) pa_nil)) pa_nil))) pa_nil))))))), ?_⟩
    walk_at "op"
    refine ⟨_, rfl, _, rfl, RgOk.of_le (by decide) (by omega) (by decide) (by omega), fun L hL => ?_⟩
    have eL : rgV 0 (m : Int) = (List.range m).map fun k : Nat => V.int (k : Nat) := by
      unfold rgV
      rw [show ((m : Int) - 0).toNat = m by omega]
      refine List.map_congr_left fun i _ => ?_
      rw [Int.zero_add]
    rw [eL]
    have nJL := hJ.ne hL
    have s1 := same_new (o := .lst ((List.range m).map fun k : Nat => V.int (k : Nat))) hL
    have hJ1 := hJ.same s1
    have hLL : upd H L (.lst ((List.range m).map fun k : Nat => V.int (k : Nat))) L = some (.lst ((List.range m).map fun k : Nat => V.int (k : Nat))) := upd_same
    have x1 : Ext p H (upd H L (.lst ((List.range m).map fun k : Nat => V.int (k : Nat)))) := Same.ext s1 p
    generalize upd H L (.lst ((List.range m).map fun k : Nat => V.int (k : Nat))) = G1 at *
    refine ⟨_, rfl, _, rfl, by omega, by omega, ?_⟩
    rw [Int.toNat_natCast]
    refine fun R hR => ?_
    have nLR : L ≠ R := ne_of_none hLL hR
    have nJR := hJ1.ne hR
    have hRH : H R = none := by
      cases q : H R with
      | none => rfl
      | some u =>
        have := x1 _ _ q (Ne.symm nJR)
        rw [hR] at this
        cases this
    refine lI walk_range (fun i G => Ext p H G ∧ Jar G p (N + i) ∧ ∃ left got : List Nat, G L = some (.lst (left.map fun k : Nat => V.int (k : Nat))) ∧ G R = some (.lst (got.map fun k : Nat => V.int (k : Nat))) ∧ (got ++ left).Perm (List.range m) ∧ got.length = i)
      ⟨x1.trans (Same.ext (same_new hR) p), hJ1.up nJR, List.range m, [], by rw [upd_ne nLR]; exact hLL, upd_same, List.Perm.refl _, rfl⟩ (fun _ _ _ _ => True.intro) ?_ ?_
    · rintro i x _ G hi ⟨xG, hJG, left, got, hLG, hRG, hP, hgl⟩ ⟨rfl, rfl⟩
      have hlen : left.length = m - i := by
        have := hP.length_eq
        rw [List.length_append, List.length_range] at this
        omega
      walk_at "op"
      refine ⟨rfl, ?_⟩
      refine iteT ?_
      refine ⟨_, rfl, .inl ⟨rfl, _, SqL.of hLG⟩, ?_⟩
      refine ⟨_, rfl, _, rfl, L, _, rfl, .inl (SqL.of hLG), ?_⟩
      rw [List.length_map, hlen]
      refine ⟨p, ((m - i : Nat) : Int), N + i, rfl, by omega, Nat.lt_of_le_of_lt (Nat.log2_le_self _) (by omega), by omega, hJG, fun kk G2 k0 k1 hJ2 x2 => ?_⟩
      have hL2 := x2 _ _ hLG nJL.symm
      have hR2 := x2 _ _ hRG nJR.symm
      obtain ⟨t, rfl⟩ : ∃ t : Nat, kk = (t : Int) := ⟨kk.toNat, by omega⟩
      have ht : t < left.length := by omega
      refine ⟨L, _, t, t, .int (left[t] : Nat), rfl, rfl, hL2, by omega, by omega, (ixN_seq (ixN_of (by rw [List.length_map]; exact ht))).1, by rw [List.getElem?_map, List.getElem?_eq_getElem ht]; rfl, ?_⟩
      have pm : (got ++ [left[t]] ++ left.eraseIdx t).Perm (List.range m) := by
        refine List.Perm.trans ?_ hP
        rw [List.append_assoc]
        exact List.Perm.append_left got (erase_perm ht)
      refine ⟨got.map fun k : Nat => V.int (k : Nat), by rw [upd_ne nLR.symm]; exact hR2, by rw [List.length_map]; exact Nat.lt_of_le_of_lt (show got.length ≤ 6 by omega) (by rw [sizeLine_eq]; omega), fun b u eb nb => ?_, (hJ2.up nJL).up nJR, left.eraseIdx t, got ++ [left[t]], ?_, ?_, pm, by rw [List.length_append, hgl]; rfl⟩
      · rw [upd_ne (ne_of_none eb hRH), upd_ne (ne_of_none eb hL)]
        exact x2 b u (xG b u eb nb) nb
      · rw [upd_ne nLR, upd_same, map_erase]
      · rw [upd_same, List.map_append]
        rfl
    · rintro G ⟨xG, hJG, left, got, hLG, hRG, hP, hgl⟩
      have hlen : left.length = 0 := by
        have := hP.length_eq
        rw [List.length_append, List.length_range] at this
        omega
      rw [List.length_eq_zero_iff.mp hlen, List.append_nil] at hP
      exact k R got G hRH hRG hP hJG xG
end
end Fm
end FLC
section FLD
set_option Elab.async false
set_option linter.all false
set_option maxRecDepth 100000
set_option maxHeartbeats 4000000
local macro_rules | `(tactic| walk_at "ne") => `(tactic| first | assumption | (apply Ne.symm; assumption) | exact L2.ne_of_none (by assumption) (by assumption) | exact Ne.symm (L2.ne_of_none (by assumption) (by assumption)))
local macro_rules | `(tactic| walk_at "hl") => `(tactic| first | assumption | exact L2.upd_same | (refine Eq.trans (L2.upd_ne (by walk_at "ne")) ?_; walk_at "hl"))
local macro_rules | `(tactic| walk_at "sd") => `(tactic| first | (with_reducible show (_ : Int) < _; omega) | (with_reducible show (_ : Int) ≤ _; omega) | assumption | decide | exact ⟨by assumption, by assumption⟩ | exact ⟨by decide, by decide⟩ | exact Or.inr ⟨by decide, by decide⟩ | exact Or.inl ⟨by omega, by omega⟩ | rfl)
local macro_rules | `(tactic| walk_at "st1") => `(tactic| first
  | refine ⟨_, rfl, ?_⟩
  | refine ⟨_, _, rfl, rfl, ?_⟩
  | refine ⟨_, _, rfl, ?_⟩
  | (refine ⟨_, _, _, _, rfl, rfl, L2.SqL.of (by walk_at "hl"), rfl, ?_⟩)
  | (refine ⟨_, _, _, _, rfl, rfl, L2.SqT.of (by walk_at "hl"), rfl, ?_⟩)
  | (refine ⟨_, _, _, _, rfl, rfl, (by walk_at "hl"), rfl, ?_⟩)
  | (refine And.intro (by walk_at "sd") ?_)
  )
local macro_rules | `(tactic| walk_at "st") => `(tactic| repeat walk_at "st1")
local macro_rules | `(tactic| walk_at "op") => `(tactic| try dsimp only [L2.tSeq, L2.tAsg, L2.tOp, L2.tVar, L2.tC, L2.gSub, L2.rI, L2.rI0, L2.rIxL, L2.rIxT, L2.rSetL, L2.tIfS, L2.tTest, L2.tRet, L2.gName, L2.tNext, L2.tAnd, L2.tOr, L2.tNot, L2.tAndV, L2.tOrV, L2.tNotV, L2.tB, L2.tCB, L2.tCons, L2.tNil, L2.tCall, L2.tTup, L2.tLst, L2.tChain, L2.tUn, L2.tPar, L2.tDrop, L2.tIf, L2.tBM, L2.tBM0, L2.rAppend, L2.rCat, L2.rIsi, L2.rIsiT, L2.gTup, L2.gCons, L2.gNil, Fm.tFor_eq, Fm.tLc_eq, Fm.tLc2_eq, L2.iTup, L2.iList, L2.iRng1, L2.iRng2, L2.tSl, L2.tPart, L2.tNoPart, L2.rSlL, L2.rEq, L2.rNe, L2.rU, L2.rEqD, L2.rNeD, Fm.tRevT, Fm.rLenS, Fm.rTupOf, Fm.rLstOf, L2.tDNewK, L2.tCallS, L2.WE, Fm.wKeep, Fm.rIsK, Fm.rIsKT, List.cons_append, List.nil_append, L2.tYes])
namespace Fm
open PySem PySem.Spec PyProof.Rows L2
abbrev s_law_stay : Stmt := top 46
abbrev N_law_stay : List Str := ["kind", "calls", "m", "back", "number", "b", "a"]
theorem sc_law_stay : FnScope N_law_stay ["kind", "calls"] (defScope s_law_stay) := ⟨rfl, rfl, rfl, by decide +kernel, rfl, by decide +kernel, by decide +kernel⟩
section
variable {P : Program} {w : World} {K : PySem.W.Frag} {mg : Str → Option Value} {base : Heap}
/-! ### tables by kinds -/
def rowF (m : Nat) (g : Nat → Nat) : List Int := (List.range m).map fun b => ((g b : Nat) : Int)
def tabF (m : Nat) (S : Nat → Nat → Nat) : PyData := .tuple ((List.range m).map fun a => rowD (rowF m (S a)))
def callF (l : List Nat) (i : Nat) : Nat := l.getD i 0
def backF (l : List Nat) (a : Nat) : Nat := l.idxOf a
theorem calls_of {m : Nat} {l : List Nat} (h : l.Perm (List.range m)) : FmC.Calls m (callF l) (backF l) := by
  have hlen : l.length = m := by rw [h.length_eq, List.length_range]
  have mem : ∀ a, a < m → a ∈ l := fun a ha => h.mem_iff.mpr (List.mem_range.mpr ha)
  have nd : l.Nodup := h.nodup_iff.mpr List.nodup_range
  refine ⟨fun a ha => ?_, fun a ha => ?_, fun a ha => ?_, fun a ha => ?_⟩
  · have e : callF l a = l[a]'(by omega) := by unfold callF; rw [List.getD_eq_getElem?_getD, List.getElem?_eq_getElem (by omega)]; rfl
    rw [e]
    exact List.mem_range.mp (h.mem_iff.mp (List.getElem_mem _))
  · have := List.idxOf_lt_length_iff.mpr (mem a ha)
    unfold backF
    omega
  · have hi := List.idxOf_lt_length_iff.mpr (mem a ha)
    unfold callF backF
    rw [List.getD_eq_getElem?_getD, List.getElem?_eq_getElem hi]
    exact List.getElem_idxOf hi
  · have e : callF l a = l[a]'(by omega) := by unfold callF; rw [List.getD_eq_getElem?_getD, List.getElem?_eq_getElem (by omega)]; rfl
    unfold backF
    rw [e]
    exact nd.idxOf_getElem a (by omega)
theorem rowF_snoc (m : Nat) (g : Nat → Nat) : rowF (m + 1) g = rowF m g ++ [((g m : Nat) : Int)] := by unfold rowF; rw [List.range_succ, List.map_append]; rfl
theorem eqI_self (a : Int) : eqV (.int a) (.int a) = true := by unfold eqV; simp
theorem eqI_ne {a b : Nat} (h : a ≠ b) : eqV (.int (a : Nat)) (.int (b : Nat)) = false := by
  unfold eqV
  simp
  omega
def spStay : Sp := fun vs H Q _ => ∃ (p q : Addr) (u : HO) (kind m : Nat) (l : List Nat), vs = [.int (kind : Nat), .ref q] ∧ H p = some u ∧ kind < 6 ∧ 1 ≤ m ∧ m ≤ 6 ∧ H q = some (.lst (l.map fun k : Nat => V.int (k : Nat))) ∧ l.Perm (List.range m) ∧
  ∀ v H', Dat H' p v (tabF m (FmC.stayOf kind m (callF l) (backF l))) → Same H H' → Q v H'
theorem ok_law_stay (D : Df K mg "_law_stay" s_law_stay ["kind", "calls"]) (T : Nms mg) (c_law_word : CallOk P w K mg base CX0 1 "_law_word" ["kind", "a", "b", "m"] spWord) : CallOk P w K mg base CX0 2 "_law_stay" ["kind", "calls"] spStay := by
  refine df_ok D sc_law_stay (fun vs H Q E h => ?_) (fun f cdv A outer s H vs Q E hr h => ?_)
  · obtain ⟨p, q, u, kind, m, l, rfl, _⟩ := h
    rfl
  · obtain ⟨p, q, u, kind, m, l, rfl, hp, hk, h1, h6, hq, hP, k⟩ := h
    have nd := sc_law_stay.nd
    have C := calls_of hP
    have hlen : l.length = m := by rw [hP.length_eq, List.length_range]
    have hgl : ∀ i, i < m → (l.map fun k : Nat => V.int (k : Nat))[i]? = some (V.int (callF l i : Nat)) := fun i hi => by
      rw [List.getElem?_map, List.getElem?_eq_getElem (by omega)]
      unfold callF
      rw [List.getD_eq_getElem?_getD, List.getElem?_eq_getElem (by omega)]
      rfl
    refine ⟨_, (pss_cons (ps_set (i := 2) nd rfl (Or.inr rfl) (pe_callB (r := rLenS K) call_lenS (by rfl) T.n_len (by decide +kernel) (pa_cons (pv 1) pa_nil)))
      (pss_cons (ps_set (i := 3) nd rfl (Or.inr rfl) (pe_lc (own := [("number", 4)]) (g := (gName 4)) (tt := tYes) (by rfl) nd (pi_range1 rfl T.n_range (pa_cons (pv 2) pa_nil)) (blkOk_by (own := [("number", 4)]) (N := N_law_stay) (sc := defScope s_law_stay) (by decide +kernel)) (fun _ _ _ _ _ => (pg_name (i := 4) nd rfl (Or.inl rfl))) (fun _ _ _ _ _ => pts_nil) (fun _ _ _ _ _ => (pe_bmK (K := K) (r := rIndex K) rfl PySem.F.plainAttrs_list PySem.F.slot_list_index PySem.F.type_list_index mt_index (pv 1) (pa_cons (pv 4) pa_nil)))))
      (pss_one (ps_ret (pe_callTy (r := rTupOf K) call_tupOf (by rfl) T.n_tuple (by decide +kernel) (pa_cons (pe_lc (own := [("a", 6)]) (g := (gName 6)) (tt := tYes) (by rfl) nd (pi_range1 rfl T.n_range (pa_cons (pv 2) pa_nil)) (blkOk_by (own := [("a", 6)]) (N := N_law_stay) (sc := defScope s_law_stay) (by decide +kernel)) (fun _ _ _ _ _ => (pg_name (i := 6) nd rfl (Or.inr rfl))) (fun _ _ _ _ _ => pts_nil) (fun _ _ _ _ _ => (pe_callTy (r := rTupOf K) call_tupOf (by rfl) T.n_tuple (by decide +kernel) (pa_cons (pe_lc (own := [("b", 5)]) (g := (gName 5)) (tt := tYes) (by rfl) nd (pi_range1 rfl T.n_range (pa_cons (pv 2) pa_nil)) (blkOk_by (own := [("b", 5)]) (N := N_law_stay) (sc := relS _ (defScope s_law_stay)) (by decide +kernel)) (fun _ _ _ _ _ => (pg_name (i := 5) nd rfl (Or.inl rfl))) (fun _ _ _ _ _ => pts_nil) (fun _ _ _ _ _ => (pe_ix (r := rIxL K) ix_list (pv 1) (pe_cc c_law_word (hr.mono (by omega)) (pa_cons (pv 0) (pa_cons (pe_ix (r := rIxL K) ix_list (pv 3) (pv 6) (fun _ _ => rfl)) (pa_cons (pe_ix (r := rIxL K) ix_list (pv 3) (pv 5) (fun _ _ => rfl)) (pa_cons (pv 2) pa_nil))))) (fun _ _ => rfl)))) pa_nil)))) pa_nil)))))), ?_⟩
    walk_at "op"
    refine ⟨_, rfl, q, _, rfl, .inl (SqL.of hq), ?_⟩
    rw [List.length_map, hlen]
    refine ⟨_, rfl, _, rfl, by omega, by omega, ?_⟩
    rw [Int.toNat_natCast]
    refine fun B hB => ?_
    refine lI walk_range (fun i G => Same H G ∧ G B = some (.lst ((rowF i (backF l)).map V.int))) ⟨same_new hB, upd_same⟩ (fun _ _ _ _ => True.intro) ?_ ?_
    · rintro i x _ G hi ⟨sG, hBG⟩ ⟨rfl, rfl⟩
      walk_at "op"
      refine ⟨rfl, ?_⟩
      refine iteT ?_
      rw [Int.zero_add]
      refine ⟨_, rfl, .inl ⟨rfl, _, SqL.of (sG _ _ hq)⟩, _, rfl, q, _, _, backF l i, .int (callF l (backF l i) : Nat), rfl, rfl, SqL.of (sG _ _ hq), rfl, ?_, hgl _ (C.bm i hi), ?_, ?_, ?_⟩
      · rw [List.all_eq_true]
        intro x hx
        obtain ⟨k, _, rfl⟩ := List.mem_map.mp hx
        rfl
      · rw [C.cb i hi]
        exact eqI_self _
      · intro m' z hm hz
        have hb := C.bm i hi
        rw [hgl m' (by omega)] at hz
        cases hz
        refine eqI_ne fun e => ?_
        have : backF l (callF l m') = backF l i := by rw [e]
        rw [C.bc m' (by omega)] at this
        omega
      · refine ⟨_, hBG, by unfold rowF; rw [List.length_map, List.length_map, List.length_range]; exact Nat.lt_of_le_of_lt (show i ≤ 6 by omega) (by rw [sizeLine_eq]; omega), sameOff sG hB, ?_⟩
        rw [upd_same, rowF_snoc, List.map_append]
        rfl
    · rintro G ⟨sG, hBG⟩
      have hgb : ∀ i, i < m → ((rowF m (backF l)).map V.int)[i]? = some (V.int (backF l i : Nat)) := fun i hi => by
        unfold rowF
        rw [List.getElem?_map, List.getElem?_map, List.getElem?_range hi]
        rfl
      walk_at "op"
      refine ⟨_, rfl, _, rfl, by omega, by omega, ?_⟩
      rw [Int.toNat_natCast]
      refine fun D0 hD0 => ?_
      refine lI walk_range (fun i G2 => Same G G2 ∧ ∃ ws, G2 D0 = some (.lst ws) ∧ Dats G2 p ws (((List.range m).take i).map fun a => rowD (rowF m (FmC.stayOf kind m (callF l) (backF l) a)))) ⟨same_new hD0, [], upd_same, Dats.nil⟩ (fun _ _ _ _ => True.intro) ?_ ?_
      · rintro a x _ G2 ha ⟨s2, ws, hw, hW⟩ ⟨rfl, rfl⟩
        have sH2 := sG.trans s2
        have hga : (List.range m)[a]? = some a := List.getElem?_range ha
        walk_at "op"
        refine ⟨rfl, ?_⟩
        refine iteT ?_
        refine ⟨_, rfl, _, rfl, by omega, by omega, ?_⟩
        rw [Int.toNat_natCast]
        refine fun R hR => ?_
        have nDR : D0 ≠ R := ne_of_none hw hR
        refine lI walk_range (fun j G3 => Same G2 G3 ∧ G3 R = some (.lst ((rowF j (FmC.stayOf kind m (callF l) (backF l) a)).map V.int))) ⟨same_new hR, upd_same⟩ (fun _ _ _ _ => True.intro) ?_ ?_
        · rintro b x _ G3 hb ⟨s3, hR3⟩ ⟨rfl, rfl⟩
          have sH3 := sH2.trans s3
          have s03 := s2.trans s3
          walk_at "op"
          refine ⟨rfl, ?_⟩
          refine iteT ?_
          rw [Int.zero_add, Int.zero_add]
          have hw6 := (FmC.word_facts m (by omega) kind hk _ (C.bm a ha) _ (C.bm b hb)).1
          refine ⟨_, rfl, _, rfl, _, rfl, _, rfl, B, _, _, _, rfl, rfl, SqL.of (s03 _ _ hBG), atI_nat (hgb a ha), _, rfl, _, rfl, B, _, _, _, rfl, rfl, SqL.of (s03 _ _ hBG), atI_nat (hgb b hb), _, rfl, kind, backF l a, backF l b, m, rfl, hk, C.bm a ha, C.bm b hb, h6, fun G4 s4 => ?_⟩
          refine ⟨q, _, _, _, rfl, rfl, SqL.of ((sH3.trans s4) _ _ hq), atI_nat (hgl _ hw6), ?_⟩
          refine ⟨_, s4 _ _ hR3, by unfold rowF; rw [List.length_map, List.length_map, List.length_range]; exact Nat.lt_of_le_of_lt (show b ≤ 6 by omega) (by rw [sizeLine_eq]; omega), sameOff (s3.trans s4) hR, ?_⟩
          rw [upd_same, rowF_snoc, List.map_append]
          rfl
        · rintro G3 ⟨s3, hR3⟩
          refine ⟨R, _, rfl, .inl ⟨SqL.of hR3, fun t ht => ?_⟩⟩
          have s4 := s3.trans (same_new (o := .tup ((rowF m (FmC.stayOf kind m (callF l) (backF l) a)).map V.int)) ht)
          have hw4 := s4 _ _ hw
          have hwl : ws.length ≤ 6 := by
            rw [hW.1, List.length_map, List.length_take, List.length_range]
            omega
          refine ⟨ws, hw4, Nat.lt_of_le_of_lt hwl (by rw [sizeLine_eq]; omega), sameOff (s2.trans s4) hD0, ws ++ [.ref t], upd_same, ?_⟩
          rw [tk_snoc hga, List.map_append]
          refine (Dats.setL hw4 ⟨hW.1, fun i x d a b => (hW.2 i x d a b).same s4⟩ (fun d hd => by obtain ⟨r, _, rfl⟩ := List.mem_map.mp hd; exact noList_ints' _)).snoc (Dat.setL hw4 (.tup upd_same (pne_of hp (sH2.trans s3) ht) (by rw [List.length_map, List.length_map]) fun i x d a b => (Dats.ints (p := p) _).2 i x d a b) (noList_ints' _))
      · rintro G2 ⟨s2, ws, hw, hW⟩
        rw [show (List.range m).take m = List.range m from List.take_of_length_le (by rw [List.length_range]; exact Nat.le_refl _)] at hW
        refine ⟨D0, ws, rfl, .inl ⟨SqL.of hw, fun t ht => ?_⟩⟩
        exact k _ _ (Dat.new ht (pne_of hp (sG.trans s2) ht) hW) ((sG.trans s2).trans (same_new ht))
end
end Fm
end FLD
section FLE
set_option Elab.async false
set_option linter.all false
set_option maxRecDepth 100000
set_option maxHeartbeats 4000000
local macro_rules | `(tactic| walk_at "ne") => `(tactic| first | assumption | (apply Ne.symm; assumption) | exact L2.ne_of_none (by assumption) (by assumption) | exact Ne.symm (L2.ne_of_none (by assumption) (by assumption)))
local macro_rules | `(tactic| walk_at "hl") => `(tactic| first | assumption | exact L2.upd_same | (refine Eq.trans (L2.upd_ne (by walk_at "ne")) ?_; walk_at "hl"))
local macro_rules | `(tactic| walk_at "sd") => `(tactic| first | (with_reducible show (_ : Int) < _; omega) | (with_reducible show (_ : Int) ≤ _; omega) | assumption | decide | exact ⟨by assumption, by assumption⟩ | exact ⟨by decide, by decide⟩ | exact Or.inr ⟨by decide, by decide⟩ | exact Or.inl ⟨by omega, by omega⟩ | rfl)
local macro_rules | `(tactic| walk_at "st1") => `(tactic| first
  | refine ⟨_, rfl, ?_⟩
  | refine ⟨_, _, rfl, rfl, ?_⟩
  | refine ⟨_, _, rfl, ?_⟩
  | (refine ⟨_, _, _, _, rfl, rfl, L2.SqL.of (by walk_at "hl"), rfl, ?_⟩)
  | (refine ⟨_, _, _, _, rfl, rfl, L2.SqT.of (by walk_at "hl"), rfl, ?_⟩)
  | (refine ⟨_, _, _, _, rfl, rfl, (by walk_at "hl"), rfl, ?_⟩)
  | (refine And.intro (by walk_at "sd") ?_)
  )
local macro_rules | `(tactic| walk_at "st") => `(tactic| repeat walk_at "st1")
local macro_rules | `(tactic| walk_at "op") => `(tactic| try dsimp only [L2.tSeq, L2.tAsg, L2.tOp, L2.tVar, L2.tC, L2.gSub, L2.rI, L2.rI0, L2.rIxL, L2.rIxT, L2.rSetL, L2.tIfS, L2.tTest, L2.tRet, L2.gName, L2.tNext, L2.tAnd, L2.tOr, L2.tNot, L2.tAndV, L2.tOrV, L2.tNotV, L2.tB, L2.tCB, L2.tCons, L2.tNil, L2.tCall, L2.tTup, L2.tLst, L2.tChain, L2.tUn, L2.tPar, L2.tDrop, L2.tIf, L2.tBM, L2.tBM0, L2.rAppend, L2.rCat, L2.rIsi, L2.rIsiT, L2.gTup, L2.gCons, L2.gNil, Fm.tFor_eq, Fm.tLc_eq, Fm.tLc2_eq, L2.iTup, L2.iList, L2.iRng1, L2.iRng2, L2.tSl, L2.tPart, L2.tNoPart, L2.rSlL, L2.rEq, L2.rNe, L2.rU, L2.rEqD, L2.rNeD, Fm.tRevT, Fm.rLenS, Fm.rTupOf, Fm.rLstOf, L2.tDNewK, L2.tCallS, L2.WE, Fm.wKeep, Fm.rIsK, Fm.rIsKT, List.cons_append, List.nil_append, L2.tYes])
namespace Fm
open PySem PySem.Spec PyProof.Rows L2
abbrev s_law_up : Stmt := top 47
abbrev N_law_up : List Str := ["way", "calls", "goes", "m", "back", "number", "found", "a", "row", "b", "one"]
theorem sc_law_up : FnScope N_law_up ["way", "calls", "goes"] (defScope s_law_up) := ⟨rfl, rfl, rfl, by decide +kernel, rfl, by decide +kernel, by decide +kernel⟩
section
variable {P : Program} {w : World} {K : PySem.W.Frag} {mg : Str → Option Value} {base : Heap}
/-! ### tables of who goes up -/
theorem goes_list {way x y m : Nat} (hw : way < 3) : ([V.int (if (y : Int) < x then y else x), V.int (((x : Int) + y) / m), V.int 0] : List V)[way]? = some (.int (FmC.goesAt way x y m : Nat)) := by
  match way, hw with
  | 0, _ =>
    refine vint ?_
    show _ = ((min x y : Nat) : Int)
    split <;> omega
  | 1, _ =>
    refine vint ?_
    show _ = (((x + y) / m : Nat) : Int)
    rw [Int.natCast_ediv, Int.natCast_add]
  | 2, _ => exact vint rfl
def spUpT : Sp := fun vs H Q _ => ∃ (p q g : Addr) (u : HO) (way m : Nat) (l gl : List Nat), vs = [.int (way : Nat), .ref q, .ref g] ∧ H p = some u ∧ way < 3 ∧ 1 ≤ m ∧ m ≤ 6 ∧ H q = some (.lst (l.map fun k : Nat => V.int (k : Nat))) ∧ l.Perm (List.range m) ∧ H g = some (.lst (gl.map fun k : Nat => V.int (k : Nat))) ∧
  (∀ a b, a < m → b < m → FmC.goesAt way a b m < gl.length) ∧ ∀ v H', Dat H' p v (tabF m (FmC.upOf way m (backF l) (callF gl))) → Same H H' → Q v H'
theorem ok_law_up (D : Df K mg "_law_up" s_law_up ["way", "calls", "goes"]) (T : Nms mg) : CallOk P w K mg base CX0 1 "_law_up" ["way", "calls", "goes"] spUpT := by
  refine df_ok D sc_law_up (fun vs H Q E h => ?_) (fun f cdv A outer s H vs Q E hr h => ?_)
  · obtain ⟨p, q, g, u, way, m, l, gl, rfl, _⟩ := h
    rfl
  · obtain ⟨p, q, g, u, way, m, l, gl, rfl, hp, hk, h1, h6, hq, hP, hg, hgo, k⟩ := h
    have nd := sc_law_up.nd
    have C := calls_of hP
    have hlen : l.length = m := by rw [hP.length_eq, List.length_range]
    have hgl : ∀ i, i < m → (l.map fun k : Nat => V.int (k : Nat))[i]? = some (V.int (callF l i : Nat)) := fun i hi => by
      rw [List.getElem?_map, List.getElem?_eq_getElem (by omega)]
      unfold callF
      rw [List.getD_eq_getElem?_getD, List.getElem?_eq_getElem (by omega)]
      rfl
    have hgg : ∀ i, i < gl.length → (gl.map fun k : Nat => V.int (k : Nat))[i]? = some (V.int (callF gl i : Nat)) := fun i hi => by
      rw [List.getElem?_map, List.getElem?_eq_getElem hi]
      unfold callF
      rw [List.getD_eq_getElem?_getD, List.getElem?_eq_getElem hi]
      rfl
    refine ⟨_, (pss_cons (ps_set (i := 3) nd rfl (Or.inr rfl) (pe_callB (r := rLenS K) call_lenS (by rfl) T.n_len (by decide +kernel) (pa_cons (pv 1) pa_nil)))
      (pss_cons (ps_set (i := 4) nd rfl (Or.inr rfl) (pe_lc (own := [("number", 5)]) (g := (gName 5)) (tt := tYes) (by rfl) nd (pi_range1 rfl T.n_range (pa_cons (pv 3) pa_nil)) (blkOk_by (own := [("number", 5)]) (N := N_law_up) (sc := defScope s_law_up) (by decide +kernel)) (fun _ _ _ _ _ => (pg_name (i := 5) nd rfl (Or.inl rfl))) (fun _ _ _ _ _ => pts_nil) (fun _ _ _ _ _ => (pe_bmK (K := K) (r := rIndex K) rfl PySem.F.plainAttrs_list PySem.F.slot_list_index PySem.F.type_list_index mt_index (pv 1) (pa_cons (pv 5) pa_nil)))))
      (pss_cons (ps_set (i := 6) nd rfl (Or.inl rfl) (pe_lst pa_nil))
      (pss_cons (ps_for PassesOwn.never rfl (pi_range1 rfl T.n_range (pa_cons (pv 3) pa_nil)) (pg_name (i := 7) nd rfl (Or.inr rfl)) (pss_cons (ps_setLc (i := 8) (own := [("b", 9)]) (g := (gName 9)) (tt := tYes) (by rfl) nd rfl rfl (sw_true rfl rfl rfl (by decide +kernel)) (pi_range1 rfl T.n_range (pa_cons (pv 3) pa_nil)) (blkOk_by (own := [("b", 9)]) (N := N_law_up) (sc := defScope s_law_up) (by decide +kernel)) (fun _ _ _ _ _ => (pg_name (i := 9) nd rfl (Or.inl rfl))) (fun _ _ _ _ _ => pts_nil) (fun _ _ _ _ _ => (pe_ix (r := rIxL K) ix_list (pe_lst (pa_cons (pe_callB (call_min2 rfl) (by rfl) T.n_min (by decide +kernel) (pa_cons (pe_ix (r := rIxL K) ix_list (pv 4) (pv 7) (fun _ _ => rfl)) (pa_cons (pe_ix (r := rIxL K) ix_list (pv 4) (pv 9) (fun _ _ => rfl)) pa_nil))) (pa_cons (pe_op op_fdivW (pe_op op_add (pe_ix (r := rIxL K) ix_list (pv 4) (pv 7) (fun _ _ => rfl)) (pe_ix (r := rIxL K) ix_list (pv 4) (pv 9) (fun _ _ => rfl))) (pv 3)) (pa_cons pe_int pa_nil)))) (pv 0) (fun _ _ => rfl))))
      (pss_one (ps_expr (pe_bm PySem.F.plainAttrs_list PySem.F.slot_list_append PySem.F.type_list_append mt_append (pv 6) (pa_cons (pe_callTy (r := rTupOf K) call_tupOf (by rfl) T.n_tuple (by decide +kernel) (pa_cons (pe_lc (own := [("one", 10)]) (g := (gName 10)) (tt := tYes) (by rfl) nd (pi_list (pv 8)) (blkOk_by (own := [("one", 10)]) (N := N_law_up) (sc := defScope s_law_up) (by decide +kernel)) (fun _ _ _ _ _ => (pg_name (i := 10) nd rfl (Or.inl rfl))) (fun _ _ _ _ _ => pts_nil) (fun _ _ _ _ _ => (pe_ix (r := rIxL K) ix_list (pv 2) (pv 10) (fun _ _ => rfl)))) pa_nil)) pa_nil))))))
      (pss_one (ps_ret (pe_callTy (r := rTupOf K) call_tupOf (by rfl) T.n_tuple (by decide +kernel) (pa_cons (pv 6) pa_nil)))))))), ?_⟩
    walk_at "op"
    refine ⟨_, rfl, q, _, rfl, .inl (SqL.of hq), ?_⟩
    rw [List.length_map, hlen]
    refine ⟨_, rfl, _, rfl, by omega, by omega, ?_⟩
    rw [Int.toNat_natCast]
    refine fun B hB => ?_
    refine lI walk_range (fun i G => Same H G ∧ G B = some (.lst ((rowF i (backF l)).map V.int))) ⟨same_new hB, upd_same⟩ (fun _ _ _ _ => True.intro) ?_ ?_
    · rintro i x _ G hi ⟨sG, hBG⟩ ⟨rfl, rfl⟩
      walk_at "op"
      refine ⟨rfl, ?_⟩
      refine iteT ?_
      rw [Int.zero_add]
      refine ⟨_, rfl, .inl ⟨rfl, _, SqL.of (sG _ _ hq)⟩, _, rfl, q, _, _, backF l i, .int (callF l (backF l i) : Nat), rfl, rfl, SqL.of (sG _ _ hq), rfl, ?_, hgl _ (C.bm i hi), ?_, ?_, ?_⟩
      · rw [List.all_eq_true]
        intro x hx
        obtain ⟨k, _, rfl⟩ := List.mem_map.mp hx
        rfl
      · rw [C.cb i hi]
        exact eqI_self _
      · intro m' z hm hz
        have hb := C.bm i hi
        rw [hgl m' (by omega)] at hz
        cases hz
        refine eqI_ne fun e => ?_
        have : backF l (callF l m') = backF l i := by rw [e]
        rw [C.bc m' (by omega)] at this
        omega
      · refine ⟨_, hBG, by unfold rowF; rw [List.length_map, List.length_map, List.length_range]; exact Nat.lt_of_le_of_lt (show i ≤ 6 by omega) (by rw [sizeLine_eq]; omega), sameOff sG hB, ?_⟩
        rw [upd_same, rowF_snoc, List.map_append]
        rfl
    · rintro G ⟨sG, hBG⟩
      have hgb : ∀ i, i < m → ((rowF m (backF l)).map V.int)[i]? = some (V.int (backF l i : Nat)) := fun i hi => by
        unfold rowF
        rw [List.getElem?_map, List.getElem?_map, List.getElem?_range hi]
        rfl
      walk_at "op"
      refine ⟨Nat.zero_le _, fun D0 hD0 => ?_⟩
      have nBD : B ≠ D0 := ne_of_none hBG hD0
      refine ⟨_, rfl, _, rfl, by omega, by omega, ?_⟩
      rw [Int.toNat_natCast]
      refine fI walk_range (fun i σ G2 => ∃ (u7 u8 : Option V) (ws : List V), σ = [some (.int (way : Nat)), some (.ref q), some (.ref g), some (.int (m : Nat)), some (.ref B), none, some (.ref D0), u7, u8, none, none] ∧ Same G G2 ∧ G2 D0 = some (.lst ws) ∧ Dats G2 p ws (((List.range m).take i).map fun a => rowD (rowF m (FmC.upOf way m (backF l) (callF gl) a)))) ⟨none, none, [], rfl, same_new hD0, upd_same, Dats.nil⟩ (fun _ _ _ _ _ => True.intro) ?_ ?_
      · rintro a x σ _ G2 ha ⟨u7, u8, ws, rfl, s2, hw, hW⟩ ⟨rfl, rfl⟩
        dsimp only
        rw [Int.zero_add]
        have sH2 := sG.trans s2
        have hga : (List.range m)[a]? = some a := List.getElem?_range ha
        walk_at "op"
        refine ⟨_, rfl, _, rfl, by omega, by omega, ?_⟩
        rw [Int.toNat_natCast]
        refine fun R hR => ?_
        have nDR : D0 ≠ R := ne_of_none hw hR
        refine lI walk_range (fun j G3 => Same G2 G3 ∧ G3 R = some (.lst ((rowF j (fun b => FmC.goesAt way (backF l a) (backF l b) m)).map V.int))) ⟨same_new hR, upd_same⟩ (fun _ _ _ _ => True.intro) ?_ ?_
        · rintro b x _ G3 hb ⟨s3, hR3⟩ ⟨rfl, rfl⟩
          have s03 := s2.trans s3
          walk_at "op"
          refine ⟨rfl, ?_⟩
          refine iteT ?_
          rw [Int.zero_add]
          have gB := s03 _ _ hBG
          refine ⟨_, rfl, _, rfl, B, _, _, _, rfl, rfl, SqL.of gB, atI_nat (hgb a ha), _, rfl, _, rfl, B, _, _, _, rfl, rfl, SqL.of gB, atI_nat (hgb b hb), _, _, rfl, ?_⟩
          refine ⟨_, rfl, _, rfl, B, _, _, _, rfl, rfl, SqL.of gB, atI_nat (hgb a ha), _, rfl, _, rfl, B, _, _, _, rfl, rfl, SqL.of gB, atI_nat (hgb b hb), _, _, rfl, rfl, ?_⟩
          refine ⟨_, rfl, _, _, rfl, rfl, ⟨by omega, Nat.lt_of_le_of_lt (Nat.log2_le_self _) (by omega)⟩, by show 3 ≤ sizeLine; decide, fun t ht => ?_⟩
          refine ⟨_, rfl, t, _, _, _, rfl, rfl, SqL.of upd_same, atI_nat (goes_list hk), ?_⟩
          have s4 := same_new (o := .lst [V.int (if ((backF l b : Nat) : Int) < (backF l a : Nat) then ((backF l b : Nat) : Int) else (backF l a : Nat)), V.int ((((backF l a : Nat) : Int) + (backF l b : Nat)) / (m : Nat)), V.int 0]) ht
          refine ⟨_, s4 _ _ hR3, by unfold rowF; rw [List.length_map, List.length_map, List.length_range]; exact Nat.lt_of_le_of_lt (show b ≤ 6 by omega) (by rw [sizeLine_eq]; omega), sameOff (s3.trans s4) hR, ?_⟩
          rw [upd_same, rowF_snoc, List.map_append]
          rfl
        · rintro G3 ⟨s3, hR3⟩
          have sH3 := sH2.trans s3
          have hw3 := s3 _ _ hw
          walk_at "op"
          refine ⟨_, rfl, .inl ⟨rfl, _, SqL.of hw3⟩, _, rfl, R, rfl, ⟨_, SqL.of hR3⟩, fun R2 hR2 => ?_⟩
          have hlr : ((rowF m (fun b => FmC.goesAt way (backF l a) (backF l b) m)).map V.int).length = m := by unfold rowF; rw [List.length_map, List.length_map, List.length_range]
          refine lI walk_list (fun j G4 => Same G3 G4 ∧ G4 R2 = some (.lst ((rowF j (FmC.upOf way m (backF l) (callF gl) a)).map V.int))) ⟨same_new hR2, upd_same⟩ (fun _ _ _ ⟨e, _⟩ => SqL.of (e _ _ hR3)) ?_ ?_
          · rintro b x _ G4 hb ⟨s4, hR4⟩ ⟨rfl, hxb⟩
            rw [hlr] at hb
            unfold rowF at hxb
            rw [List.getElem?_map, List.getElem?_map, List.getElem?_range hb] at hxb
            cases hxb
            walk_at "op"
            refine ⟨rfl, ?_⟩
            refine iteT ?_
            refine ⟨_, rfl, _, rfl, g, _, _, _, rfl, rfl, SqL.of ((sH3.trans s4) _ _ hg), atI_nat (hgg _ (hgo _ _ (C.bm a ha) (C.bm b hb))), ?_⟩
            refine ⟨_, hR4, by unfold rowF; rw [List.length_map, List.length_map, List.length_range]; exact Nat.lt_of_le_of_lt (show b ≤ 6 by omega) (by rw [sizeLine_eq]; omega), sameOff s4 hR2, ?_⟩
            rw [upd_same, rowF_snoc, List.map_append]
            rfl
          · rintro G4 ⟨s4, hR4⟩
            rw [hlr] at hR4
            refine ⟨R2, _, rfl, .inl ⟨SqL.of hR4, fun t ht => ?_⟩⟩
            have s5 := (s3.trans s4).trans (same_new (o := .tup ((rowF m (FmC.upOf way m (backF l) (callF gl) a)).map V.int)) ht)
            have hw5 := s5 _ _ hw
            have hwl : ws.length ≤ 6 := by
              rw [hW.1, List.length_map, List.length_take, List.length_range]
              omega
            refine ⟨D0, ws, .ref t, rfl, rfl, hw5, Nat.lt_of_le_of_lt hwl (by rw [sizeLine_eq]; omega), _, _, ws ++ [.ref t], rfl, sameOff (s2.trans s5) hD0, upd_same, ?_⟩
            rw [tk_snoc hga, List.map_append]
            refine (Dats.setL hw5 ⟨hW.1, fun i x d a b => (hW.2 i x d a b).same s5⟩ (fun d hd => by obtain ⟨r, _, rfl⟩ := List.mem_map.mp hd; exact noList_ints' _)).snoc (Dat.setL hw5 (.tup upd_same (pne_of hp (sH3.trans s4) ht) (by rw [List.length_map, List.length_map]) fun i x d a b => (Dats.ints (p := p) _).2 i x d a b) (noList_ints' _))
      · rintro σ G2 ⟨u7, u8, ws, rfl, s2, hw, hW⟩
        rw [show (List.range m).take m = List.range m from List.take_of_length_le (by rw [List.length_range]; exact Nat.le_refl _)] at hW
        walk_at "op"
        refine ⟨_, rfl, D0, ws, rfl, .inl ⟨SqL.of hw, fun t ht => ?_⟩⟩
        exact k _ _ (Dat.new ht (pne_of hp (sG.trans s2) ht) hW) ((sG.trans s2).trans (same_new ht))
end
end Fm
end FLE
section FLLs
set_option Elab.async false
set_option linter.all false
set_option maxRecDepth 100000
set_option maxHeartbeats 4000000
local macro_rules | `(tactic| walk_at "ne") => `(tactic| first | assumption | (apply Ne.symm; assumption) | exact L2.ne_of_none (by assumption) (by assumption) | exact Ne.symm (L2.ne_of_none (by assumption) (by assumption)))
local macro_rules | `(tactic| walk_at "hl") => `(tactic| first | assumption | exact L2.upd_same | (refine Eq.trans (L2.upd_ne (by walk_at "ne")) ?_; walk_at "hl"))
local macro_rules | `(tactic| walk_at "sd") => `(tactic| first | (with_reducible show (_ : Int) < _; omega) | (with_reducible show (_ : Int) ≤ _; omega) | assumption | decide | exact ⟨by assumption, by assumption⟩ | exact ⟨by decide, by decide⟩ | exact Or.inr ⟨by decide, by decide⟩ | exact Or.inl ⟨by omega, by omega⟩ | rfl)
local macro_rules | `(tactic| walk_at "st1") => `(tactic| first
  | refine ⟨_, rfl, ?_⟩
  | refine ⟨_, _, rfl, rfl, ?_⟩
  | refine ⟨_, _, rfl, ?_⟩
  | (refine ⟨_, _, _, _, rfl, rfl, L2.SqL.of (by walk_at "hl"), rfl, ?_⟩)
  | (refine ⟨_, _, _, _, rfl, rfl, L2.SqT.of (by walk_at "hl"), rfl, ?_⟩)
  | (refine ⟨_, _, _, _, rfl, rfl, (by walk_at "hl"), rfl, ?_⟩)
  | (refine And.intro (by walk_at "sd") ?_)
  )
local macro_rules | `(tactic| walk_at "st") => `(tactic| repeat walk_at "st1")
local macro_rules | `(tactic| walk_at "op") => `(tactic| try dsimp only [L2.tSeq, L2.tAsg, L2.tOp, L2.tVar, L2.tC, L2.gSub, L2.rI, L2.rI0, L2.rIxL, L2.rIxT, L2.rSetL, L2.tIfS, L2.tTest, L2.tRet, L2.gName, L2.tNext, L2.tAnd, L2.tOr, L2.tNot, L2.tAndV, L2.tOrV, L2.tNotV, L2.tB, L2.tCB, L2.tCons, L2.tNil, L2.tCall, L2.tTup, L2.tLst, L2.tChain, L2.tUn, L2.tPar, L2.tDrop, L2.tIf, L2.tBM, L2.tBM0, L2.rAppend, L2.rCat, L2.rIsi, L2.rIsiT, L2.gTup, L2.gCons, L2.gNil, Fm.tFor_eq, Fm.tLc_eq, Fm.tLc2_eq, L2.iTup, L2.iList, L2.iRng1, L2.iRng2, L2.tSl, L2.tPart, L2.tNoPart, L2.rSlL, L2.rEq, L2.rNe, L2.rU, L2.rEqD, L2.rNeD, Fm.tRevT, Fm.rLenS, Fm.rTupOf, Fm.rLstOf, L2.tDNewK, L2.tCallS, L2.WE, Fm.wKeep, Fm.rIsK, Fm.rIsKT, List.cons_append, List.nil_append, L2.tYes])
namespace Fm
open PySem PySem.Spec PyProof.Rows L2
section
variable {P : Program} {w : World} {K : PySem.W.Frag} {mg : Str → Option Value} {base : Heap}
def rowL (r : List Int) : PyData := .list (r.map PyData.int)
structure LL (H : Hp) (p L : Addr) (ws : List V) (fl : List (List Int)) : Prop where
  at_ : H L = some (.lst ws)
  len : ws.length = fl.length
  row : ∀ (j : Nat) (c : List Int), fl[j]? = some c → ∃ b : Addr, ws[j]? = some (V.ref b) ∧ H b = some (.lst (c.map V.int)) ∧ b ≠ L ∧ b ≠ p
theorem LL.nil {H : Hp} {p L : Addr} (h : H L = some (.lst [])) : LL H p L [] [] := ⟨h, rfl, fun j c e => by cases e⟩
theorem LL.same {H H' : Hp} {p L : Addr} {ws : List V} {fl : List (List Int)} (h : LL H p L ws fl) (e : Same H H') : LL H' p L ws fl :=
  ⟨e _ _ h.at_, h.len, fun j c q => by
    obtain ⟨b, e1, e2, e3⟩ := h.row j c q
    exact ⟨b, e1, e _ _ e2, e3⟩⟩
theorem LL.snoc {H : Hp} {p L b : Addr} {ws : List V} {fl : List (List Int)} {c : List Int} (h : LL H p L ws fl) (hb : H b = some (.lst (c.map V.int))) (n1 : b ≠ L) (n2 : b ≠ p) : LL (upd H L (.lst (ws ++ [.ref b]))) p L (ws ++ [.ref b]) (fl ++ [c]) := by
  refine ⟨upd_same, by rw [List.length_append, List.length_append, h.len]; rfl, fun j d q => ?_⟩
  by_cases hj : j < fl.length
  · rw [List.getElem?_append_left hj] at q
    obtain ⟨b', e1, e2, e3, e4⟩ := h.row j d q
    exact ⟨b', by rw [List.getElem?_append_left (by rw [h.len]; exact hj)]; exact e1, by rw [upd_ne e3]; exact e2, e3, e4⟩
  · rw [List.getElem?_append_right (by omega)] at q
    cases z : j - fl.length with
    | zero =>
      rw [z] at q
      cases q
      exact ⟨b, by rw [List.getElem?_append_right (by rw [h.len]; omega), h.len, z]; rfl, by rw [upd_ne n1]; exact hb, n1, n2⟩
    | succ k =>
      rw [z] at q
      cases q
theorem LL.dat {H : Hp} {p L : Addr} {ws : List V} {fl : List (List Int)} (h : LL H p L ws fl) (n : L ≠ p) : Dat H p (.ref L) (.list (fl.map rowL)) := by
  refine .lst h.at_ n (by rw [h.len, List.length_map]) fun i x d e1 e2 => ?_
  rw [List.getElem?_map] at e2
  cases q : fl[i]? with
  | none => rw [q] at e2; cases e2
  | some c =>
    rw [q] at e2
    cases e2
    obtain ⟨b, h1, h2, _, h4⟩ := h.row i c q
    rw [h1] at e1
    cases e1
    exact .lst h2 h4 (by rw [List.length_map, List.length_map]) fun j x d a b => (Dats.ints (H := H) (p := p) c).2 j x d a b
theorem LL.set {H : Hp} {p L E : Addr} {ws : List V} {fl : List (List Int)} {c : List Int} {f : Nat} (h : LL H p L ws fl) (hb : H E = some (.lst (c.map V.int))) (n1 : E ≠ L) (n2 : E ≠ p) : LL (upd H L (.lst (ws.set f (.ref E)))) p L (ws.set f (.ref E)) (fl.set f c) := by
  refine ⟨upd_same, by rw [List.length_set, List.length_set, h.len], fun j d q => ?_⟩
  rw [List.getElem?_set] at q
  by_cases hj : f = j
  · subst hj
    rw [if_pos rfl] at q
    by_cases hl : f < fl.length
    · rw [if_pos hl] at q
      cases q
      exact ⟨E, by rw [List.getElem?_set_self (by rw [h.len]; exact hl)], by rw [upd_ne n1]; exact hb, n1, n2⟩
    · rw [if_neg hl] at q
      cases q
  · rw [if_neg hj] at q
    obtain ⟨b, e1, e2, e3, e4⟩ := h.row j d q
    exact ⟨b, by rw [List.getElem?_set_ne hj]; exact e1, by rw [upd_ne e3]; exact e2, e3, e4⟩
theorem LL.updRow {H : Hp} {p L E : Addr} {ws : List V} {fl : List (List Int)} {c : List Int} {f : Nat} (h : LL H p L ws fl) (hw : ws[f]? = some (V.ref E)) (inj : ∀ j, ws[j]? = some (V.ref E) → j = f) : LL (upd H E (.lst (c.map V.int))) p L ws (fl.set f c) := by
  have hf : f < fl.length := by
    rw [← h.len]
    exact (List.getElem?_eq_some_iff.mp hw).1
  obtain ⟨b, e1, e2, e3, e4⟩ := h.row f fl[f] (List.getElem?_eq_getElem hf)
  rw [hw] at e1
  cases e1
  refine ⟨by rw [upd_ne e3.symm]; exact h.at_, by rw [List.length_set, h.len], fun j d q => ?_⟩
  rw [List.getElem?_set] at q
  by_cases hj : f = j
  · subst hj
    rw [if_pos rfl, if_pos hf] at q
    cases q
    exact ⟨E, hw, upd_same, e3, e4⟩
  · rw [if_neg hj] at q
    obtain ⟨b, g1, g2, g3, g4⟩ := h.row j d q
    have nb : b ≠ E := fun z => by
      subst z
      exact hj (inj j g1).symm
    exact ⟨b, g1, by rw [upd_ne nb]; exact g2, g3, g4⟩
theorem LL.ext {H H' : Hp} {p L : Addr} {ws : List V} {fl : List (List Int)} (h : LL H p L ws fl) (e : Ext p H H') (nL : L ≠ p) : LL H' p L ws fl :=
  ⟨e _ _ h.at_ nL, h.len, fun j c q => by
    obtain ⟨b, e1, e2, e3, e4⟩ := h.row j c q
    exact ⟨b, e1, e _ _ e2 e4, e3, e4⟩⟩
def Inj (ws : List V) : Prop := ∀ (i1 i2 : Nat) (b : Addr), ws[i1]? = some (V.ref b) → ws[i2]? = some (V.ref b) → i1 = i2
def Fresh (H0 : Hp) (ws : List V) : Prop := ∀ (i : Nat) (b : Addr), ws[i]? = some (V.ref b) → H0 b = none
theorem snoc_get {ws : List V} {l b : Addr} {i : Nat} (e : (ws ++ [V.ref l])[i]? = some (V.ref b)) : ws[i]? = some (V.ref b) ∨ (i = ws.length ∧ b = l) := by
  by_cases hi : i < ws.length
  · rw [List.getElem?_append_left hi] at e
    exact .inl e
  · rw [List.getElem?_append_right (by omega)] at e
    cases z : i - ws.length with
    | zero =>
      rw [z] at e
      cases e
      exact .inr ⟨by omega, rfl⟩
    | succ w => rw [z] at e; cases e
theorem Inj.snoc {ws : List V} {l : Addr} (h : Inj ws) (n : ∀ (i : Nat) (b : Addr), ws[i]? = some (V.ref b) → b ≠ l) : Inj (ws ++ [V.ref l]) := fun i1 i2 b e1 e2 => by
  rcases snoc_get e1 with q1 | ⟨q1, q2⟩
  · rcases snoc_get e2 with r1 | ⟨r1, r2⟩
    · exact h i1 i2 b q1 r1
    · exact absurd r2 (n i1 b q1)
  · rcases snoc_get e2 with r1 | ⟨r1, r2⟩
    · exact absurd q2 (n i2 b r1)
    · rw [q1, r1]
theorem Fresh.snoc {H0 : Hp} {ws : List V} {l : Addr} (h : Fresh H0 ws) (hl : H0 l = none) : Fresh H0 (ws ++ [V.ref l]) := fun i b e => by
  rcases snoc_get e with q | ⟨_, q⟩
  · exact h i b q
  · rw [q]; exact hl
theorem LL.off {H : Hp} {p L l : Addr} {ws : List V} {fl : List (List Int)} (h : LL H p L ws fl) (hl : H l = none) : ∀ (i : Nat) (b : Addr), ws[i]? = some (V.ref b) → b ≠ l := fun i b e z => by
  obtain ⟨b', e1, e2, _⟩ := h.row i (fl[i]'(by rw [← h.len]; exact (List.getElem?_eq_some_iff.mp e).1)) (List.getElem?_eq_getElem _)
  rw [e] at e1
  cases e1
  subst z
  rw [hl] at e2
  cases e2
end
end Fm
end FLLs
section FLF
set_option Elab.async false
set_option linter.all false
set_option maxRecDepth 100000
set_option maxHeartbeats 4000000
local macro_rules | `(tactic| walk_at "ne") => `(tactic| first | assumption | (apply Ne.symm; assumption) | exact L2.ne_of_none (by assumption) (by assumption) | exact Ne.symm (L2.ne_of_none (by assumption) (by assumption)))
local macro_rules | `(tactic| walk_at "hl") => `(tactic| first | assumption | exact L2.upd_same | (refine Eq.trans (L2.upd_ne (by walk_at "ne")) ?_; walk_at "hl"))
local macro_rules | `(tactic| walk_at "sd") => `(tactic| first | (with_reducible show (_ : Int) < _; omega) | (with_reducible show (_ : Int) ≤ _; omega) | assumption | decide | exact ⟨by assumption, by assumption⟩ | exact ⟨by decide, by decide⟩ | exact Or.inr ⟨by decide, by decide⟩ | exact Or.inl ⟨by omega, by omega⟩ | rfl)
local macro_rules | `(tactic| walk_at "st1") => `(tactic| first
  | refine ⟨_, rfl, ?_⟩
  | refine ⟨_, _, rfl, rfl, ?_⟩
  | refine ⟨_, _, rfl, ?_⟩
  | (refine ⟨_, _, _, _, rfl, rfl, L2.SqL.of (by walk_at "hl"), rfl, ?_⟩)
  | (refine ⟨_, _, _, _, rfl, rfl, L2.SqT.of (by walk_at "hl"), rfl, ?_⟩)
  | (refine ⟨_, _, _, _, rfl, rfl, (by walk_at "hl"), rfl, ?_⟩)
  | (refine And.intro (by walk_at "sd") ?_)
  )
local macro_rules | `(tactic| walk_at "st") => `(tactic| repeat walk_at "st1")
local macro_rules | `(tactic| walk_at "op") => `(tactic| try dsimp only [L2.tSeq, L2.tAsg, L2.tOp, L2.tVar, L2.tC, L2.gSub, L2.rI, L2.rI0, L2.rIxL, L2.rIxT, L2.rSetL, L2.tIfS, L2.tTest, L2.tRet, L2.gName, L2.tNext, L2.tAnd, L2.tOr, L2.tNot, L2.tAndV, L2.tOrV, L2.tNotV, L2.tB, L2.tCB, L2.tCons, L2.tNil, L2.tCall, L2.tTup, L2.tLst, L2.tChain, L2.tUn, L2.tPar, L2.tDrop, L2.tIf, L2.tBM, L2.tBM0, L2.rAppend, L2.rCat, L2.rIsi, L2.rIsiT, L2.gTup, L2.gCons, L2.gNil, Fm.tFor_eq, Fm.tLc_eq, Fm.tLc2_eq, L2.iTup, L2.iList, L2.iRng1, L2.iRng2, L2.tSl, L2.tPart, L2.tNoPart, L2.rSlL, L2.rEq, L2.rNe, L2.rU, L2.rEqD, L2.rNeD, Fm.tRevT, Fm.rLenS, Fm.rTupOf, Fm.rLstOf, L2.tDNewK, L2.tCallS, L2.WE, Fm.wKeep, Fm.rIsK, Fm.rIsKT, List.cons_append, List.nil_append, L2.tYes])
namespace Fm
open PySem PySem.Spec PyProof.Rows L2
abbrev s_law_wild : Stmt := top 48
abbrev N_law_wild : List Str := ["jar", "m", "rows", "b", "a"]
theorem sc_law_wild : FnScope N_law_wild ["jar", "m"] (defScope s_law_wild) := ⟨rfl, rfl, rfl, by decide +kernel, rfl, by decide +kernel, by decide +kernel⟩
section
variable {P : Program} {w : World} {K : PySem.W.Frag} {mg : Str → Option Value} {base : Heap}
/-! ### a table of any kind -/
def WildR (m : Nat) (rows : List (List Int)) : Prop := ∀ r ∈ rows, r.length = m ∧ ∀ x ∈ r, 0 ≤ x ∧ x < (m : Int)
def wildF (rows : List (List Int)) (a b : Nat) : Nat := ((rows.getD (min a b) []).getD (max a b) 0).toNat
theorem WildR.get {m : Nat} {rows : List (List Int)} (h : WildR m rows) (hl : rows.length = m) {a b : Nat} (ha : a < m) (hb : b < m) : ∃ r, rows[a]? = some r ∧ r[b]? = some ((rows.getD a []).getD b 0) ∧ 0 ≤ (rows.getD a []).getD b 0 ∧ (rows.getD a []).getD b 0 < (m : Int) := by
  have ha' : a < rows.length := by omega
  obtain ⟨h1, h2⟩ := h _ (List.getElem_mem ha')
  have e : rows.getD a [] = rows[a] := by rw [List.getD_eq_getElem?_getD, List.getElem?_eq_getElem ha']; rfl
  have e2 : rows[a].getD b 0 = rows[a][b]'(by omega) := by rw [List.getD_eq_getElem?_getD, List.getElem?_eq_getElem (by omega)]; rfl
  rw [e, e2]
  exact ⟨rows[a], List.getElem?_eq_getElem ha', List.getElem?_eq_getElem (by omega), h2 _ (List.getElem_mem _)⟩
def spWild : Sp := fun vs H Q _ => ∃ (p : Addr) (m N : Nat), vs = [.ref p, .int (m : Nat)] ∧ 1 ≤ m ∧ m ≤ 6 ∧ N + 36 ≤ 1000000000 ∧ Jar H p N ∧
  ∀ v H' (W : Nat → Nat → Nat), Dat H' p v (tabF m W) → (∀ a b, a < m → b < m → W a b < m ∧ W a b = W b a) → Jar H' p (N + 36) → Ext p H H' → Q v H'
theorem ok_law_wild (D : Df K mg "_law_wild" s_law_wild ["jar", "m"]) (T : Nms mg) (c_law_dip : CallOk P w K mg base CX0 1 "_law_dip" ["jar", "many"] spDip) : CallOk P w K mg base CX0 2 "_law_wild" ["jar", "m"] spWild := by
  refine df_ok D sc_law_wild (fun vs H Q E h => ?_) (fun f cdv A outer s H vs Q E hr h => ?_)
  · obtain ⟨p, m, N, rfl, _⟩ := h
    rfl
  · obtain ⟨p, m, N, rfl, h1, h6, hN, hJ, k⟩ := h
    have nd := sc_law_wild.nd
    refine ⟨_, (pss_cons (ps_set (i := 2) nd rfl (Or.inr rfl) (pe_lc (own := [("a", 4)]) (g := (gName 4)) (tt := tYes) (by rfl) nd (pi_range1 rfl T.n_range (pa_cons (pv 1) pa_nil)) (blkOk_by (own := [("a", 4)]) (N := N_law_wild) (sc := defScope s_law_wild) (by decide +kernel)) (fun _ _ _ _ _ => (pg_name (i := 4) nd rfl (Or.inl rfl))) (fun _ _ _ _ _ => pts_nil) (fun _ _ _ _ _ => (pe_lc (own := [("b", 3)]) (g := (gName 3)) (tt := tYes) (by rfl) nd (pi_range1 rfl T.n_range (pa_cons (pv 1) pa_nil)) (blkOk_by (own := [("b", 3)]) (N := N_law_wild) (sc := relS _ (defScope s_law_wild)) (by decide +kernel)) (fun _ _ _ _ _ => (pg_name (i := 3) nd rfl (Or.inl rfl))) (fun _ _ _ _ _ => pts_nil) (fun _ _ _ _ _ => (pe_cc c_law_dip (hr.mono (by omega)) (pa_cons (pv 0) (pa_cons (pv 1) pa_nil))))))))
      (pss_one (ps_ret (pe_callTy (r := rTupOf K) call_tupOf (by rfl) T.n_tuple (by decide +kernel) (pa_cons (pe_lc (own := [("a", 4)]) (g := (gName 4)) (tt := tYes) (by rfl) nd (pi_range1 rfl T.n_range (pa_cons (pv 1) pa_nil)) (blkOk_by (own := [("a", 4)]) (N := N_law_wild) (sc := defScope s_law_wild) (by decide +kernel)) (fun _ _ _ _ _ => (pg_name (i := 4) nd rfl (Or.inr rfl))) (fun _ _ _ _ _ => pts_nil) (fun _ _ _ _ _ => (pe_callTy (r := rTupOf K) call_tupOf (by rfl) T.n_tuple (by decide +kernel) (pa_cons (pe_lc (own := [("b", 3)]) (g := (gName 3)) (tt := tYes) (by rfl) nd (pi_range1 rfl T.n_range (pa_cons (pv 1) pa_nil)) (blkOk_by (own := [("b", 3)]) (N := N_law_wild) (sc := relS _ (defScope s_law_wild)) (by decide +kernel)) (fun _ _ _ _ _ => (pg_name (i := 3) nd rfl (Or.inl rfl))) (fun _ _ _ _ _ => pts_nil) (fun _ _ _ _ _ => (pe_ix (r := rIxL K) ix_list (pe_ix (r := rIxL K) ix_list (pv 2) (pe_callB (call_min2 rfl) (by rfl) T.n_min (by decide +kernel) (pa_cons (pv 4) (pa_cons (pv 3) pa_nil))) (fun _ _ => rfl)) (pe_callB (call_max2 rfl) (by rfl) T.n_max (by decide +kernel) (pa_cons (pv 4) (pa_cons (pv 3) pa_nil))) (fun _ _ => rfl)))) pa_nil)))) pa_nil))))), ?_⟩
    walk_at "op"
    refine ⟨_, rfl, _, rfl, by omega, by omega, ?_⟩
    rw [Int.toNat_natCast]
    refine fun R0 hR0 => ?_
    have nJ0 := hJ.ne hR0
    refine lI walk_range (fun i G => Ext p H G ∧ Jar G p (N + i * 6) ∧ ∃ ws rows, LL G p R0 ws rows ∧ rows.length = i ∧ WildR m rows) ⟨Same.ext (same_new hR0) p, hJ.up nJ0, [], [], LL.nil upd_same, rfl, fun r hr => by cases hr⟩ (fun _ _ _ _ => True.intro) ?_ ?_
    · rintro i x _ G hi ⟨xG, hJG, ws, rows, hLL, hrl, hW⟩ ⟨rfl, rfl⟩
      walk_at "op"
      refine ⟨rfl, ?_⟩
      refine iteT ?_
      refine ⟨_, rfl, _, rfl, by omega, by omega, ?_⟩
      rw [Int.toNat_natCast]
      refine fun R hR => ?_
      have nJR := hJG.ne hR
      have n0R : R0 ≠ R := ne_of_none hLL.at_ hR
      refine lI walk_range (fun j G2 => Ext p G G2 ∧ Jar G2 p (N + i * 6 + j) ∧ ∃ r : List Int, G2 R = some (.lst (r.map V.int)) ∧ r.length = j ∧ ∀ x ∈ r, 0 ≤ x ∧ x < (m : Int)) ⟨Same.ext (same_new hR) p, hJG.up nJR, [], upd_same, rfl, fun x hx => by cases hx⟩ (fun _ _ _ _ => True.intro) ?_ ?_
      · rintro j x _ G2 hj ⟨x2, hJ2, r, hr2, hrj, hrx⟩ ⟨rfl, rfl⟩
        walk_at "op"
        refine ⟨rfl, ?_⟩
        refine iteT ?_
        refine ⟨_, rfl, _, rfl, p, m, N + i * 6 + j, rfl, by omega, Nat.lt_of_le_of_lt (Nat.log2_le_self _) (by omega), by omega, hJ2, fun kk G3 k0 k1 hJ3 x3 => ?_⟩
        have hr3 := x3 _ _ hr2 nJR.symm
        refine ⟨_, hr3, by rw [List.length_map]; exact Nat.lt_of_le_of_lt (show r.length ≤ 6 by omega) (by rw [sizeLine_eq]; omega), fun b u eb nb => ?_, hJ3.up nJR, r ++ [kk], ?_, by rw [List.length_append, hrj]; rfl, fun x hx => ?_⟩
        · rw [upd_ne (ne_of_none eb hR)]
          exact x3 b u (x2 b u eb nb) nb
        · rw [upd_same, List.map_append]
          rfl
        · rcases List.mem_append.mp hx with hx | hx
          · exact hrx x hx
          · rw [List.mem_singleton.mp hx]
            exact ⟨k0, k1⟩
      · rintro G2 ⟨x2, hJ2, r, hr2, hrj, hrx⟩
        have hLL2 := hLL.ext x2 nJ0.symm
        have hR0H : R0 ≠ p := nJ0.symm
        have hwl : ws.length ≤ 6 := by rw [hLL2.len, hrl]; omega
        refine ⟨ws, hLL2.at_, Nat.lt_of_le_of_lt hwl (by rw [sizeLine_eq]; omega), fun b u eb nb => ?_, (hJ2.up nJ0).le (by omega), ws ++ [.ref R], rows ++ [r], hLL2.snoc hr2 n0R.symm nJR.symm, by rw [List.length_append, hrl]; rfl, fun r' hr' => ?_⟩
        · rw [upd_ne (ne_of_none eb hR0)]
          exact x2 b u (xG b u eb nb) nb
        · rcases List.mem_append.mp hr' with hr' | hr'
          · exact hW r' hr'
          · rw [List.mem_singleton.mp hr']
            exact ⟨hrj, hrx⟩
    · rintro G ⟨xG, hJG, ws, rows, hLL, hrl, hW⟩
      obtain ⟨uj, huj⟩ := hJG.here
      walk_at "op"
      refine ⟨_, rfl, _, rfl, by omega, by omega, ?_⟩
      rw [Int.toNat_natCast]
      refine fun D0 hD0 => ?_
      refine lI walk_range (fun i G2 => Same G G2 ∧ ∃ wd, G2 D0 = some (.lst wd) ∧ Dats G2 p wd (((List.range m).take i).map fun a => rowD (rowF m (wildF rows a)))) ⟨same_new hD0, [], upd_same, Dats.nil⟩ (fun _ _ _ _ => True.intro) ?_ ?_
      · rintro a x _ G2 ha ⟨s2, wd, hw, hWd⟩ ⟨rfl, rfl⟩
        have hga : (List.range m)[a]? = some a := List.getElem?_range ha
        walk_at "op"
        refine ⟨rfl, ?_⟩
        refine iteT ?_
        refine ⟨_, rfl, _, rfl, by omega, by omega, ?_⟩
        rw [Int.toNat_natCast]
        refine fun R hR => ?_
        refine lI walk_range (fun j G3 => Same G2 G3 ∧ G3 R = some (.lst ((rowF j (wildF rows a)).map V.int))) ⟨same_new hR, upd_same⟩ (fun _ _ _ _ => True.intro) ?_ ?_
        · rintro b x _ G3 hb ⟨s3, hR3⟩ ⟨rfl, rfl⟩
          have s03 := s2.trans s3
          have emin : (if ((b : Nat) : Int) < (a : Nat) then ((b : Nat) : Int) else (a : Nat)) = ((min a b : Nat) : Int) := by split <;> omega
          have emax : (if ((b : Nat) : Int) > (a : Nat) then ((b : Nat) : Int) else (a : Nat)) = ((max a b : Nat) : Int) := by split <;> omega
          obtain ⟨r, e1, e2, e3, e4⟩ := hW.get hrl (a := min a b) (b := max a b) (by omega) (by omega)
          obtain ⟨ra, g1, g2, _, _⟩ := hLL.row _ _ e1
          walk_at "op"
          refine ⟨rfl, ?_⟩
          refine iteT ?_
          rw [Int.zero_add, Int.zero_add]
          refine ⟨_, rfl, _, rfl, _, rfl, _, _, rfl, ?_⟩
          rw [emin]
          refine ⟨R0, ws, _, _, rfl, rfl, SqL.of (s03 _ _ hLL.at_), atI_nat g1, _, rfl, _, rfl, _, _, rfl, ?_⟩
          rw [emax]
          refine ⟨ra, _, _, _, rfl, rfl, SqL.of (s03 _ _ g2), atI_nat (by rw [List.getElem?_map, e2]; rfl), ?_⟩
          refine ⟨_, hR3, by unfold rowF; rw [List.length_map, List.length_map, List.length_range]; exact Nat.lt_of_le_of_lt (show b ≤ 6 by omega) (by rw [sizeLine_eq]; omega), sameOff s3 hR, ?_⟩
          rw [upd_same, rowF_snoc, List.map_append]
          have ew : ((wildF rows a b : Nat) : Int) = (rows.getD (min a b) []).getD (max a b) 0 := by
            unfold wildF
            omega
          rw [ew]
          rfl
        · rintro G3 ⟨s3, hR3⟩
          refine ⟨R, _, rfl, .inl ⟨SqL.of hR3, fun t ht => ?_⟩⟩
          have s4 := s3.trans (same_new (o := .tup ((rowF m (wildF rows a)).map V.int)) ht)
          have hw4 := s4 _ _ hw
          have hwl : wd.length ≤ 6 := by
            rw [hWd.1, List.length_map, List.length_take, List.length_range]
            omega
          refine ⟨wd, hw4, Nat.lt_of_le_of_lt hwl (by rw [sizeLine_eq]; omega), sameOff (s2.trans s4) hD0, wd ++ [.ref t], upd_same, ?_⟩
          rw [tk_snoc hga, List.map_append]
          refine (Dats.setL hw4 ⟨hWd.1, fun i x d a b => (hWd.2 i x d a b).same s4⟩ (fun d hd => by obtain ⟨r, _, rfl⟩ := List.mem_map.mp hd; exact noList_ints' _)).snoc (Dat.setL hw4 (.tup upd_same (pne_of huj (s2.trans s3) ht) (by rw [List.length_map, List.length_map]) fun i x d a b => (Dats.ints (p := p) _).2 i x d a b) (noList_ints' _))
      · rintro G2 ⟨s2, wd, hw, hWd⟩
        rw [show (List.range m).take m = List.range m from List.take_of_length_le (by rw [List.length_range]; exact Nat.le_refl _)] at hWd
        refine ⟨D0, wd, rfl, .inl ⟨SqL.of hw, fun t ht => ?_⟩⟩
        have s3 := s2.trans (same_new (o := .tup wd) ht)
        refine k _ _ (wildF rows) (Dat.new ht (pne_of huj s2 ht) hWd) (fun a b ha hb => ⟨?_, ?_⟩) ((hJG.same s3).le (by omega)) (xG.trans (Same.ext s3 p))
        · obtain ⟨r, e1, e2, e3, e4⟩ := hW.get hrl (a := min a b) (b := max a b) (by omega) (by omega)
          unfold wildF
          omega
        · unfold wildF
          rw [Nat.min_comm, Nat.max_comm]
end
end Fm
end FLF
section FLG
set_option Elab.async false
set_option linter.all false
set_option maxRecDepth 100000
set_option maxHeartbeats 4000000
local macro_rules | `(tactic| walk_at "ne") => `(tactic| first | assumption | (apply Ne.symm; assumption) | exact L2.ne_of_none (by assumption) (by assumption) | exact Ne.symm (L2.ne_of_none (by assumption) (by assumption)))
local macro_rules | `(tactic| walk_at "hl") => `(tactic| first | assumption | exact L2.upd_same | (refine Eq.trans (L2.upd_ne (by walk_at "ne")) ?_; walk_at "hl"))
local macro_rules | `(tactic| walk_at "sd") => `(tactic| first | (with_reducible show (_ : Int) < _; omega) | (with_reducible show (_ : Int) ≤ _; omega) | assumption | decide | exact ⟨by assumption, by assumption⟩ | exact ⟨by decide, by decide⟩ | exact Or.inr ⟨by decide, by decide⟩ | exact Or.inl ⟨by omega, by omega⟩ | rfl)
local macro_rules | `(tactic| walk_at "st1") => `(tactic| first
  | refine ⟨_, rfl, ?_⟩
  | refine ⟨_, _, rfl, rfl, ?_⟩
  | refine ⟨_, _, rfl, ?_⟩
  | (refine ⟨_, _, _, _, rfl, rfl, L2.SqL.of (by walk_at "hl"), rfl, ?_⟩)
  | (refine ⟨_, _, _, _, rfl, rfl, L2.SqT.of (by walk_at "hl"), rfl, ?_⟩)
  | (refine ⟨_, _, _, _, rfl, rfl, (by walk_at "hl"), rfl, ?_⟩)
  | (refine And.intro (by walk_at "sd") ?_)
  )
local macro_rules | `(tactic| walk_at "st") => `(tactic| repeat walk_at "st1")
local macro_rules | `(tactic| walk_at "op") => `(tactic| try dsimp only [L2.tSeq, L2.tAsg, L2.tOp, L2.tVar, L2.tC, L2.gSub, L2.rI, L2.rI0, L2.rIxL, L2.rIxT, L2.rSetL, L2.tIfS, L2.tTest, L2.tRet, L2.gName, L2.tNext, L2.tAnd, L2.tOr, L2.tNot, L2.tAndV, L2.tOrV, L2.tNotV, L2.tB, L2.tCB, L2.tCons, L2.tNil, L2.tCall, L2.tTup, L2.tLst, L2.tChain, L2.tUn, L2.tPar, L2.tDrop, L2.tIf, L2.tBM, L2.tBM0, L2.rAppend, L2.rCat, L2.rIsi, L2.rIsiT, L2.gTup, L2.gCons, L2.gNil, Fm.tFor_eq, Fm.tLc_eq, Fm.tLc2_eq, L2.iTup, L2.iList, L2.iRng1, L2.iRng2, L2.tSl, L2.tPart, L2.tNoPart, L2.rSlL, L2.rEq, L2.rNe, L2.rU, L2.rEqD, L2.rNeD, Fm.tRevT, Fm.rLenS, Fm.rTupOf, Fm.rLstOf, L2.tDNewK, L2.tCallS, L2.WE, Fm.wKeep, Fm.rIsK, Fm.rIsKT, List.cons_append, List.nil_append, L2.tYes])
namespace Fm
open PySem PySem.Spec PyProof.Rows L2
abbrev s_law_floor : Stmt := top 49
abbrev N_law_floor : List Str := ["jar", "m", "is_free", "calls", "way", "goes", "number", "kind"]
theorem sc_law_floor : FnScope N_law_floor ["jar", "m", "is_free"] (defScope s_law_floor) := ⟨rfl, rfl, rfl, by decide +kernel, rfl, by decide +kernel, by decide +kernel⟩
section
variable {P : Program} {w : World} {K : PySem.W.Frag} {mg : Str → Option Value} {base : Heap}
/-! ### a floor -/
def FlOk (m : Nat) (S U : Nat → Nat → Nat) : Prop := ∀ a b, a < m → b < m → S a b < m ∧ S a b = S b a ∧ U a b < m ∧ U a b = U b a ∧ ∀ c, c < m → S (S a b) c = S (S a c) b
theorem flok_up {m kind way : Nat} {c b : Nat → Nat} {gl : List Nat} (h6 : m ≤ 6) (hk : kind < 6) (C : FmC.Calls m c b) (hg : ∀ i, i < m + 2 → callF gl i < m) : FlOk m (FmC.stayOf kind m c b) (FmC.upOf way m b (callF gl)) := fun x y hx hy => by
  obtain ⟨z1, z2, z3⟩ := FmC.stay_facts (by omega) hk C hx hy
  obtain ⟨w1, w2⟩ := FmC.goes_in (way := way) (C.bm x hx) (C.bm y hy)
  refine ⟨z1, z2, ?_, ?_, z3⟩
  · unfold FmC.upOf
    exact hg _ w1
  · unfold FmC.upOf
    rw [w2]
theorem flok_wild {m kind : Nat} {c b W : Nat → Nat → Nat} {cf bf : Nat → Nat} (h6 : m ≤ 6) (hk : kind < 6) (C : FmC.Calls m cf bf) (hW : ∀ a b, a < m → b < m → W a b < m ∧ W a b = W b a) : FlOk m (FmC.stayOf kind m cf bf) W := fun x y hx hy => by
  obtain ⟨z1, z2, z3⟩ := FmC.stay_facts (by omega) hk C hx hy
  exact ⟨z1, z2, (hW x y hx hy).1, (hW x y hx hy).2, z3⟩
def spFloor : Sp := fun vs H Q _ => ∃ (p : Addr) (m N : Nat) (bf : Bool), vs = [.ref p, .int (m : Nat), .bl bf] ∧ 1 ≤ m ∧ m ≤ 6 ∧ N + 100 ≤ 1000000000 ∧ Jar H p N ∧
  ∀ v H' (S U : Nat → Nat → Nat), Dat H' p v (.tuple [tabF m S, tabF m U]) → FlOk m S U → (FmC.Even m S U ∨ bf = true) → Jar H' p (N + 100) → Ext p H H' → Q v H'
theorem ok_law_floor (D : Df K mg "_law_floor" s_law_floor ["jar", "m", "is_free"]) (T : Nms mg) (c_law_dip : CallOk P w K mg base CX0 1 "_law_dip" ["jar", "many"] spDip) (c_law_order : CallOk P w K mg base CX0 2 "_law_order" ["jar", "m"] spOrder)
    (c_law_stay : CallOk P w K mg base CX0 2 "_law_stay" ["kind", "calls"] spStay) (c_law_up : CallOk P w K mg base CX0 1 "_law_up" ["way", "calls", "goes"] spUpT) (c_law_wild : CallOk P w K mg base CX0 2 "_law_wild" ["jar", "m"] spWild) : CallOk P w K mg base CX0 3 "_law_floor" ["jar", "m", "is_free"] spFloor := by
  refine df_ok D sc_law_floor (fun vs H Q E h => ?_) (fun f cdv A outer s H vs Q E hr h => ?_)
  · obtain ⟨p, m, N, bf, rfl, _⟩ := h
    rfl
  · obtain ⟨p, m, N, bf, rfl, h1, h6, hN, hJ, k⟩ := h
    have nd := sc_law_floor.nd
    have l2 : ∀ {x : Nat}, x ≤ 8 → ((x : Nat) : Int).natAbs.log2 < 9000 := fun {x} hx => Nat.lt_of_le_of_lt (Nat.log2_le_self _) (by omega)
    refine ⟨_, (pss_cons (ps_set (i := 3) nd rfl (Or.inl rfl) (pe_cc c_law_order (hr.mono (by omega)) (pa_cons (pv 0) (pa_cons (pv 1) pa_nil))))
      (pss_cons (ps_set (i := 4) nd rfl (Or.inl rfl) (pe_cc c_law_dip (hr.mono (by omega)) (pa_cons (pv 0) (pa_cons pe_int pa_nil))))
      (pss_cons (ps_setLc (i := 5) (own := [("number", 6)]) (g := (gName 6)) (tt := tYes) (by rfl) nd rfl rfl (sw_true rfl rfl rfl (by decide +kernel)) (pi_range1 rfl T.n_range (pa_cons (pe_op op_add (pv 1) pe_int) pa_nil)) (blkOk_by (own := [("number", 6)]) (N := N_law_floor) (sc := defScope s_law_floor) (by decide +kernel)) (fun _ _ _ _ _ => (pg_name (i := 6) nd rfl (Or.inl rfl))) (fun _ _ _ _ _ => pts_nil) (fun _ _ _ _ _ => (pe_cc c_law_dip (hr.mono (by omega)) (pa_cons (pv 0) (pa_cons (pv 1) pa_nil)))))
      (pss_cons (ps_set (i := 7) nd rfl (Or.inl rfl) (pe_ifExp (pt_cmpR op_lt (pv 4) pe_int (nomark _)) (pv 4) (pe_cc c_law_dip (hr.mono (by omega)) (pa_cons (pv 0) (pa_cons pe_int pa_nil)))))
      (pss_cons (ps_if (PW.pt (pw_and (pt_val (pv 2)) (pw_and1 (pt_cmpR op_eq (pe_cc c_law_dip (hr.mono (by omega)) (pa_cons (pv 0) (pa_cons pe_int pa_nil))) pe_int (nomark _))))) (pss_one (ps_ret (pe_tup (pa_cons (pe_cc c_law_stay (hr.mono (by omega)) (pa_cons (pe_cc c_law_dip (hr.mono (by omega)) (pa_cons (pv 0) (pa_cons pe_int pa_nil))) (pa_cons (pv 3) pa_nil))) (pa_cons (pe_cc c_law_wild (hr.mono (by omega)) (pa_cons (pv 0) (pa_cons (pv 1) pa_nil))) pa_nil))))) pss_nil)
      (pss_one (ps_ret (pe_tup (pa_cons (pe_cc c_law_stay (hr.mono (by omega)) (pa_cons (pv 7) (pa_cons (pv 3) pa_nil))) (pa_cons (pe_cc c_law_up (hr.mono (by omega)) (pa_cons (pv 4) (pa_cons (pv 3) (pa_cons (pv 5) pa_nil)))) pa_nil)))))))))), ?_⟩
    walk_at "op"
    refine ⟨_, rfl, _, rfl, p, m, N, rfl, h1, h6, by omega, hJ, fun q l G1 hq hql hP hJ1 x1 => ?_⟩
    have nqp : q ≠ p := fun z => by
      obtain ⟨u, hu⟩ := hJ.here
      rw [z, hu] at hq
      cases hq
    have C := calls_of hP
    refine ⟨_, rfl, p, 3, N + m, rfl, by decide, by decide, by omega, hJ1, fun wy G2 w0 w1 hJ2 x2 => ?_⟩
    obtain ⟨way, rfl⟩ : ∃ way : Nat, wy = (way : Int) := ⟨wy.toNat, by omega⟩
    have hway : way < 3 := by omega
    have hq2 := x2 _ _ hql nqp
    have x12 := x1.trans x2
    refine ⟨_, rfl, _, 2, rfl, rfl, _, rfl, by omega, by omega, ?_⟩
    rw [show ((m : Int) + 2).toNat = m + 2 by omega]
    refine fun A0 hA0 => ?_
    have nJA := hJ2.ne hA0
    have nAp : A0 ≠ p := nJA.symm
    refine lI walk_range (fun i G => Ext p G2 G ∧ Jar G p (N + m + 1 + i) ∧ ∃ gl : List Nat, G A0 = some (.lst (gl.map fun k : Nat => V.int (k : Nat))) ∧ gl.length = i ∧ ∀ x ∈ gl, x < m) ⟨Same.ext (same_new hA0) p, hJ2.up nJA, [], upd_same, rfl, fun x hx => by cases hx⟩ (fun _ _ _ _ => True.intro) ?_ ?_
    · rintro i x _ G hi ⟨xG, hJG, gl, hgA, hgl, hgx⟩ ⟨rfl, rfl⟩
      walk_at "op"
      refine ⟨rfl, ?_⟩
      refine iteT ?_
      refine ⟨_, rfl, _, rfl, p, m, N + m + 1 + i, rfl, by omega, l2 (by omega), by omega, hJG, fun kk G4 k0 k1 hJ4 x4 => ?_⟩
      obtain ⟨kn, rfl⟩ : ∃ kn : Nat, kk = (kn : Int) := ⟨kk.toNat, by omega⟩
      have hA4 := x4 _ _ hgA nAp
      refine ⟨_, hA4, by rw [List.length_map]; exact Nat.lt_of_le_of_lt (show gl.length ≤ 8 by omega) (by rw [sizeLine_eq]; omega), fun b u eb nb => ?_, hJ4.up nJA, gl ++ [kn], ?_, by rw [List.length_append, hgl]; rfl, fun x hx => ?_⟩
      · rw [upd_ne (ne_of_none eb hA0)]
        exact x4 b u (xG b u eb nb) nb
      · rw [upd_same, List.map_append]
        rfl
      · rcases List.mem_append.mp hx with hx | hx
        · exact hgx x hx
        · rw [List.mem_singleton.mp hx]
          omega
    · rintro G3 ⟨xG, hJ3, gl, hgA, hgl, hgx⟩
      have hgm : ∀ i, i < m + 2 → callF gl i < m := fun i hi => by
        unfold callF
        rw [List.getD_eq_getElem?_getD, List.getElem?_eq_getElem (by omega)]
        exact hgx _ (List.getElem_mem _)
      have hq3 := xG _ _ hq2 nqp
      have x13 := x12.trans xG
      walk_at "op"
      refine ⟨_, rfl, _, 2, rfl, rfl, _, rfl, ?_⟩
      refine ite2 (fun c0 => ?_) (fun c0 => ?_)
      · have w2 : way < 2 := by have := of_decide_eq_true c0; omega
        have hkd : way < 6 := by omega
        have hkw : way = way ∨ way = 2 := .inl rfl
        refine ⟨_, rfl, ?_⟩
        cases bf with
        | false =>
          refine ⟨_, rfl, false, rfl, iteF (iteF ?_)⟩
          obtain ⟨um, hum⟩ := (hJ3).here
          refine ⟨_, rfl, _, rfl, p, q, um, way, m, l, rfl, hum, hkd, h1, h6, hq3, hP, fun v1 Ga d1 sa => ?_⟩
          refine ⟨_, rfl, _, rfl, _, rfl, p, q, A0, um, way, m, l, gl, rfl, sa _ _ hum, hway, h1, h6, sa _ _ (hq3), hP, sa _ _ (hgA), fun a b ha hb => by rw [hgl]; exact (FmC.goes_in ha hb).1, fun v2 Gb d2 sb => ?_⟩
          refine ⟨by show 2 ≤ sizeLine; decide, fun t ht => ?_⟩
          have sab := sa.trans sb
          refine k _ _ _ _ (Dat.new ht (pne_of hum sab ht) (Dats.cons (d1.same sb) (Dats.cons d2 Dats.nil))) (flok_up h6 hkd C hgm) (.inl (FmC.up_even (by omega) hway hkd hkw C)) ((((hJ3).same sab).up (pne_of hum sab ht).symm).le (by omega)) ((x13).trans ((Same.ext sab p).trans (Same.ext (same_new ht) p)))
        | true =>
          refine ⟨_, rfl, true, rfl, iteT ?_⟩
          refine ⟨_, rfl, p, 2, (N + m + 1 + (m + 2)), rfl, by decide, by decide, by omega, hJ3, fun dd Gc dd0 dd1 hJc xc => ?_⟩
          have hqc := xc _ _ (hq3) nqp
          have hgc := xc _ _ (hgA) nAp
          refine ⟨rfl, _, rfl, ?_⟩
          by_cases dz : dd = 0
          · rw [show decide (V.int dd = V.int 0) = true from decide_eq_true (by rw [dz])]
            refine iteT ?_
            refine ⟨_, rfl, p, 6, (N + m + 1 + (m + 2)) + 1, rfl, by decide, by decide, by omega, hJc, fun kq Gd kq0 kq1 hJd xd => ?_⟩
            obtain ⟨kz, rfl⟩ : ∃ kz : Nat, kq = (kz : Int) := ⟨kq.toNat, by omega⟩
            have hkz : kz < 6 := by omega
            obtain ⟨um, hum⟩ := hJd.here
            refine ⟨_, rfl, p, q, um, kz, m, l, rfl, hum, hkz, h1, h6, xd _ _ hqc nqp, hP, fun v1 Ge d1 se => ?_⟩
            refine ⟨_, rfl, _, rfl, p, m, (N + m + 1 + (m + 2)) + 1 + 1, rfl, h1, h6, by omega, hJd.same se, fun v2 Gf W d2 hW hJf xf => ?_⟩
            refine ⟨by show 2 ≤ sizeLine; decide, fun t ht => ?_⟩
            have ntp := (hJf.ne ht).symm
            refine k _ _ _ _ (Dat.new ht ntp (Dats.cons (d1.ext xf) (Dats.cons d2 Dats.nil))) (flok_wild (c := W) (b := W) h6 hkz C hW) (.inr rfl) ((hJf.up ntp.symm).le (by omega)) ((((x13).trans xc).trans (xd.trans (Same.ext se p))).trans (xf.trans (Same.ext (same_new ht) p)))
          · rw [show decide (V.int dd = V.int 0) = false from decide_eq_false (fun z => dz (by injection z))]
            refine iteF ?_
            obtain ⟨um, hum⟩ := (hJc).here
            refine ⟨_, rfl, _, rfl, p, q, um, way, m, l, rfl, hum, hkd, h1, h6, hqc, hP, fun v1 Ga d1 sa => ?_⟩
            refine ⟨_, rfl, _, rfl, _, rfl, p, q, A0, um, way, m, l, gl, rfl, sa _ _ hum, hway, h1, h6, sa _ _ (hqc), hP, sa _ _ (hgc), fun a b ha hb => by rw [hgl]; exact (FmC.goes_in ha hb).1, fun v2 Gb d2 sb => ?_⟩
            refine ⟨by show 2 ≤ sizeLine; decide, fun t ht => ?_⟩
            have sab := sa.trans sb
            refine k _ _ _ _ (Dat.new ht (pne_of hum sab ht) (Dats.cons (d1.same sb) (Dats.cons d2 Dats.nil))) (flok_up h6 hkd C hgm) (.inl (FmC.up_even (by omega) hway hkd hkw C)) ((((hJc).same sab).up (pne_of hum sab ht).symm).le (by omega)) (((x13).trans xc).trans ((Same.ext sab p).trans (Same.ext (same_new ht) p)))
      · have w2 : way = 2 := by have := of_decide_eq_false (Bool.eq_false_iff.mpr c0); omega
        refine ⟨_, rfl, p, 6, N + m + 1 + (m + 2), rfl, by decide, by decide, by omega, hJ3, fun kq G4 kq0 kq1 hJ4 x4 => ?_⟩
        obtain ⟨kind, rfl⟩ : ∃ kind : Nat, kq = (kind : Int) := ⟨kq.toNat, by omega⟩
        have hkd : kind < 6 := by omega
        have hkw : kind = way ∨ way = 2 := .inr w2
        have hq4 := x4 _ _ hq3 nqp
        have hg4 := x4 _ _ hgA nAp
        have x14 := x13.trans x4
        cases bf with
        | false =>
          refine ⟨_, rfl, false, rfl, iteF (iteF ?_)⟩
          obtain ⟨um, hum⟩ := (hJ4).here
          refine ⟨_, rfl, _, rfl, p, q, um, kind, m, l, rfl, hum, hkd, h1, h6, hq4, hP, fun v1 Ga d1 sa => ?_⟩
          refine ⟨_, rfl, _, rfl, _, rfl, p, q, A0, um, way, m, l, gl, rfl, sa _ _ hum, hway, h1, h6, sa _ _ (hq4), hP, sa _ _ (hg4), fun a b ha hb => by rw [hgl]; exact (FmC.goes_in ha hb).1, fun v2 Gb d2 sb => ?_⟩
          refine ⟨by show 2 ≤ sizeLine; decide, fun t ht => ?_⟩
          have sab := sa.trans sb
          refine k _ _ _ _ (Dat.new ht (pne_of hum sab ht) (Dats.cons (d1.same sb) (Dats.cons d2 Dats.nil))) (flok_up h6 hkd C hgm) (.inl (FmC.up_even (by omega) hway hkd hkw C)) ((((hJ4).same sab).up (pne_of hum sab ht).symm).le (by omega)) ((x14).trans ((Same.ext sab p).trans (Same.ext (same_new ht) p)))
        | true =>
          refine ⟨_, rfl, true, rfl, iteT ?_⟩
          refine ⟨_, rfl, p, 2, (N + m + 1 + (m + 2) + 1), rfl, by decide, by decide, by omega, hJ4, fun dd Gc dd0 dd1 hJc xc => ?_⟩
          have hqc := xc _ _ (hq4) nqp
          have hgc := xc _ _ (hg4) nAp
          refine ⟨rfl, _, rfl, ?_⟩
          by_cases dz : dd = 0
          · rw [show decide (V.int dd = V.int 0) = true from decide_eq_true (by rw [dz])]
            refine iteT ?_
            refine ⟨_, rfl, p, 6, (N + m + 1 + (m + 2) + 1) + 1, rfl, by decide, by decide, by omega, hJc, fun kq Gd kq0 kq1 hJd xd => ?_⟩
            obtain ⟨kz, rfl⟩ : ∃ kz : Nat, kq = (kz : Int) := ⟨kq.toNat, by omega⟩
            have hkz : kz < 6 := by omega
            obtain ⟨um, hum⟩ := hJd.here
            refine ⟨_, rfl, p, q, um, kz, m, l, rfl, hum, hkz, h1, h6, xd _ _ hqc nqp, hP, fun v1 Ge d1 se => ?_⟩
            refine ⟨_, rfl, _, rfl, p, m, (N + m + 1 + (m + 2) + 1) + 1 + 1, rfl, h1, h6, by omega, hJd.same se, fun v2 Gf W d2 hW hJf xf => ?_⟩
            refine ⟨by show 2 ≤ sizeLine; decide, fun t ht => ?_⟩
            have ntp := (hJf.ne ht).symm
            refine k _ _ _ _ (Dat.new ht ntp (Dats.cons (d1.ext xf) (Dats.cons d2 Dats.nil))) (flok_wild (c := W) (b := W) h6 hkz C hW) (.inr rfl) ((hJf.up ntp.symm).le (by omega)) ((((x14).trans xc).trans (xd.trans (Same.ext se p))).trans (xf.trans (Same.ext (same_new ht) p)))
          · rw [show decide (V.int dd = V.int 0) = false from decide_eq_false (fun z => dz (by injection z))]
            refine iteF ?_
            obtain ⟨um, hum⟩ := (hJc).here
            refine ⟨_, rfl, _, rfl, p, q, um, kind, m, l, rfl, hum, hkd, h1, h6, hqc, hP, fun v1 Ga d1 sa => ?_⟩
            refine ⟨_, rfl, _, rfl, _, rfl, p, q, A0, um, way, m, l, gl, rfl, sa _ _ hum, hway, h1, h6, sa _ _ (hqc), hP, sa _ _ (hgc), fun a b ha hb => by rw [hgl]; exact (FmC.goes_in ha hb).1, fun v2 Gb d2 sb => ?_⟩
            refine ⟨by show 2 ≤ sizeLine; decide, fun t ht => ?_⟩
            have sab := sa.trans sb
            refine k _ _ _ _ (Dat.new ht (pne_of hum sab ht) (Dats.cons (d1.same sb) (Dats.cons d2 Dats.nil))) (flok_up h6 hkd C hgm) (.inl (FmC.up_even (by omega) hway hkd hkw C)) ((((hJc).same sab).up (pne_of hum sab ht).symm).le (by omega)) (((x14).trans xc).trans ((Same.ext sab p).trans (Same.ext (same_new ht) p)))
end
end Fm
end FLG
section FLH2
set_option Elab.async false
set_option linter.all false
set_option maxRecDepth 100000
set_option maxHeartbeats 4000000
local macro_rules | `(tactic| walk_at "ne") => `(tactic| first | assumption | (apply Ne.symm; assumption) | exact L2.ne_of_none (by assumption) (by assumption) | exact Ne.symm (L2.ne_of_none (by assumption) (by assumption)))
local macro_rules | `(tactic| walk_at "hl") => `(tactic| first | assumption | exact L2.upd_same | (refine Eq.trans (L2.upd_ne (by walk_at "ne")) ?_; walk_at "hl"))
local macro_rules | `(tactic| walk_at "sd") => `(tactic| first | (with_reducible show (_ : Int) < _; omega) | (with_reducible show (_ : Int) ≤ _; omega) | assumption | decide | exact ⟨by assumption, by assumption⟩ | exact ⟨by decide, by decide⟩ | exact Or.inr ⟨by decide, by decide⟩ | exact Or.inl ⟨by omega, by omega⟩ | rfl)
local macro_rules | `(tactic| walk_at "st1") => `(tactic| first
  | refine ⟨_, rfl, ?_⟩
  | refine ⟨_, _, rfl, rfl, ?_⟩
  | refine ⟨_, _, rfl, ?_⟩
  | (refine ⟨_, _, _, _, rfl, rfl, L2.SqL.of (by walk_at "hl"), rfl, ?_⟩)
  | (refine ⟨_, _, _, _, rfl, rfl, L2.SqT.of (by walk_at "hl"), rfl, ?_⟩)
  | (refine ⟨_, _, _, _, rfl, rfl, (by walk_at "hl"), rfl, ?_⟩)
  | (refine And.intro (by walk_at "sd") ?_)
  )
local macro_rules | `(tactic| walk_at "st") => `(tactic| repeat walk_at "st1")
local macro_rules | `(tactic| walk_at "op") => `(tactic| try dsimp only [L2.tSeq, L2.tAsg, L2.tOp, L2.tVar, L2.tC, L2.gSub, L2.rI, L2.rI0, L2.rIxL, L2.rIxT, L2.rSetL, L2.tIfS, L2.tTest, L2.tRet, L2.gName, L2.tNext, L2.tAnd, L2.tOr, L2.tNot, L2.tAndV, L2.tOrV, L2.tNotV, L2.tB, L2.tCB, L2.tCons, L2.tNil, L2.tCall, L2.tTup, L2.tLst, L2.tChain, L2.tUn, L2.tPar, L2.tDrop, L2.tIf, L2.tBM, L2.tBM0, L2.rAppend, L2.rCat, L2.rIsi, L2.rIsiT, L2.gTup, L2.gCons, L2.gNil, Fm.tFor_eq, Fm.tLc_eq, Fm.tLc2_eq, L2.iTup, L2.iList, L2.iRng1, L2.iRng2, L2.tSl, L2.tPart, L2.tNoPart, L2.rSlL, L2.rEq, L2.rNe, L2.rU, L2.rEqD, L2.rNeD, Fm.tRevT, Fm.rLenS, Fm.rTupOf, Fm.rLstOf, L2.tDNewK, L2.tCallS, L2.WE, Fm.wKeep, Fm.rIsK, Fm.rIsKT, List.cons_append, List.nil_append, L2.tYes])
namespace Fm
open PySem PySem.Spec PyProof.Rows L2
abbrev s_law_house : Stmt := top 50
abbrev N_law_house : List Str := ["jar", "most", "floors", "m", "found", "is_free", "k", "forgets", "floor"]
theorem sc_law_house : FnScope N_law_house ["jar", "most", "floors"] (defScope s_law_house) := ⟨rfl, rfl, rfl, by decide +kernel, rfl, by decide +kernel, by decide +kernel⟩
section
variable {P : Program} {w : World} {K : PySem.W.Frag} {mg : Str → Option Value} {base : Heap}
/-! ### the law's house -/
abbrev Fl := (Nat → Nat → Nat) × (Nat → Nat → Nat)
def flD (m : Nat) (x : Fl) : PyData := .tuple [tabF m x.1, tabF m x.2]
/-- floors that stand on one another fairly -/
def Chain (m : Nat) : List Fl → Prop
  | [] => True
  | [x] => FlOk m x.1 x.2
  | x :: y :: l => FlOk m x.1 x.2 ∧ (FmC.Even m x.1 x.2 ∨ FmC.Forgets m y.1 y.2) ∧ Chain m (y :: l)
def headForgets (m : Nat) : List Fl → Prop
  | [] => True
  | y :: _ => FmC.Forgets m y.1 y.2
theorem Chain.cons {m : Nat} {x : Fl} {l : List Fl} (h : Chain m l) (ok : FlOk m x.1 x.2) (e : FmC.Even m x.1 x.2 ∨ headForgets m l) : Chain m (x :: l) := by
  cases l with
  | nil => exact ok
  | cons y l => exact ⟨ok, e, h⟩
theorem Chain.ok {m : Nat} : ∀ {l : List Fl}, Chain m l → ∀ x ∈ l, FlOk m x.1 x.2
  | [], _, x, hx => by cases hx
  | [y], h, x, hx => by rw [List.mem_singleton.mp hx]; exact h
  | y :: z :: l, h, x, hx => by
    rcases List.mem_cons.mp hx with rfl | hx
    · exact h.1
    · exact Chain.ok h.2.2 x hx
theorem Chain.next {m : Nat} : ∀ {l : List Fl}, Chain m l → ∀ i x y, l[i]? = some x → l[i + 1]? = some y → FmC.Even m x.1 x.2 ∨ FmC.Forgets m y.1 y.2
  | [], _, i, x, y, e, _ => by cases e
  | [z], _, i, x, y, _, e => by cases e
  | z :: w :: l, h, 0, x, y, e1, e2 => by
    cases e1
    cases e2
    exact h.2.1
  | z :: w :: l, h, i + 1, x, y, e1, e2 => Chain.next h.2.2 i x y e1 e2
theorem rowF_at {m : Nat} {g : Nat → Nat} {b : Nat} (hb : b < m) : ((rowF m g).map PyData.int)[b]? = some (.int ((g b : Nat) : Int)) := by
  unfold rowF
  rw [List.getElem?_map, List.getElem?_map, List.getElem?_range hb]
  rfl
theorem tabF_row {m : Nat} {S : Nat → Nat → Nat} {a : Nat} (ha : a < m) : ((List.range m).map fun a => rowD (rowF m (S a)))[a]? = some (rowD (rowF m (S a))) := by
  rw [List.getElem?_map, List.getElem?_range ha]
  rfl
theorem tabF_cell {m : Nat} {S : Nat → Nat → Nat} {a b : Nat} (ha : a < m) (hb : b < m) : cellD ((List.range m).map fun a => rowD (rowF m (S a))) a b = .int ((S a b : Nat) : Int) := by
  unfold cellD
  rw [tabF_row ha]
  show (((rowF m (S a)).map PyData.int)[b]?).getD .none = _
  rw [rowF_at hb]
  rfl
theorem tabF_is {m : Nat} {S : Nat → Nat → Nat} (h : ∀ a b, a < m → b < m → S a b < m ∧ S a b = S b a) : TabD m (tabF m S) := by
  refine ⟨_, rfl, by rw [List.length_map, List.length_range], fun r hr => ?_, fun a b ha hb => ?_⟩
  · obtain ⟨a, ha, rfl⟩ := List.mem_map.mp hr
    have ha := List.mem_range.mp ha
    refine ⟨_, rfl, by rw [List.length_map]; unfold rowF; rw [List.length_map, List.length_range], fun e he => ?_⟩
    obtain ⟨x, hx, rfl⟩ := List.mem_map.mp he
    unfold rowF at hx
    obtain ⟨b, hb, rfl⟩ := List.mem_map.mp hx
    have := (h a b ha (List.mem_range.mp hb)).1
    exact ⟨_, rfl, by omega, by omega⟩
  · rw [tabF_cell ha hb, tabF_cell hb ha, (h a b ha hb).2]
theorem goN_fl {m : Nat} {l : List Fl} {f a b : Nat} {x : Fl} (hx : l[f]? = some x) (ha : a < m) (hb : b < m) : goN (l.map (flD m)) 0 f a b = x.1 a b ∧ goN (l.map (flD m)) 1 f a b = x.2 a b := by
  have e : (l.map (flD m))[f]? = some (flD m x) := by rw [List.getElem?_map, hx]; rfl
  have t0 : tabD (l.map (flD m)) f 0 = (List.range m).map fun a => rowD (rowF m (x.1 a)) := by unfold tabD; rw [e]; rfl
  have t1 : tabD (l.map (flD m)) f 1 = (List.range m).map fun a => rowD (rowF m (x.2 a)) := by unfold tabD; rw [e]; rfl
  unfold goN
  rw [t0, t1, tabF_cell ha hb, tabF_cell ha hb]
  exact ⟨rfl, rfl⟩
theorem house_of {m : Nat} {l : List Fl} (h : Chain m l) (h1 : 1 ≤ m) (h6 : m ≤ 6) (hl : 1 ≤ l.length) (h4 : l.length ≤ 4) : HouseN m l.length (.tuple (l.map (flD m))) := by
  refine ⟨_, rfl, by rw [List.length_map], hl, h4, h1, h6, fun d hd => ?_⟩
  obtain ⟨x, hx, rfl⟩ := List.mem_map.mp hd
  have ok := h.ok x hx
  exact ⟨_, _, rfl, tabF_is fun a b ha hb => ⟨(ok a b ha hb).1, (ok a b ha hb).2.1⟩, tabF_is fun a b ha hb => ⟨(ok a b ha hb).2.2.1, (ok a b ha hb).2.2.2.1⟩⟩
theorem fair_of {m : Nat} {l : List Fl} (h : Chain m l) (h1 : 1 ≤ m) : FairH (l.map (flD m)) m l.length := by
  have at_ : ∀ f, f < l.length → ∃ x, l[f]? = some x ∧ FlOk m x.1 x.2 := fun f hf => ⟨l[f], List.getElem?_eq_getElem hf, h.ok _ (List.getElem_mem hf)⟩
  have B : FmC.Tabs l.length m (goN (l.map (flD m)) 0) (goN (l.map (flD m)) 1) := by
    refine ⟨h1, fun f a b hf ha hb => ?_, fun f a b hf ha hb => ?_, fun f a b hf ha hb => ?_, fun f a b hf ha hb => ?_⟩ <;> (obtain ⟨x, hx, ok⟩ := at_ f hf)
    · rw [(goN_fl hx ha hb).1, (goN_fl hx hb ha).1]
      exact (ok a b ha hb).2.1
    · rw [(goN_fl hx ha hb).2, (goN_fl hx hb ha).2]
      exact (ok a b ha hb).2.2.2.1
    · rw [(goN_fl hx ha hb).1]
      exact (ok a b ha hb).1
    · rw [(goN_fl hx ha hb).2]
      exact (ok a b ha hb).2.2.1
  refine FmC.tri_of B (fun f x y z hf hx hy hz => ?_) (fun f hf => ?_)
  · obtain ⟨w, hw, ok⟩ := at_ f hf
    have o1 := ok x y hx hy
    have o2 := ok x z hx hz
    rw [(goN_fl hw hx hy).1, (goN_fl hw hx hz).1, (goN_fl hw o1.1 hz).1, (goN_fl hw o2.1 hy).1]
    exact o1.2.2.2.2 z hz
  · obtain ⟨w, hw, ok⟩ := at_ f (by omega)
    obtain ⟨v, hv, ok'⟩ := at_ (f + 1) hf
    rcases h.next f w v hw hv with E | F
    · refine .inl fun x y z hx hy hz => ?_
      have o1 := ok x y hx hy
      have o2 := ok x z hx hz
      rw [(goN_fl hw hx hy).1, (goN_fl hw hx hz).1, (goN_fl hw hx hy).2, (goN_fl hw hx hz).2, (goN_fl hw o1.1 hz).2, (goN_fl hw o2.1 hy).2]
      exact E x y z hx hy hz
    · refine .inr fun x y z w' hx hy hz hw' => ?_
      rw [(goN_fl hv hx hy).1, (goN_fl hv hz hw').1, (goN_fl hv hx hy).2, (goN_fl hv hz hw').2]
      exact F x y z w' hx hy hz hw'
theorem tabF_no (m : Nat) (S : Nat → Nat → Nat) : noList (tabF m S) = true := noList_of fun e he => by
  obtain ⟨a, _, rfl⟩ := List.mem_map.mp he
  exact noList_ints' _
theorem flD_no (m : Nat) (x : Fl) : noList (flD m x) = true := noList_of fun e he => by
  simp only [List.mem_cons, List.not_mem_nil, or_false] at he
  rcases he with rfl | rfl
  · exact tabF_no m _
  · exact tabF_no m _
theorem fls_no (m : Nat) (l : List Fl) : ∀ d ∈ l.map (flD m), noList d = true := fun d hd => by
  obtain ⟨x, _, rfl⟩ := List.mem_map.mp hd
  exact flD_no m x
def spLHouse : Sp := fun vs H Q _ => ∃ (p : Addr) (most N : Nat), vs = [.ref p, .int (most : Nat), .int 4] ∧ 1 ≤ most ∧ most ≤ 6 ∧ N + 1000 ≤ 1000000000 ∧ Jar H p N ∧
  ∀ hv H' fs m n, Dat H' p hv (.tuple fs) → HouseN m n (.tuple fs) → FairH fs m n → m ≤ most → Jar H' p (N + 1000) → Ext p H H' → Q hv H'
theorem ok_law_house (D : Df K mg "_law_house" s_law_house ["jar", "most", "floors"]) (T : Nms mg) (c_law_dip : CallOk P w K mg base CX0 1 "_law_dip" ["jar", "many"] spDip) (c_law_order : CallOk P w K mg base CX0 2 "_law_order" ["jar", "m"] spOrder)
    (c_law_stay : CallOk P w K mg base CX0 2 "_law_stay" ["kind", "calls"] spStay) (c_law_up : CallOk P w K mg base CX0 1 "_law_up" ["way", "calls", "goes"] spUpT) (c_law_floor : CallOk P w K mg base CX0 3 "_law_floor" ["jar", "m", "is_free"] spFloor) : CallOk P w K mg base CX0 4 "_law_house" ["jar", "most", "floors"] spLHouse := by
  refine df_ok D sc_law_house (fun vs H Q E h => ?_) (fun f cdv A outer s H vs Q E hr h => ?_)
  · obtain ⟨p, most, N, rfl, _⟩ := h
    rfl
  · obtain ⟨p, most, N, rfl, hm1, hm6, hN, hJ, k⟩ := h
    have nd := sc_law_house.nd
    refine ⟨_, (pss_cons (ps_set (i := 3) nd rfl (Or.inl rfl) (pe_op op_add pe_int (pe_cc c_law_dip (hr.mono (by omega)) (pa_cons (pv 0) (pa_cons (pv 1) pa_nil)))))
      (pss_cons (ps_set (i := 4) nd rfl (Or.inl rfl) (pe_lst pa_nil))
      (pss_cons (ps_set (i := 5) nd rfl (Or.inl rfl) pe_bl)
      (pss_cons (ps_for PassesOwn.never rfl (pi_range1 rfl T.n_range (pa_cons (pe_op op_add pe_int (pe_cc c_law_dip (hr.mono (by omega)) (pa_cons (pv 0) (pa_cons (pv 2) pa_nil)))) pa_nil)) (pg_name (i := 6) nd rfl (Or.inl rfl)) (pss_cons (ps_set (i := 7) nd rfl (Or.inl rfl) (pe_cmpR op_eq (pe_cc c_law_dip (hr.mono (by omega)) (pa_cons (pv 0) (pa_cons pe_int pa_nil))) pe_int (nomark _)))
      (pss_cons (ps_set (i := 8) nd rfl (Or.inl rfl) (pe_cc c_law_floor (hr.mono (by omega)) (pa_cons (pv 0) (pa_cons (pv 3) (pa_cons (pv 5) pa_nil)))))
      (pss_cons (ps_if (pt_val (pv 7)) (pss_one (ps_set (i := 8) nd rfl (Or.inl rfl) (pe_tup (pa_cons (pe_cc c_law_stay (hr.mono (by omega)) (pa_cons pe_int (pa_cons (pe_cc c_law_order (hr.mono (by omega)) (pa_cons (pv 0) (pa_cons (pv 3) pa_nil))) pa_nil))) (pa_cons (pe_cc c_law_up (hr.mono (by omega)) (pa_cons pe_int (pa_cons (pe_listRg (by rfl) (by rfl) T.n_list (prg_1 (by rfl) T.n_range (pv 3))) (pa_cons (pe_lst (pa_cons (pe_cc c_law_dip (hr.mono (by omega)) (pa_cons (pv 0) (pa_cons (pv 3) pa_nil))) pa_nil)) pa_nil)))) pa_nil))))) pss_nil)
      (pss_cons (ps_expr (pe_bm PySem.F.plainAttrs_list PySem.F.slot_list_insert PySem.F.type_list_insert mt_insert (pv 4) (pa_cons pe_int (pa_cons (pv 8) pa_nil))))
      (pss_one (ps_set (i := 5) nd rfl (Or.inl rfl) (pv 7))))))))
      (pss_one (ps_ret (pe_callTy (r := rTupOf K) call_tupOf (by rfl) T.n_tuple (by decide +kernel) (pa_cons (pv 4) pa_nil)))))))), ?_⟩
    walk_at "op"
    refine ⟨_, rfl, _, rfl, p, most, N, rfl, by omega, Nat.lt_of_le_of_lt (Nat.log2_le_self _) (by omega), by omega, hJ, fun mm G1 m0 m1 hJ1 x1 => ?_⟩
    obtain ⟨m', rfl⟩ : ∃ m' : Nat, mm = (m' : Int) := ⟨mm.toNat, by omega⟩
    refine ⟨1, _, rfl, rfl, Nat.zero_le _, fun F0 hF0 => ?_⟩
    obtain ⟨m, em, h1, h6⟩ : ∃ m : Nat, (1 : Int) + (m' : Int) = (m : Int) ∧ 1 ≤ m ∧ m ≤ 6 := ⟨1 + m', by omega, by omega, by omega⟩
    rw [em]
    have nJF := hJ1.ne hF0
    have hJ2 := hJ1.up (o := .lst []) nJF
    refine ⟨_, rfl, _, rfl, p, 4, N + 1, rfl, by decide, by decide, by omega, hJ2, fun kk G2 k0 k1 hJ3 x3 => ?_⟩
    obtain ⟨n', rfl⟩ : ∃ n' : Nat, kk = (n' : Int) := ⟨kk.toNat, by omega⟩
    refine ⟨1, _, rfl, rfl, _, rfl, by omega, by omega, ?_⟩
    rw [show ((1 : Int) + (n' : Int)).toNat = 1 + n' by omega]
    have hF2 := x3 _ _ (show upd G1 F0 (.lst []) F0 = some (.lst []) from upd_same) nJF.symm
    have x13 := fun b u (eb : H b = some u) (nb : b ≠ p) => x3 b u (show upd G1 F0 (.lst []) b = some u from by
      have hb := x1 b u eb nb
      rw [upd_ne (ne_of_none hb hF0)]
      exact hb) nb
    have hF0H : H F0 = none := by
      cases q : H F0 with
      | none => rfl
      | some u =>
        have := x1 _ _ q nJF.symm
        rw [hF0] at this
        cases this
    refine fI walk_range (fun i σ G => ∃ (u6 u7 u8 : Option V) (bf : Bool) (ws : List V) (l : List Fl), σ = [some (.ref p), some (.int (most : Nat)), some (.int 4), some (.int (m : Nat)), some (.ref F0), some (.bl bf), u6, u7, u8] ∧ Ext p H G ∧ Jar G p (N + 2 + i * 150) ∧ G F0 = some (.lst ws) ∧ Dats G p ws (l.map (flD m)) ∧ l.length = i ∧ Chain m l ∧ (bf = true → headForgets m l))
      ⟨none, none, none, true, [], [], rfl, x13, hJ3.le (by omega), hF2, Dats.nil, rfl, True.intro, fun _ => True.intro⟩ (fun _ _ _ _ _ => True.intro) ?_ ?_
    · rintro i x σ _ G hi ⟨u6, u7, u8, bf, ws, l, rfl, xG, hJG, hFG, hDs, hll, hC, hhd⟩ ⟨rfl, rfl⟩
      dsimp only
      have hwl : ws.length ≤ 4 := by rw [hDs.1, List.length_map]; omega
      walk_at "op"
      refine ⟨_, rfl, p, 4, N + 2 + i * 150, rfl, by decide, by decide, by omega, hJG, fun dd G3 d0 d1 hJ3 x3 => ?_⟩
      refine ⟨rfl, ?_⟩
      generalize decide (V.int dd = V.int 0) = fb
      refine ⟨_, rfl, _, rfl, _, rfl, p, m, N + 2 + i * 150 + 1, bf, rfl, h1, h6, by omega, hJ3, fun v G4 S U hD hok hev hJ4 x4 => ?_⟩
      have x34 := x3.trans x4
      have hF4 := x34 _ _ hFG nJF.symm
      have hDs4 : Dats G4 p ws (l.map (flD m)) := ⟨hDs.1, fun i x d a b => (hDs.2 i x d a b).ext x34⟩
      have xG4 := xG.trans x34
      refine ⟨_, rfl, fb, rfl, ?_⟩
      cases fb with
      | false =>
        refine iteF ?_
        refine ⟨_, rfl, .inl ⟨rfl, _, SqL.of (hF4)⟩, _, rfl, F0, ws, 0, v, rfl, rfl, hF4, Nat.lt_of_le_of_lt hwl (by rw [sizeLine_eq]; omega), by decide, by decide, ?_⟩
        refine ⟨_, rfl, _, _, _, false, [v] ++ ws, (S, U) :: l, rfl, fun b u eb nb => ?_, (hJ4.le (by omega : N + 2 + i * 150 + 1 + 100 ≤ N + 2 + (i + 1) * 150)).up nJF, upd_same, ?_, by rw [List.length_cons, hll], hC.cons hok (hev.imp id hhd), fun z => by cases z⟩
        · rw [upd_ne (ne_of_none eb hF0H)]
          exact xG4 b u eb nb
        · exact Dats.cons (Dat.setL (hF4) (hD) (flD_no m (S, U))) (Dats.setL (hF4) (hDs4) (fls_no m l))
      | true =>
        refine iteT ?_
        refine ⟨_, rfl, _, rfl, p, m, N + 2 + i * 150 + 1 + 100, rfl, h1, h6, by omega, hJ4, fun q1 l1 G5 hq1 hl1 hP1 hJ5 x5 => ?_⟩
        obtain ⟨um, hum⟩ := hJ5.here
        refine ⟨p, q1, um, 2, m, l1, rfl, hum, by decide, h1, h6, hl1, hP1, fun v1 G6 dd1 s6 => ?_⟩
        refine ⟨_, rfl, _, rfl, RgOk.of_le (by decide) (by omega) (by decide) (by omega), fun q2 hq2 => ?_⟩
        have eL : rgV 0 (m : Int) = (List.range m).map fun k : Nat => V.int (k : Nat) := by
          unfold rgV
          rw [show ((m : Int) - 0).toNat = m by omega]
          refine List.map_congr_left fun i _ => ?_
          rw [Int.zero_add]
        rw [eL]
        have s7 := same_new (o := .lst ((List.range m).map fun k : Nat => V.int (k : Nat))) hq2
        have hJ7 := (hJ5.same s6).same s7
        have hq27 : upd G6 q2 (.lst ((List.range m).map fun k : Nat => V.int (k : Nat))) q2 = some (.lst ((List.range m).map fun k : Nat => V.int (k : Nat))) := upd_same
        have nq2p : q2 ≠ p := (((hJ5.same s6)).ne hq2).symm
        generalize upd G6 q2 (.lst ((List.range m).map fun k : Nat => V.int (k : Nat))) = G7 at *
        refine ⟨_, rfl, _, rfl, p, m, N + 2 + i * 150 + 1 + 100 + m, rfl, by omega, Nat.lt_of_le_of_lt (Nat.log2_le_self _) (by omega), by omega, hJ7, fun gg G8 g0 g1 hJ8 x8 => ?_⟩
        obtain ⟨gn, rfl⟩ : ∃ gn : Nat, gg = (gn : Int) := ⟨gg.toNat, by omega⟩
        refine ⟨by show 1 ≤ sizeLine; decide, fun gl hgl => ?_⟩
        have s9 := same_new (o := .lst [V.int (gn : Nat)]) hgl
        have hJ9 := hJ8.same s9
        obtain ⟨u9, hu9⟩ := hJ9.here
        refine ⟨p, q2, gl, u9, 2, m, List.range m, [gn], rfl, hu9, by decide, h1, h6, s9 _ _ (x8 _ _ hq27 nq2p), List.Perm.refl _, upd_same, fun a b ha hb => by show 0 < 1; decide, fun v2 G10 dd2 s10 => ?_⟩
        refine ⟨by show 2 ≤ sizeLine; decide, fun t ht => ?_⟩
        have s11 := same_new (o := .tup [v1, v2]) ht
        have x711 : Ext p G7 (upd G10 t (.tup [v1, v2])) := x8.trans ((Same.ext s9 p).trans ((Same.ext s10 p).trans (Same.ext s11 p)))
        have x411 : Ext p G4 (upd G10 t (.tup [v1, v2])) := x5.trans ((Same.ext s6 p).trans ((Same.ext s7 p).trans x711))
        have hJ11 := (hJ9.same s10).same s11
        have hFt := x411 _ _ hF4 nJF.symm
        have hDst : Dats (upd G10 t (.tup [v1, v2])) p ws (l.map (flD m)) := ⟨hDs4.1, fun i x d a b => (hDs4.2 i x d a b).ext x411⟩
        have ntp : t ≠ p := ((hJ9.same s10).ne ht).symm
        have C1 := calls_of hP1
        have C2 := calls_of (List.Perm.refl (List.range m))
        have hDt : Dat (upd G10 t (.tup [v1, v2])) p (.ref t) (flD m (FmC.stayOf 2 m (callF l1) (backF l1), FmC.upOf 2 m (backF (List.range m)) (callF [gn]))) := Dat.new ht ntp (Dats.cons (((dd1.same s7).ext x8).ext ((Same.ext s9 p).trans (Same.ext s10 p))) (Dats.cons dd2 Dats.nil))
        have hokt : FlOk m (FmC.stayOf 2 m (callF l1) (backF l1)) (FmC.upOf 2 m (backF (List.range m)) (callF [gn])) := fun x y hx hy => by
          obtain ⟨z1, z2, z3⟩ := FmC.stay_facts (kind := 2) (by omega) (by decide) C1 hx hy
          exact ⟨z1, z2, by show gn < m; omega, rfl, z3⟩
        have hevt : FmC.Even m (FmC.stayOf 2 m (callF l1) (backF l1)) (FmC.upOf 2 m (backF (List.range m)) (callF [gn])) := fun x y z _ _ _ => .inl ⟨rfl, rfl⟩
        refine ⟨_, rfl, .inl ⟨rfl, _, SqL.of (hFt)⟩, _, rfl, F0, ws, 0, (.ref t), rfl, rfl, hFt, Nat.lt_of_le_of_lt hwl (by rw [sizeLine_eq]; omega), by decide, by decide, ?_⟩
        refine ⟨_, rfl, _, _, _, true, [(.ref t)] ++ ws, (FmC.stayOf 2 m (callF l1) (backF l1), FmC.upOf 2 m (backF (List.range m)) (callF [gn])) :: l, rfl, fun b u eb nb => ?_, (hJ11.le (by omega : N + 2 + i * 150 + 1 + 100 + m + 1 ≤ N + 2 + (i + 1) * 150)).up nJF, upd_same, ?_, by rw [List.length_cons, hll], hC.cons hokt (.inl hevt), fun _ => show FmC.Forgets m (FmC.stayOf 2 m (callF l1) (backF l1)) (FmC.upOf 2 m (backF (List.range m)) (callF [gn])) from FmC.forgets_of⟩
        · rw [upd_ne (ne_of_none eb hF0H)]
          exact (xG4.trans x411) b u eb nb
        · exact Dats.cons (Dat.setL (hFt) (hDt) (flD_no m (FmC.stayOf 2 m (callF l1) (backF l1), FmC.upOf 2 m (backF (List.range m)) (callF [gn])))) (Dats.setL (hFt) (hDst) (fls_no m l))
    · rintro σ G ⟨u6, u7, u8, bf, ws, l, rfl, xG, hJG, hFG, hDs, hll, hC, hhd⟩
      walk_at "op"
      refine ⟨_, rfl, F0, ws, rfl, .inl ⟨SqL.of hFG, fun t ht => ?_⟩⟩
      have ntp := (hJG.ne ht).symm
      exact k _ _ _ m l.length (Dat.new ht ntp hDs) (house_of hC h1 h6 (by omega) (by omega)) (fair_of hC h1) (by omega) ((hJG.up ntp.symm).le (by omega)) (xG.trans (Same.ext (same_new ht) p))
end
end Fm
end FLH2
section FLHS
set_option Elab.async false
set_option linter.all false
set_option maxRecDepth 100000
set_option maxHeartbeats 4000000
local macro_rules | `(tactic| walk_at "ne") => `(tactic| first | assumption | (apply Ne.symm; assumption) | exact L2.ne_of_none (by assumption) (by assumption) | exact Ne.symm (L2.ne_of_none (by assumption) (by assumption)))
local macro_rules | `(tactic| walk_at "hl") => `(tactic| first | assumption | exact L2.upd_same | (refine Eq.trans (L2.upd_ne (by walk_at "ne")) ?_; walk_at "hl"))
local macro_rules | `(tactic| walk_at "sd") => `(tactic| first | (with_reducible show (_ : Int) < _; omega) | (with_reducible show (_ : Int) ≤ _; omega) | assumption | decide | exact ⟨by assumption, by assumption⟩ | exact ⟨by decide, by decide⟩ | exact Or.inr ⟨by decide, by decide⟩ | exact Or.inl ⟨by omega, by omega⟩ | rfl)
local macro_rules | `(tactic| walk_at "st1") => `(tactic| first
  | refine ⟨_, rfl, ?_⟩
  | refine ⟨_, _, rfl, rfl, ?_⟩
  | refine ⟨_, _, rfl, ?_⟩
  | (refine ⟨_, _, _, _, rfl, rfl, L2.SqL.of (by walk_at "hl"), rfl, ?_⟩)
  | (refine ⟨_, _, _, _, rfl, rfl, L2.SqT.of (by walk_at "hl"), rfl, ?_⟩)
  | (refine ⟨_, _, _, _, rfl, rfl, (by walk_at "hl"), rfl, ?_⟩)
  | (refine And.intro (by walk_at "sd") ?_)
  )
local macro_rules | `(tactic| walk_at "st") => `(tactic| repeat walk_at "st1")
local macro_rules | `(tactic| walk_at "op") => `(tactic| try dsimp only [L2.tSeq, L2.tAsg, L2.tOp, L2.tVar, L2.tC, L2.gSub, L2.rI, L2.rI0, L2.rIxL, L2.rIxT, L2.rSetL, L2.tIfS, L2.tTest, L2.tRet, L2.gName, L2.tNext, L2.tAnd, L2.tOr, L2.tNot, L2.tAndV, L2.tOrV, L2.tNotV, L2.tB, L2.tCB, L2.tCons, L2.tNil, L2.tCall, L2.tTup, L2.tLst, L2.tChain, L2.tUn, L2.tPar, L2.tDrop, L2.tIf, L2.tBM, L2.tBM0, L2.rAppend, L2.rCat, L2.rIsi, L2.rIsiT, L2.gTup, L2.gCons, L2.gNil, Fm.tFor_eq, Fm.tLc_eq, Fm.tLc2_eq, L2.iTup, L2.iList, L2.iRng1, L2.iRng2, L2.tSl, L2.tPart, L2.tNoPart, L2.rSlL, L2.rEq, L2.rNe, L2.rU, L2.rEqD, L2.rNeD, Fm.tRevT, Fm.rLenS, Fm.rTupOf, Fm.rLstOf, L2.tDNewK, L2.tCallS, L2.WE, Fm.wKeep, Fm.rIsK, Fm.rIsKT, List.cons_append, List.nil_append, L2.tYes])
namespace Fm
open PySem PySem.Spec PyProof.Rows L2
abbrev s_law_sure_house : Stmt := top 54
abbrev N_law_sure_house : List Str := ["jar", "most", "floors", "m", "floor"]
theorem sc_law_sure_house : FnScope N_law_sure_house ["jar", "most", "floors"] (defScope s_law_sure_house) := ⟨rfl, rfl, rfl, by decide +kernel, rfl, by decide +kernel, by decide +kernel⟩
section
variable {P : Program} {w : World} {K : PySem.W.Frag} {mg : Str → Option Value} {base : Heap}
/-! ### a house whose floors all stand by themselves -/
theorem chain_all {m : Nat} : ∀ {l : List Fl}, (∀ x ∈ l, FlOk m x.1 x.2 ∧ FmC.Even m x.1 x.2) → Chain m l
  | [], _ => True.intro
  | [x], h => (h x List.mem_cons_self).1
  | x :: y :: l, h => ⟨(h x List.mem_cons_self).1, .inl (h x List.mem_cons_self).2, chain_all fun z hz => h z (List.mem_cons_of_mem _ hz)⟩
theorem sure_of {m : Nat} {l : List Fl} (h : ∀ x ∈ l, FlOk m x.1 x.2 ∧ FmC.Even m x.1 x.2) : SureH (l.map (flD m)) m l.length := fun f hf x y z hx hy hz => by
  have hw : l[f]? = some l[f] := List.getElem?_eq_getElem hf
  obtain ⟨ok, E⟩ := h _ (List.getElem_mem hf)
  generalize l[f] = w at *
  have o1 := ok x y hx hy
  have o2 := ok x z hx hz
  rw [(goN_fl hw hx hy).1, (goN_fl hw hx hz).1, (goN_fl hw hx hy).2, (goN_fl hw hx hz).2, (goN_fl hw o1.1 hz).2, (goN_fl hw o2.1 hy).2]
  exact E x y z hx hy hz
def spSureHouse : Sp := fun vs H Q _ => ∃ (p : Addr) (most N : Nat), vs = [.ref p, .int (most : Nat), .int 4] ∧ 1 ≤ most ∧ most ≤ 6 ∧ N + 1000 ≤ 1000000000 ∧ Jar H p N ∧
  ∀ hv H' fs m n, Dat H' p hv (.tuple fs) → HouseN m n (.tuple fs) → FairH fs m n → SureH fs m n → Jar H' p (N + 1000) → Ext p H H' → Q hv H'
theorem ok_law_sure_house (D : Df K mg "_law_sure_house" s_law_sure_house ["jar", "most", "floors"]) (T : Nms mg) (c_law_dip : CallOk P w K mg base CX0 1 "_law_dip" ["jar", "many"] spDip)
    (c_law_floor : CallOk P w K mg base CX0 3 "_law_floor" ["jar", "m", "is_free"] spFloor) : CallOk P w K mg base CX0 4 "_law_sure_house" ["jar", "most", "floors"] spSureHouse := by
  refine df_ok D sc_law_sure_house (fun vs H Q E h => ?_) (fun f cdv A outer s H vs Q E hr h => ?_)
  · obtain ⟨p, most, N, rfl, _⟩ := h
    rfl
  · obtain ⟨p, most, N, rfl, hm1, hm6, hN, hJ, k⟩ := h
    have nd := sc_law_sure_house.nd
    refine ⟨_, (pss_cons (ps_set (i := 3) nd rfl (Or.inr rfl) (pe_op op_add pe_int (pe_cc c_law_dip (hr.mono (by omega)) (pa_cons (pv 0) (pa_cons (pv 1) pa_nil)))))
      (pss_one (ps_ret (pe_callTy (r := rTupOf K) call_tupOf (by rfl) T.n_tuple (by decide +kernel) (pa_cons (pe_lc (own := [("floor", 4)]) (g := (gName 4)) (tt := tYes) (by rfl) nd (pi_range1 rfl T.n_range (pa_cons (pe_op op_add pe_int (pe_cc c_law_dip (hr.mono (by omega)) (pa_cons (pv 0) (pa_cons (pv 2) pa_nil)))) pa_nil)) (blkOk_by (own := [("floor", 4)]) (N := N_law_sure_house) (sc := defScope s_law_sure_house) (by decide +kernel)) (fun _ _ _ _ _ => (pg_name (i := 4) nd rfl (Or.inl rfl))) (fun _ _ _ _ _ => pts_nil) (fun _ _ _ _ _ => (pe_cc c_law_floor (hr.mono (by omega)) (pa_cons (pv 0) (pa_cons (pv 3) (pa_cons pe_bl pa_nil)))))) pa_nil))))), ?_⟩
    walk_at "op"
    refine ⟨_, rfl, _, rfl, p, most, N, rfl, by omega, Nat.lt_of_le_of_lt (Nat.log2_le_self _) (by omega), by omega, hJ, fun mm G1 m0 m1 hJ1 x1 => ?_⟩
    obtain ⟨m', rfl⟩ : ∃ m' : Nat, mm = (m' : Int) := ⟨mm.toNat, by omega⟩
    refine ⟨1, _, rfl, rfl, ?_⟩
    obtain ⟨m, em, h1, h6⟩ : ∃ m : Nat, (1 : Int) + (m' : Int) = (m : Int) ∧ 1 ≤ m ∧ m ≤ 6 := ⟨1 + m', by omega, by omega, by omega⟩
    rw [em]
    refine ⟨_, rfl, _, rfl, p, 4, N + 1, rfl, by decide, by decide, by omega, hJ1, fun kk G2 k0 k1 hJ2 x2 => ?_⟩
    obtain ⟨n', rfl⟩ : ∃ n' : Nat, kk = (n' : Int) := ⟨kk.toNat, by omega⟩
    refine ⟨1, _, rfl, rfl, _, rfl, by omega, by omega, ?_⟩
    rw [show ((1 : Int) + (n' : Int)).toNat = 1 + n' by omega]
    have x12 := x1.trans x2
    refine fun L hL => ?_
    have nJL := hJ2.ne hL
    refine lI walk_range (fun i G => Ext p G2 G ∧ Jar G p (N + 2 + i * 150) ∧ ∃ (ws : List V) (l : List Fl), G L = some (.lst ws) ∧ Dats G p ws (l.map (flD m)) ∧ l.length = i ∧ ∀ x ∈ l, FlOk m x.1 x.2 ∧ FmC.Even m x.1 x.2)
      ⟨Same.ext (same_new hL) p, (hJ2.up nJL).le (by omega), [], [], upd_same, Dats.nil, rfl, fun x hx => by cases hx⟩ (fun _ _ _ _ => True.intro) ?_ ?_
    · rintro i x _ G hi ⟨xG, hJG, ws, l, hLG, hDs, hll, hC⟩ ⟨rfl, rfl⟩
      walk_at "op"
      refine ⟨rfl, ?_⟩
      refine iteT ?_
      refine ⟨_, rfl, _, rfl, p, m, N + 2 + i * 150, false, rfl, h1, h6, by omega, hJG, fun v G4 S U hD hok hev hJ4 x4 => ?_⟩
      have hev := hev.resolve_right (by decide)
      have hL4 := x4 _ _ hLG nJL.symm
      have hwl : ws.length ≤ 4 := by rw [hDs.1, List.length_map]; omega
      refine ⟨ws, hL4, Nat.lt_of_le_of_lt hwl (by rw [sizeLine_eq]; omega), (fun b u eb nb => by rw [upd_ne (ne_of_none eb hL)]; exact (xG.trans x4) b u eb nb), (hJ4.up nJL).le (by omega), ws ++ [v], l ++ [(S, U)], upd_same, ?_, by rw [List.length_append, hll]; rfl, fun x hx => ?_⟩
      · rw [List.map_append]
        have hDs4 : Dats G4 p ws (l.map (flD m)) := ⟨hDs.1, fun i x d a b => (hDs.2 i x d a b).ext x4⟩
        exact (Dats.setL hL4 hDs4 (fls_no m l)).snoc (Dat.setL hL4 hD (flD_no m (S, U)))
      · rcases List.mem_append.mp hx with hx | hx
        · exact hC x hx
        · rw [List.mem_singleton.mp hx]
          exact ⟨hok, hev⟩
    · rintro G ⟨xG, hJG, ws, l, hLG, hDs, hll, hC⟩
      walk_at "op"
      refine ⟨L, ws, rfl, .inl ⟨SqL.of hLG, fun t ht => ?_⟩⟩
      have ntp := (hJG.ne ht).symm
      have hc := chain_all hC
      exact k _ _ _ m l.length (Dat.new ht ntp hDs) (house_of hc h1 h6 (by omega) (by omega)) (fair_of hc h1) (sure_of hC) ((hJG.up ntp.symm).le (by omega)) ((x12.trans xG).trans (Same.ext (same_new ht) p))
end
end Fm
end FLHS
section FLP
set_option Elab.async false
set_option linter.all false
set_option maxRecDepth 100000
set_option maxHeartbeats 4000000
local macro_rules | `(tactic| walk_at "ne") => `(tactic| first | assumption | (apply Ne.symm; assumption) | exact L2.ne_of_none (by assumption) (by assumption) | exact Ne.symm (L2.ne_of_none (by assumption) (by assumption)))
local macro_rules | `(tactic| walk_at "hl") => `(tactic| first | assumption | exact L2.upd_same | (refine Eq.trans (L2.upd_ne (by walk_at "ne")) ?_; walk_at "hl"))
local macro_rules | `(tactic| walk_at "sd") => `(tactic| first | (with_reducible show (_ : Int) < _; omega) | (with_reducible show (_ : Int) ≤ _; omega) | assumption | decide | exact ⟨by assumption, by assumption⟩ | exact ⟨by decide, by decide⟩ | exact Or.inr ⟨by decide, by decide⟩ | exact Or.inl ⟨by omega, by omega⟩ | rfl)
local macro_rules | `(tactic| walk_at "st1") => `(tactic| first
  | refine ⟨_, rfl, ?_⟩
  | refine ⟨_, _, rfl, rfl, ?_⟩
  | refine ⟨_, _, rfl, ?_⟩
  | (refine ⟨_, _, _, _, rfl, rfl, L2.SqL.of (by walk_at "hl"), rfl, ?_⟩)
  | (refine ⟨_, _, _, _, rfl, rfl, L2.SqT.of (by walk_at "hl"), rfl, ?_⟩)
  | (refine ⟨_, _, _, _, rfl, rfl, (by walk_at "hl"), rfl, ?_⟩)
  | (refine And.intro (by walk_at "sd") ?_)
  )
local macro_rules | `(tactic| walk_at "st") => `(tactic| repeat walk_at "st1")
local macro_rules | `(tactic| walk_at "op") => `(tactic| try dsimp only [L2.tSeq, L2.tAsg, L2.tOp, L2.tVar, L2.tC, L2.gSub, L2.rI, L2.rI0, L2.rIxL, L2.rIxT, L2.rSetL, L2.tIfS, L2.tTest, L2.tRet, L2.gName, L2.tNext, L2.tAnd, L2.tOr, L2.tNot, L2.tAndV, L2.tOrV, L2.tNotV, L2.tB, L2.tCB, L2.tCons, L2.tNil, L2.tCall, L2.tTup, L2.tLst, L2.tChain, L2.tUn, L2.tPar, L2.tDrop, L2.tIf, L2.tBM, L2.tBM0, L2.rAppend, L2.rCat, L2.rIsi, L2.rIsiT, L2.gTup, L2.gCons, L2.gNil, Fm.tFor_eq, Fm.tLc_eq, Fm.tLc2_eq, L2.iTup, L2.iList, L2.iRng1, L2.iRng2, L2.tSl, L2.tPart, L2.tNoPart, L2.rSlL, L2.rEq, L2.rNe, L2.rU, L2.rEqD, L2.rNeD, Fm.tRevT, Fm.rLenS, Fm.rTupOf, Fm.rLstOf, L2.tDNewK, L2.tCallS, L2.WE, Fm.wKeep, Fm.rIsK, Fm.rIsKT, List.cons_append, List.nil_append, L2.tYes])
namespace Fm
open PySem PySem.Spec PyProof.Rows L2
abbrev s_law_people : Stmt := top 51
abbrev N_law_people : List Str := ["jar", "house", "most", "m", "found", "floor", "low", "wide", "k"]
theorem sc_law_people : FnScope N_law_people ["jar", "house", "most"] (defScope s_law_people) := ⟨rfl, rfl, rfl, by decide +kernel, rfl, by decide +kernel, by decide +kernel⟩
section
variable {P : Program} {w : World} {K : PySem.W.Frag} {mg : Str → Option Value} {base : Heap}
/-! ### people -/
def HeapOk (m : Nat) (k : Nat) (heaps : List (List Int)) : Prop := ∀ h ∈ heaps, h.length ≤ k ∧ ∀ x ∈ h, 0 ≤ x ∧ x < (m : Int)
def spPeople : Sp := fun vs H Q _ => ∃ (p ph : Addr) (hv : V) (fs : List PyData) (m n most N : Nat), vs = [.ref p, hv, .int (most : Nat)] ∧ most ≤ 60 ∧ N + 200 ≤ 1000000000 ∧ Jar H p N ∧ Dat H ph hv (.tuple fs) ∧ HouseN m n (.tuple fs) ∧ ph = p ∧
  ∀ q ws heaps H', H q = none → LL H' p q ws heaps → heaps.length = n → HeapOk m 60 heaps → Jar H' p (N + 200) → Ext p H H' → Q (.ref q) H'
theorem ok_law_people (D : Df K mg "_law_people" s_law_people ["jar", "house", "most"]) (T : Nms mg) (c_law_dip : CallOk P w K mg base CX0 1 "_law_dip" ["jar", "many"] spDip) : CallOk P w K mg base CX0 2 "_law_people" ["jar", "house", "most"] spPeople := by
  refine df_ok D sc_law_people (fun vs H Q E h => ?_) (fun f cdv A outer s H vs Q E hr h => ?_)
  · obtain ⟨p, ph, hv, fs, m, n, most, N, rfl, _⟩ := h
    rfl
  · obtain ⟨p, ph, hv, fs, m, n, most, N, rfl, hmo, hN0, hJ, hD, hN, rfl, k⟩ := h
    have nd := sc_law_people.nd
    have hmn : 1 ≤ n ∧ n ≤ 4 ∧ 1 ≤ m ∧ m ≤ 6 := by
      obtain ⟨_, _, _, z1, z2, z3, z4, _⟩ := hN
      exact ⟨z1, z2, z3, z4⟩
    obtain ⟨ah, af, hs, t0, t1, rfl, g1, g2, g3, hF⟩ := floor_at hD hN (f := 0) (by omega)
    obtain ⟨ss, hss, hsl⟩ := stay_len hD hN (by omega) g1 g3 hF
    have nah : ah ≠ ph := by
      obtain ⟨a', _, e, _, z, _⟩ := hD.isTup
      cases e
      exact z
    refine ⟨_, (pss_cons (ps_set (i := 3) nd rfl (Or.inl rfl) (pe_callB (r := rLenS K) call_lenS (by rfl) T.n_len (by decide +kernel) (pa_cons (pe_ix (r := rIxT K) ix_tup (pe_ix (r := rIxT K) ix_tup (pv 1) pe_int (fun _ _ => rfl)) pe_int (fun _ _ => rfl)) pa_nil)))
      (pss_cons (ps_setLc (i := 4) (own := [("floor", 5)]) (g := (gName 5)) (tt := tYes) (by rfl) nd rfl rfl (sw_true rfl rfl rfl (by decide +kernel)) (pi_tup (pv 1)) (blkOk_by (own := [("floor", 5)]) (N := N_law_people) (sc := defScope s_law_people) (by decide +kernel)) (fun _ _ _ _ _ => (pg_name (i := 5) nd rfl (Or.inl rfl))) (fun _ _ _ _ _ => pts_nil) (fun _ _ _ _ _ => (pe_lst pa_nil)))
      (pss_cons (ps_set (i := 6) nd rfl (Or.inl rfl) (pe_cmpR op_eq (pe_cc c_law_dip (hr.mono (by omega)) (pa_cons (pv 0) (pa_cons pe_int pa_nil))) pe_int (nomark _)))
      (pss_cons (ps_set (i := 7) nd rfl (Or.inl rfl) (pe_ix (r := rIxL K) ix_list (pe_lst (pa_cons pe_int (pa_cons pe_int (pa_cons pe_int pa_nil)))) (pe_cc c_law_dip (hr.mono (by omega)) (pa_cons (pv 0) (pa_cons pe_int pa_nil))) (fun _ _ => rfl)))
      (pss_cons (ps_for PassesOwn.never rfl (pi_range1 rfl T.n_range (pa_cons (pe_cc c_law_dip (hr.mono (by omega)) (pa_cons (pv 0) (pa_cons (pe_op op_add (pv 2) pe_int) pa_nil))) pa_nil)) (pg_name (i := 8) nd rfl (Or.inl rfl)) (pss_one (ps_expr (pe_bm PySem.F.plainAttrs_list PySem.F.slot_list_append PySem.F.type_list_append mt_append (pe_ix (r := rIxL K) ix_list (pv 4) (pe_ifExp (pt_val (pv 6)) pe_int (pe_cc c_law_dip (hr.mono (by omega)) (pa_cons (pv 0) (pa_cons (pe_callB (r := rLenS K) call_lenS (by rfl) T.n_len (by decide +kernel) (pa_cons (pv 1) pa_nil)) pa_nil)))) (fun _ _ => rfl)) (pa_cons (pe_cc c_law_dip (hr.mono (by omega)) (pa_cons (pv 0) (pa_cons (pe_callB (call_min2 rfl) (by rfl) T.n_min (by decide +kernel) (pa_cons (pv 7) (pa_cons (pv 3) pa_nil))) pa_nil))) pa_nil)))))
      (pss_one (ps_ret (pv 4)))))))), ?_⟩
    walk_at "op"
    refine ⟨_, rfl, ah, hs, 0, _, rfl, rfl, SqT.of g1, atI_nat (j := 0) g3, af, _, 0, _, rfl, rfl, SqT.of hF.at_, rfl, t0, ss, rfl, .inr (SqT.of hss), ?_⟩
    rw [hsl]
    refine ⟨_, rfl, ah, rfl, ⟨_, SqT.of g1⟩, fun R hR => ?_⟩
    have nJR := hJ.ne hR
    refine lI walk_tup (fun i G => Same H G ∧ ∃ ws, LL G ph R ws (List.replicate i []) ∧ Inj ws ∧ Fresh H ws) ⟨same_new hR, [], LL.nil upd_same, fun i1 i2 b e => (by cases e), fun i b e => (by cases e)⟩ (fun _ _ _ ⟨e, _⟩ => SqT.of (e _ _ g1)) ?_ ?_
    · rintro i x _ G hi ⟨sG, ws, hLL, inj, fresh⟩ ⟨rfl, _⟩
      rw [g2] at hi
      walk_at "op"
      refine ⟨rfl, ?_⟩
      refine iteT ?_
      refine ⟨Nat.zero_le _, fun l hl => ?_⟩
      have sl := same_new (o := .lst []) hl
      have hwl : ws.length ≤ 4 := by rw [hLL.len, List.length_replicate]; omega
      refine ⟨ws, sl _ _ hLL.at_, Nat.lt_of_le_of_lt hwl (by rw [sizeLine_eq]; omega), sameOff (sG.trans sl) hR, ws ++ [.ref l], ?_, inj.snoc (hLL.off hl), fresh.snoc (sameFree sG hl)⟩
      rw [List.replicate_succ']
      exact (hLL.same sl).snoc upd_same (ne_of_none hLL.at_ hl).symm ((hJ.same sG).ne hl).symm
    · rintro G1 ⟨sG, ws, hLL, inj, fresh⟩
      rw [g2] at hLL
      have hJ1 := hJ.same sG
      walk_at "op"
      refine ⟨_, rfl, ph, 2, N, rfl, by decide, by decide, by omega, hJ1, fun dd G2 d0 d1 hJ2 x2 => ?_⟩
      refine ⟨rfl, ?_⟩
      generalize decide (V.int dd = V.int 0) = low
      refine ⟨by show 3 ≤ sizeLine; decide, fun W0 hW0 => ?_⟩
      have s3 := same_new (o := .lst [V.int 1, V.int 2, V.int 6]) hW0
      have hW1 : upd G2 W0 (.lst [V.int 1, V.int 2, V.int 6]) W0 = some (.lst [V.int 1, V.int 2, V.int 6]) := upd_same
      have nWp : W0 ≠ ph := (hJ2.ne hW0).symm
      have hJ3 := hJ2.same s3
      have x23 : Ext ph G1 (upd G2 W0 (.lst [V.int 1, V.int 2, V.int 6])) := x2.trans (Same.ext s3 ph)
      generalize upd G2 W0 (.lst [V.int 1, V.int 2, V.int 6]) = G3 at *
      refine ⟨_, rfl, ph, 3, N + 1, rfl, by decide, by decide, by omega, hJ3, fun wd G4 w0 w1 hJ4 x4 => ?_⟩
      obtain ⟨wn, rfl⟩ : ∃ wn : Nat, wd = (wn : Int) := ⟨wd.toNat, by omega⟩
      obtain ⟨w, hw, hw1⟩ : ∃ w : Int, ([V.int 1, V.int 2, V.int 6] : List V)[wn]? = some (.int w) ∧ 1 ≤ w := by
        have : wn = 0 ∨ wn = 1 ∨ wn = 2 := by omega
        rcases this with rfl | rfl | rfl
        · exact ⟨1, rfl, by decide⟩
        · exact ⟨2, rfl, by decide⟩
        · exact ⟨6, rfl, by decide⟩
      refine ⟨W0, _, _, _, rfl, rfl, SqL.of (x4 _ _ hW1 nWp), atI_nat hw, ?_⟩
      refine ⟨_, rfl, _, rfl, _, 1, rfl, rfl, ph, (most : Int) + 1, N + 2, rfl, by omega, Nat.lt_of_le_of_lt (Nat.log2_le_self _) (by omega), by omega, hJ4, fun kk G5 k0 k1 hJ5 x5 => ?_⟩
      obtain ⟨kn, rfl⟩ : ∃ kn : Nat, kk = (kn : Int) := ⟨kk.toNat, by omega⟩
      refine ⟨_, rfl, by omega, by omega, ?_⟩
      rw [Int.toNat_natCast]
      have x15 : Ext ph G1 G5 := x23.trans (x4.trans x5)
      have xH5 : Ext ph H G5 := (Same.ext sG ph).trans x15
      have hLL5 := hLL.ext x15 nJR.symm
      refine fI walk_range (fun i σ G => ∃ (u8 : Option V) (heaps : List (List Int)), σ = [some (.ref ph), some (.ref ah), some (.int (most : Nat)), some (.int (m : Nat)), some (.ref R), none, some (.bl low), some (.int w), u8] ∧ Ext ph H G ∧ Jar G ph (N + 3 + 2 * i) ∧ LL G ph R ws heaps ∧ heaps.length = n ∧ HeapOk m i heaps)
        ⟨none, List.replicate n [], rfl, xH5, hJ5, hLL5, List.length_replicate, fun h hh => by rw [List.eq_of_mem_replicate hh]; exact ⟨Nat.le_refl _, fun x hx => by cases hx⟩⟩ (fun _ _ _ _ _ => True.intro) ?_ ?_
      · rintro i x σ _ G hi ⟨u8, heaps, rfl, xG, hJG, hLLG, hhl, hok⟩ ⟨rfl, rfl⟩
        walk_at "op"
        refine ⟨_, rfl, _, rfl, low, rfl, ?_⟩
        cases low with
        | true =>
          refine iteT ?_
          have hfl : 0 < heaps.length := by rw [hhl]; exact (by omega)
          obtain ⟨b, e1, hb, nbR, nbp⟩ := (hLLG).row 0 heaps[0] (List.getElem?_eq_getElem hfl)
          have hhm := hok _ (List.getElem_mem hfl)
          have hbH := fresh _ _ e1
          refine ⟨R, ws, _, _, rfl, rfl, SqL.of (hLLG).at_, atI_nat e1, .inl ⟨rfl, _, SqL.of hb⟩, _, rfl, _, rfl, _, rfl, _, _, rfl, ph, _, N + 3 + 2 * i, rfl, by split <;> omega, Nat.lt_of_le_of_lt (Nat.log2_le_self _) (by split <;> omega), by omega, hJG, fun xx Gt y0 y1 hJt xt => ?_⟩
          have hbt := xt _ _ hb nbp
          have hLLt := (hLLG).ext xt nJR.symm
          have y2 : xx < (m : Int) := by revert y1; split <;> omega
          refine ⟨b, _, .int xx, rfl, rfl, hbt, by rw [List.length_map]; exact Nat.lt_of_le_of_lt (show heaps[0].length ≤ 60 by omega) (by rw [sizeLine_eq]; omega), ?_⟩
          have L2 := hLLt.updRow (c := heaps[0] ++ [xx]) e1 fun j e => inj j _ b e e1
          rw [List.map_append] at L2
          refine ⟨_, heaps.set 0 (heaps[0] ++ [xx]), rfl, fun c u ec nc => ?_, (hJt.up nbp.symm).le (by omega), L2, by rw [List.length_set]; exact hhl, fun h hh => ?_⟩
          · rw [upd_ne (ne_of_none ec hbH)]
            exact xt c u (xG c u ec nc) nc
          · rcases List.mem_or_eq_of_mem_set hh with hh | rfl
            · exact ⟨by have := (hok h hh).1; omega, (hok h hh).2⟩
            · refine ⟨by rw [List.length_append]; have := hhm.1; show _ + 1 ≤ _; omega, fun x hx => ?_⟩
              rcases List.mem_append.mp hx with hx | hx
              · exact hhm.2 x hx
              · rw [List.mem_singleton.mp hx]
                exact ⟨y0, y2⟩
        | false =>
          refine iteF ?_
          refine ⟨_, rfl, _, rfl, ah, hs, rfl, .inr (SqT.of (xG _ _ g1 nah)), ?_⟩
          rw [g2]
          refine ⟨ph, n, N + 3 + 2 * i, rfl, by omega, Nat.lt_of_le_of_lt (Nat.log2_le_self _) (by omega), by omega, hJG, fun ff Gf f0 f1 hJf xf => ?_⟩
          obtain ⟨fn, rfl⟩ : ∃ fn : Nat, ff = (fn : Int) := ⟨ff.toNat, by omega⟩
          have hLLf := hLLG.ext xf nJR.symm
          have xGf := xG.trans xf
          have hfl : fn < heaps.length := by rw [hhl]; exact (by omega)
          obtain ⟨b, e1, hb, nbR, nbp⟩ := (hLLf).row fn heaps[fn] (List.getElem?_eq_getElem hfl)
          have hhm := hok _ (List.getElem_mem hfl)
          have hbH := fresh _ _ e1
          refine ⟨R, ws, _, _, rfl, rfl, SqL.of (hLLf).at_, atI_nat e1, .inl ⟨rfl, _, SqL.of hb⟩, _, rfl, _, rfl, _, rfl, _, _, rfl, ph, _, N + 3 + 2 * i + 1, rfl, by split <;> omega, Nat.lt_of_le_of_lt (Nat.log2_le_self _) (by split <;> omega), by omega, hJf, fun xx Gt y0 y1 hJt xt => ?_⟩
          have hbt := xt _ _ hb nbp
          have hLLt := (hLLf).ext xt nJR.symm
          have y2 : xx < (m : Int) := by revert y1; split <;> omega
          refine ⟨b, _, .int xx, rfl, rfl, hbt, by rw [List.length_map]; exact Nat.lt_of_le_of_lt (show heaps[fn].length ≤ 60 by omega) (by rw [sizeLine_eq]; omega), ?_⟩
          have L2 := hLLt.updRow (c := heaps[fn] ++ [xx]) e1 fun j e => inj j _ b e e1
          rw [List.map_append] at L2
          refine ⟨_, heaps.set fn (heaps[fn] ++ [xx]), rfl, fun c u ec nc => ?_, (hJt.up nbp.symm).le (by omega), L2, by rw [List.length_set]; exact hhl, fun h hh => ?_⟩
          · rw [upd_ne (ne_of_none ec hbH)]
            exact xt c u (xGf c u ec nc) nc
          · rcases List.mem_or_eq_of_mem_set hh with hh | rfl
            · exact ⟨by have := (hok h hh).1; omega, (hok h hh).2⟩
            · refine ⟨by rw [List.length_append]; have := hhm.1; show _ + 1 ≤ _; omega, fun x hx => ?_⟩
              rcases List.mem_append.mp hx with hx | hx
              · exact hhm.2 x hx
              · rw [List.mem_singleton.mp hx]
                exact ⟨y0, y2⟩
      · rintro σ G ⟨u8, heaps, rfl, xG, hJG, hLLG, hhl, hok⟩
        walk_at "op"
        refine ⟨_, rfl, k R ws heaps G hR hLLG hhl (fun h hh => ⟨by have := (hok h hh).1; omega, (hok h hh).2⟩) (hJG.le (by omega)) xG⟩
end
end Fm
end FLP
section FLS
set_option Elab.async false
set_option linter.all false
set_option maxRecDepth 100000
set_option maxHeartbeats 4000000
local macro_rules | `(tactic| walk_at "ne") => `(tactic| first | assumption | (apply Ne.symm; assumption) | exact L2.ne_of_none (by assumption) (by assumption) | exact Ne.symm (L2.ne_of_none (by assumption) (by assumption)))
local macro_rules | `(tactic| walk_at "hl") => `(tactic| first | assumption | exact L2.upd_same | (refine Eq.trans (L2.upd_ne (by walk_at "ne")) ?_; walk_at "hl"))
local macro_rules | `(tactic| walk_at "sd") => `(tactic| first | (with_reducible show (_ : Int) < _; omega) | (with_reducible show (_ : Int) ≤ _; omega) | assumption | decide | exact ⟨by assumption, by assumption⟩ | exact ⟨by decide, by decide⟩ | exact Or.inr ⟨by decide, by decide⟩ | exact Or.inl ⟨by omega, by omega⟩ | rfl)
local macro_rules | `(tactic| walk_at "st1") => `(tactic| first
  | refine ⟨_, rfl, ?_⟩
  | refine ⟨_, _, rfl, rfl, ?_⟩
  | refine ⟨_, _, rfl, ?_⟩
  | (refine ⟨_, _, _, _, rfl, rfl, L2.SqL.of (by walk_at "hl"), rfl, ?_⟩)
  | (refine ⟨_, _, _, _, rfl, rfl, L2.SqT.of (by walk_at "hl"), rfl, ?_⟩)
  | (refine ⟨_, _, _, _, rfl, rfl, (by walk_at "hl"), rfl, ?_⟩)
  | (refine And.intro (by walk_at "sd") ?_)
  )
local macro_rules | `(tactic| walk_at "st") => `(tactic| repeat walk_at "st1")
local macro_rules | `(tactic| walk_at "op") => `(tactic| try dsimp only [L2.tSeq, L2.tAsg, L2.tOp, L2.tVar, L2.tC, L2.gSub, L2.rI, L2.rI0, L2.rIxL, L2.rIxT, L2.rSetL, L2.tIfS, L2.tTest, L2.tRet, L2.gName, L2.tNext, L2.tAnd, L2.tOr, L2.tNot, L2.tAndV, L2.tOrV, L2.tNotV, L2.tB, L2.tCB, L2.tCons, L2.tNil, L2.tCall, L2.tTup, L2.tLst, L2.tChain, L2.tUn, L2.tPar, L2.tDrop, L2.tIf, L2.tBM, L2.tBM0, L2.rAppend, L2.rCat, L2.rIsi, L2.rIsiT, L2.gTup, L2.gCons, L2.gNil, Fm.tFor_eq, Fm.tLc_eq, Fm.tLc2_eq, L2.iTup, L2.iList, L2.iRng1, L2.iRng2, L2.tSl, L2.tPart, L2.tNoPart, L2.rSlL, L2.rEq, L2.rNe, L2.rU, L2.rEqD, L2.rNeD, Fm.tRevT, Fm.rLenS, Fm.rTupOf, Fm.rLstOf, L2.tDNewK, L2.tCallS, L2.WE, Fm.wKeep, Fm.rIsK, Fm.rIsKT, List.cons_append, List.nil_append, L2.tYes])
namespace Fm
open PySem PySem.Spec PyProof.Rows L2
abbrev s_law_standing : Stmt := top 52
abbrev N_law_standing : List Str := ["house", "heaps", "out", "m", "floors", "heap", "number"]
theorem sc_law_standing : FnScope N_law_standing ["house", "heaps", "out"] (defScope s_law_standing) := ⟨rfl, rfl, rfl, by decide +kernel, rfl, by decide +kernel, by decide +kernel⟩
section
variable {P : Program} {w : World} {K : PySem.W.Frag} {mg : Str → Option Value} {base : Heap}
/-! ### the law's standings -/
def countR (m : Nat) (h : List Int) : List Int := (List.range m).map fun k : Nat => ((h.count (k : Int) : Nat) : Int)
theorem countR_snoc (m : Nat) (h : List Int) : countR (m + 1) h = countR m h ++ [((h.count (m : Int) : Nat) : Int)] := by unfold countR; rw [List.range_succ, List.map_append]; rfl
def spStandL : Sp := fun vs H Q _ => ∃ (p ph q : Addr) (u : HO) (hv : V) (fs : List PyData) (m n : Nat) (ws : List V) (heaps : List (List Int)) (out : Int), vs = [hv, .ref q, .int out] ∧ H p = some u ∧ Dat H ph hv (.tuple fs) ∧ HouseN m n (.tuple fs) ∧ LL H p q ws heaps ∧ heaps.length = n ∧
  ∀ v H', Dat H' p v (stD (heaps.map (countR m)) out) → Same H H' → Q v H'
theorem ok_law_standing (D : Df K mg "_law_standing" s_law_standing ["house", "heaps", "out"]) (T : Nms mg) : CallOk P w K mg base CX0 1 "_law_standing" ["house", "heaps", "out"] spStandL := by
  refine df_ok D sc_law_standing (fun vs H Q E h => ?_) (fun f cdv A outer s H vs Q E hr h => ?_)
  · obtain ⟨p, ph, q, u, hv, fs, m, n, ws, heaps, out, rfl, _⟩ := h
    rfl
  · obtain ⟨p, ph, q, u, hv, fs, m, n, ws, heaps, out, rfl, hp, hD, hN, hLL, hhl, k⟩ := h
    have nd := sc_law_standing.nd
    have hmn : 1 ≤ n ∧ n ≤ 4 ∧ 1 ≤ m ∧ m ≤ 6 := by
      obtain ⟨_, _, _, z1, z2, z3, z4, _⟩ := hN
      exact ⟨z1, z2, z3, z4⟩
    obtain ⟨ah, af, hs, t0, t1, rfl, g1, g2, g3, hF⟩ := floor_at hD hN (f := 0) (by omega)
    obtain ⟨ss, hss, hsl⟩ := stay_len hD hN (by omega) g1 g3 hF
    refine ⟨_, (pss_cons (ps_set (i := 3) nd rfl (Or.inl rfl) (pe_callB (r := rLenS K) call_lenS (by rfl) T.n_len (by decide +kernel) (pa_cons (pe_ix (r := rIxT K) ix_tup (pe_ix (r := rIxT K) ix_tup (pv 0) pe_int (fun _ _ => rfl)) pe_int (fun _ _ => rfl)) pa_nil)))
      (pss_cons (ps_set (i := 4) nd rfl (Or.inl rfl) (pe_lst pa_nil))
      (pss_cons (ps_for PassesOwn.never rfl (pi_list (pv 1)) (pg_name (i := 5) nd rfl (Or.inr rfl)) (pss_one (ps_expr (pe_bm PySem.F.plainAttrs_list PySem.F.slot_list_append PySem.F.type_list_append mt_append (pv 4) (pa_cons (pe_callTy (r := rTupOf K) call_tupOf (by rfl) T.n_tuple (by decide +kernel) (pa_cons (pe_lc (own := [("number", 6)]) (g := (gName 6)) (tt := tYes) (by rfl) nd (pi_range1 rfl T.n_range (pa_cons (pv 3) pa_nil)) (blkOk_by (own := [("number", 6)]) (N := N_law_standing) (sc := defScope s_law_standing) (by decide +kernel)) (fun _ _ _ _ _ => (pg_name (i := 6) nd rfl (Or.inl rfl))) (fun _ _ _ _ _ => pts_nil) (fun _ _ _ _ _ => (pe_bmK (K := K) (r := rCountI K) rfl PySem.F.plainAttrs_list PySem.F.slot_list_count PySem.F.type_list_count mt_countI (pv 5) (pa_cons (pv 6) pa_nil)))) pa_nil)) pa_nil)))))
      (pss_one (ps_ret (pe_op (r := rCatA K) op_catA (pe_callTy (r := rTupOf K) call_tupOf (by rfl) T.n_tuple (by decide +kernel) (pa_cons (pv 4) pa_nil)) (pe_tup (pa_cons (pv 2) pa_nil)))))))), ?_⟩
    walk_at "op"
    refine ⟨_, rfl, ah, hs, 0, _, rfl, rfl, SqT.of g1, atI_nat (j := 0) g3, af, _, 0, _, rfl, rfl, SqT.of hF.at_, rfl, t0, ss, rfl, .inr (SqT.of hss), ?_⟩
    rw [hsl]
    refine ⟨Nat.zero_le _, fun F0 hF0 => ?_⟩
    have sF := same_new (o := .lst []) hF0
    refine ⟨_, rfl, q, rfl, ⟨_, SqL.of (sF _ _ hLL.at_)⟩, ?_⟩
    refine fI walk_list (fun i σ G => ∃ (u5 : Option V) (wf : List V), σ = [some (.ref ah), some (.ref q), some (.int out), some (.int (m : Nat)), some (.ref F0), u5, none] ∧ Same H G ∧ G F0 = some (.lst wf) ∧ Dats G p wf (((heaps.take i).map (countR m)).map rowD))
      ⟨none, [], rfl, sF, upd_same, Dats.nil⟩ (fun _ _ _ _ ⟨_, _, _, e, _⟩ => SqL.of (e _ _ hLL.at_)) ?_ ?_
    · rintro i x σ _ G hi ⟨u5, wf, rfl, sG, hFG, hW⟩ ⟨rfl, hxi⟩
      have hil : i < heaps.length := by rw [← hLL.len]; exact hi
      have hgi : heaps[i]? = some heaps[i] := List.getElem?_eq_getElem hil
      obtain ⟨b, e1, hb, _, _⟩ := hLL.row i _ hgi
      rw [hxi] at e1
      cases e1
      have htk := tk_snoc hgi
      have hwl : wf.length ≤ 4 := by rw [hW.1, List.length_map, List.length_map, List.length_take]; omega
      generalize heaps[i] = h at *
      walk_at "op"
      refine ⟨_, rfl, .inl ⟨rfl, _, SqL.of hFG⟩, _, rfl, _, rfl, by omega, by omega, ?_⟩
      rw [Int.toNat_natCast]
      refine fun R hR => ?_
      refine lI walk_range (fun j G2 => Same G G2 ∧ G2 R = some (.lst ((countR j h).map V.int))) ⟨same_new hR, upd_same⟩ (fun _ _ _ _ => True.intro) ?_ ?_
      · rintro j x _ G2 hj ⟨s2, hR2⟩ ⟨rfl, rfl⟩
        walk_at "op"
        refine ⟨rfl, ?_⟩
        refine iteT ?_
        rw [Int.zero_add]
        refine ⟨_, rfl, .inl ⟨rfl, _, SqL.of ((sG.trans s2) _ _ hb)⟩, _, rfl, b, h, (j : Nat), rfl, rfl, SqL.of ((sG.trans s2) _ _ hb), ?_⟩
        refine ⟨_, hR2, by unfold countR; rw [List.length_map, List.length_map, List.length_range]; exact Nat.lt_of_le_of_lt (show j ≤ 6 by omega) (by rw [sizeLine_eq]; omega), sameOff s2 hR, ?_⟩
        rw [upd_same, countR_snoc, List.map_append]
        rfl
      · rintro G2 ⟨s2, hR2⟩
        refine ⟨R, _, rfl, .inl ⟨SqL.of hR2, fun l hl => ?_⟩⟩
        have s3 := s2.trans (same_new (o := .tup ((countR m h).map V.int)) hl)
        have hF3 := s3 _ _ hFG
        refine ⟨F0, wf, .ref l, rfl, rfl, hF3, Nat.lt_of_le_of_lt hwl (by rw [sizeLine_eq]; omega), _, wf ++ [.ref l], rfl, sameOff (sG.trans s3) hF0, upd_same, ?_⟩
        rw [htk, List.map_append, List.map_append]
        refine (Dats.setL hF3 ⟨hW.1, fun i x d a b => (hW.2 i x d a b).same s3⟩ (fun d hd => by obtain ⟨r, _, rfl⟩ := List.mem_map.mp hd; exact noList_ints' _)).snoc (Dat.setL hF3 (.tup upd_same (pne_of hp (sG.trans s2) hl) (by rw [List.length_map, List.length_map]) fun i x d a b => (Dats.ints (p := p) _).2 i x d a b) (noList_ints' _))
    · rintro σ G ⟨u5, wf, rfl, sG, hFG, hW⟩
      rw [hLL.len, List.take_length] at hW
      have hlt : wf.length = n := by rw [hW.1, List.length_map, List.length_map, hhl]
      walk_at "op"
      refine ⟨_, rfl, F0, wf, rfl, .inl ⟨SqL.of hFG, fun t1 ht1 => ?_⟩⟩
      refine ⟨_, rfl, by show 1 ≤ sizeLine; decide, fun t2 ht2 => ?_⟩
      have st1 := same_new (o := .tup wf) ht1
      have n12 : t1 ≠ t2 := ne_of_none upd_same ht2
      have s6 : Same H (upd (upd G t1 (.tup wf)) t2 (.tup [.int out])) := (sG.trans st1).trans (same_new ht2)
      refine ⟨t1, t2, wf, _, rfl, rfl, SqT.of (by rw [upd_ne n12]; exact upd_same), SqT.of upd_same, Nat.le_of_lt (Nat.lt_of_le_of_lt (show wf.length + 1 ≤ 5 by omega) (by rw [sizeLine_eq]; omega)), fun e => ?_, fun _ e => (by cases e), fun _ _ w hw => ?_⟩
      · rw [e] at hlt
        have : ([] : List V).length = 0 := rfl
        omega
      · exact k _ _ (Dat.new hw (pne_of hp s6 hw) (((hW.off ht1).off ht2).snoc (.int _))) (s6.trans (same_new hw))
end
end Fm
end FLS
section FFmHeaps
/-! Heaps of people, told one by one, as counts. Pure, nothing of the model. -/
set_option linter.all false
namespace FmC
/-- n floors of people told one by one, behind them those who went out -/
def hsSt (n : Nat) (hs : List (List Nat)) (out : Nat) : St := fun g a => if g < n then (hs.getD g []).count a else if g = n ∧ a = 0 then out + (hs.getD n []).length else 0
theorem one_at (f a g b : Nat) : one f a g b = if g = f then (if b = a then 1 else 0) else 0 := by
  unfold one
  by_cases h : g = f
  · by_cases k : b = a
    · rw [if_pos ⟨h, k⟩, if_pos h, if_pos k]
    · rw [if_neg (fun q => k q.2), if_pos h, if_neg k]
  · rw [if_neg (fun q => h q.1), if_neg h]
theorem count_one (l : List Nat) (a x : Nat) : (a :: l).count x = l.count x + if x = a then 1 else 0 := by
  rw [List.count_cons]
  by_cases h : x = a
  · subst h
    rw [if_pos (beq_self_eq_true x), if_pos rfl]
  · rw [if_neg (by simpa using Ne.symm h), if_neg h]
theorem count_snoc (l : List Nat) (a x : Nat) : (l ++ [a]).count x = l.count x + if x = a then 1 else 0 := by
  rw [List.count_append, count_one]
  simp
theorem getD_set_same {α : Type} (l : List α) (i : Nat) (x d : α) (h : i < l.length) : (l.set i x).getD i d = x := by
  rw [List.getD_eq_getElem?_getD, List.getElem?_set_self h]
  rfl
theorem getD_set_ne {α : Type} (l : List α) (i j : Nat) (x d : α) (h : i ≠ j) : (l.set i x).getD j d = l.getD j d := by
  rw [List.getD_eq_getElem?_getD, List.getElem?_set_ne h, List.getD_eq_getElem?_getD]
theorem hs_step {n m : Nat} {S U : Nat → Nat → Nat → Nat} {hs : List (List Nat)} {out f a b : Nat} {h u rest : List Nat} (hf : f < n) (hl : hs.length = n + 1) (hh : hs[f]? = some h) (hu : hs[f + 1]? = some u) (hp : h.Perm (a :: b :: rest)) (ha : a < m) (hb : b < m) :
    Step n m S (outU n U) (hsSt n hs out) (hsSt n ((hs.set f (rest ++ [S f a b])).set (f + 1) (u ++ [U f a b])) out) := by
  have eh : hs.getD f [] = h := by rw [List.getD_eq_getElem?_getD, hh]; rfl
  have eu : hs.getD (f + 1) [] = u := by rw [List.getD_eq_getElem?_getD, hu]; rfl
  refine ⟨fun g x => if g = f then rest.count x else hsSt n hs out g x, f, a, b, hf, ha, hb, ?_, ?_⟩
  · funext g x
    simp only [add_at, one_at]
    by_cases hg : g = f
    · subst hg
      rw [if_pos rfl, if_pos rfl, if_pos rfl]
      unfold hsSt
      rw [if_pos hf, eh, hp.count_eq, count_one, count_one]
      omega
    · rw [if_neg hg, if_neg hg, if_neg hg]
      omega
  · funext g x
    simp only [add_at, one_at]
    by_cases hg : g = f
    · subst hg
      rw [if_pos rfl, if_pos rfl, if_neg (by omega : ¬ g = g + 1)]
      unfold hsSt
      rw [if_pos hf, getD_set_ne _ _ _ _ _ (by omega), getD_set_same _ _ _ _ (by omega), count_snoc]
      omega
    · rw [if_neg hg, if_neg hg]
      by_cases h1 : g = f + 1
      · subst h1
        rw [if_pos rfl]
        unfold hsSt outU
        by_cases hn : f + 1 < n
        · rw [if_pos hn, if_pos hn, if_pos hn, getD_set_same _ _ _ _ (by rw [List.length_set]; omega), eu, count_snoc]
          omega
        · have en : f + 1 = n := by omega
          rw [if_neg hn, if_neg hn, if_neg hn, ← en, getD_set_same _ _ _ _ (by rw [List.length_set]; omega), eu, List.length_append]
          by_cases z : x = 0
          · rw [if_pos ⟨rfl, z⟩, if_pos ⟨rfl, z⟩, if_pos z]
            show out + (u.length + 1) = _
            omega
          · rw [if_neg (fun q => z q.2), if_neg (fun q => z q.2), if_neg z]
      · rw [if_neg h1]
        unfold hsSt
        by_cases hn : g < n
        · rw [if_pos hn, if_pos hn, getD_set_ne _ _ _ _ _ (Ne.symm h1), getD_set_ne _ _ _ _ _ (Ne.symm hg)]
          omega
        · rw [if_neg hn, if_neg hn]
          by_cases e : g = n
          · subst e
            rw [getD_set_ne _ _ _ _ _ (Ne.symm h1), getD_set_ne _ _ _ _ _ (Ne.symm hg)]
            omega
          · rw [if_neg (fun q => e q.1), if_neg (fun q => e q.1)]
end FmC
end FFmHeaps
section FFmStill
/-! Heaps and rows at rest; how many meetings heaps can have. Pure, nothing of the model. -/
set_option linter.all false
namespace FmC
theorem sum_count (m : Nat) (l : List Nat) : sumTo m (fun x => l.count x) ≤ l.length := by
  induction l with
  | nil =>
    have : (fun x => ([] : List Nat).count x) = fun _ => 0 := by funext x; rfl
    rw [this, sumTo_zero]
    exact Nat.le_refl _
  | cons a l ih =>
    have : (fun x => (a :: l).count x) = fun x => l.count x + if x = a then 1 else 0 := by funext x; exact count_one l a x
    rw [this, sumTo_add, List.length_cons]
    by_cases h : a < m
    · rw [sumTo_at h]
      omega
    · rw [sumTo_out (by omega)]
      omega
theorem sumTo_le {k : Nat} {g h : Nat → Nat} (e : ∀ i, i < k → g i ≤ h i) : sumTo k g ≤ sumTo k h := by
  induction k with
  | zero => exact Nat.le_refl _
  | succ k ih =>
    have := ih fun i hi => e i (by omega)
    have := e k (by omega)
    simp only [sumTo]
    omega
theorem getD_len {hs : List (List Nat)} {k : Nat} (h : ∀ x ∈ hs, x.length ≤ k) (f : Nat) : (hs.getD f []).length ≤ k := by
  rw [List.getD_eq_getElem?_getD]
  cases e : hs[f]? with
  | none => exact Nat.zero_le _
  | some x => exact h x (List.mem_of_getElem? e)
theorem tall_heaps {n m : Nat} {hs : List (List Nat)} {out : Nat} (hn : n ≤ 4) (h : ∀ x ∈ hs, x.length ≤ 60) : tall n m (hsSt n hs out) ≤ 600 := by
  have h1 : tall n m (hsSt n hs out) ≤ sumTo n fun f => (n - f) * 60 := by
    refine sumTo_le fun f hf => Nat.mul_le_mul_left _ ?_
    have : hsSt n hs out f = fun x => (hs.getD f []).count x := by
      funext x
      unfold hsSt
      rw [if_pos hf]
    rw [this]
    exact Nat.le_trans (sum_count _ _) (getD_len h f)
  have h2 : sumTo n (fun f => (n - f) * 60) ≤ 600 := by
    have : n = 0 ∨ n = 1 ∨ n = 2 ∨ n = 3 ∨ n = 4 := by omega
    rcases this with rfl | rfl | rfl | rfl | rfl <;> decide
  omega
theorem sum_one {m f a : Nat} (h : a < m) : sumTo m (one f a f) = 1 := by
  rw [show one f a f = fun b => if b = a then 1 else 0 from by funext b; simp [one]]
  exact sumTo_at h 1
/-- where there is at most one on a floor, nobody can meet -/
theorem still_of {n m : Nat} {S U : Nat → Nat → Nat → Nat} {c : St} (h : ∀ f, f < n → sumTo m (c f) ≤ 1) : Still n m S U c := by
  rintro d ⟨e, f, a, b, hf, ha, hb, rfl, _⟩
  have h1 := h f hf
  have : (e + one f a + one f b) f = fun x => e f x + one f a f x + one f b f x := rfl
  rw [this, sumTo_add, sumTo_add] at h1
  have h2 := sum_one (f := f) ha
  have h3 := sum_one (f := f) hb
  have h4 : sumTo m (fun x => one f a f x) = 1 := h2
  have h5 : sumTo m (fun x => one f b f x) = 1 := h3
  omega
theorem hs_still {n m : Nat} {S U : Nat → Nat → Nat → Nat} {hs : List (List Nat)} {out : Nat} (h : ∀ f, f < n → (hs.getD f []).length ≤ 1) : Still n m S U (hsSt n hs out) := still_of fun f hf => by
  have : hsSt n hs out f = fun x => (hs.getD f []).count x := by
    funext x
    unfold hsSt
    rw [if_pos hf]
  rw [this]
  exact Nat.le_trans (sum_count _ _) (h f hf)
theorem sum_cnt : ∀ {m : Nat} {c : List Int}, NN c → ((sumTo m (cnt c) : Nat) : Int) ≤ c.sum
  | m, [], _ => by
    have : cnt [] = fun _ => 0 := by
      funext a
      unfold cnt
      rw [List.getD_eq_getElem?_getD]
      rfl
    rw [this, sumTo_zero]
    exact Int.le_refl _
  | 0, c, h => h.sum
  | m + 1, x :: c, h => by
    have ih := sum_cnt (m := m) (c := c) fun y hy => h y (List.mem_cons_of_mem _ hy)
    have hx := h x List.mem_cons_self
    have e : ∀ k, sumTo (k + 1) (cnt (x :: c)) = x.toNat + sumTo k (cnt c) := fun k => by
      induction k with
      | zero => simp only [sumTo]; show 0 + cnt (x :: c) 0 = x.toNat + 0; unfold cnt; rw [List.getD_cons_zero]; omega
      | succ k ih =>
        rw [sumTo, ih, sumTo]
        have : cnt (x :: c) (k + 1) = cnt c k := by unfold cnt; rw [List.getD_cons_succ]
        omega
    rw [e m, List.sum_cons]
    omega
theorem st_still {n m : Nat} {S U : Nat → Nat → Nat → Nat} {rows : List (List Int)} {out : Int} (h : ∀ r ∈ rows, NN r ∧ r.sum ≤ 1) : Still n m S U (stSt n rows out) := still_of fun f hf => by
  have : stSt n rows out f = cnt (rows.getD f []) := by
    funext x
    unfold stSt
    rw [if_pos hf]
  rw [this]
  have h1 : NN (rows.getD f []) ∧ (rows.getD f []).sum ≤ 1 := by
    rw [List.getD_eq_getElem?_getD]
    cases e : rows[f]? with
    | none => exact ⟨(fun x hx => by cases hx), (by decide)⟩
    | some x => exact h x (List.mem_of_getElem? e)
  have h2 := sum_cnt (m := m) h1.1
  omega
/-- counts of a heap as a row -/
theorem hs_rows {n m : Nat} {hs : List (List Nat)} {out : Nat} {rows : List (List Int)} (hl : hs.length = n) (hr : rows.length = n) (hm : ∀ h ∈ hs, ∀ x ∈ h, x < m)
    (e : ∀ (f : Nat) (h : List Nat) (r : List Int), hs[f]? = some h → rows[f]? = some r → r.length = m ∧ ∀ a, a < m → r[a]? = some ((h.count a : Nat) : Int)) : hsSt n (hs ++ [[]]) out = stSt n rows (out : Int) := by
  funext g a
  unfold hsSt stSt
  by_cases hg : g < n
  · rw [if_pos hg, if_pos hg]
    have h1 : (hs ++ [[]])[g]? = some (hs[g]'(by omega)) := by rw [List.getElem?_append_left (by omega), List.getElem?_eq_getElem]
    have h2 : rows[g]? = some (rows[g]'(by omega)) := List.getElem?_eq_getElem _
    obtain ⟨e1, e2⟩ := e g _ _ (List.getElem?_eq_getElem (by omega)) h2
    rw [List.getD_eq_getElem?_getD, List.getD_eq_getElem?_getD, h1, h2]
    show List.count a (hs[g]'(by omega)) = cnt (rows[g]'(by omega)) a
    unfold cnt
    by_cases ha : a < m
    · rw [List.getD_eq_getElem?_getD, e2 a ha]
      rfl
    · rw [List.getD_eq_getElem?_getD, List.getElem?_eq_none (by omega)]
      exact List.count_eq_zero.mpr fun q => ha (hm _ (List.getElem_mem _) a q)
  · rw [if_neg hg, if_neg hg]
    by_cases z : g = n ∧ a = 0
    · rw [if_pos z, if_pos z]
      have : ((hs ++ [[]]).getD n []).length = 0 := by
        rw [List.getD_eq_getElem?_getD, List.getElem?_append_right (by omega), hl, Nat.sub_self]
        rfl
      omega
    · rw [if_neg z, if_neg z]
/-- heaps at rest that are as rows at rest -/
theorem rest_rows {n m : Nat} {hs : List (List Nat)} {out : Nat} {rows : List (List Int)} {out' : Int} (hl : hs.length = n + 1) (h1 : ∀ f, f < n → (hs.getD f []).length ≤ 1) (hr : rows.length = n) (ho : 0 ≤ out') (rr : ∀ r ∈ rows, r.length = m ∧ NN r)
    (e : hsSt n hs out = stSt n rows out') : out' = ((out + (hs.getD n []).length : Nat) : Int) ∧ ∀ (f : Nat) (r : List Int), rows[f]? = some r → r = (List.range m).map fun k : Nat => if (hs.getD f []).head? = some k then (1 : Int) else 0 := by
  constructor
  · have := congrFun (congrFun e n) 0
    unfold hsSt stSt at this
    rw [if_neg (Nat.lt_irrefl n), if_neg (Nat.lt_irrefl n), if_pos ⟨rfl, rfl⟩, if_pos ⟨rfl, rfl⟩] at this
    omega
  · intro f r hfr
    have hf : f < n := by
      have := (List.getElem?_eq_some_iff.mp hfr).1
      omega
    obtain ⟨rl, rn⟩ := rr r (List.mem_of_getElem? hfr)
    have hh := h1 f hf
    refine List.ext_getElem (by rw [rl, List.length_map, List.length_range]) fun a p1 p2 => ?_
    rw [List.getElem_map, List.getElem_range]
    have := congrFun (congrFun e f) a
    unfold hsSt stSt at this
    rw [if_pos hf, if_pos hf] at this
    have e3 : rows.getD f [] = r := by rw [List.getD_eq_getElem?_getD, hfr]; rfl
    have e4 := rn.cnt a
    rw [e3] at this
    have e5 : r.getD a 0 = r[a] := by rw [List.getD_eq_getElem?_getD, List.getElem?_eq_getElem p1]; rfl
    rw [e5, ← this] at e4
    rw [← e4]
    generalize hs.getD f [] = h at *
    match h, hh with
    | [], _ => rfl
    | [x], _ =>
      rw [count_one]
      show (((0 + if a = x then 1 else 0 : Nat) : Nat) : Int) = if some x = some a then 1 else 0
      by_cases z : a = x
      · rw [if_pos z, if_pos (by rw [z])]
        rfl
      · rw [if_neg z, if_neg (fun q => z (by cases q; rfl))]
        rfl
def endRow (m : Nat) (o : Option Nat) : List Int := (List.range m).map fun k : Nat => if o = some k then 1 else 0
theorem endRow_len (m : Nat) (o : Option Nat) : (endRow m o).length = m := by unfold endRow; rw [List.length_map, List.length_range]
theorem endRow_nn (m : Nat) (o : Option Nat) : NN (endRow m o) := fun x hx => by
  obtain ⟨k, _, rfl⟩ := List.mem_map.mp hx
  split <;> decide
theorem endRow_cnt (m : Nat) (o : Option Nat) (a : Nat) : cnt (endRow m o) a = if a < m ∧ o = some a then 1 else 0 := by
  unfold cnt endRow
  rw [List.getD_eq_getElem?_getD, List.getElem?_map]
  by_cases ha : a < m
  · rw [List.getElem?_range ha]
    show Int.toNat (if o = some a then 1 else 0) = _
    by_cases h : o = some a
    · rw [if_pos h, if_pos ⟨ha, h⟩]
      rfl
    · rw [if_neg h, if_neg (fun q => h q.2)]
      rfl
  · rw [List.getElem?_eq_none (by rw [List.length_range]; omega), if_neg (fun q => ha q.1)]
    rfl
theorem sum_map_one (o : Option Nat) : ∀ m : Nat, ((List.range m).map fun k : Nat => if o = some k then (1 : Int) else 0).sum = if ∃ k, k < m ∧ o = some k then 1 else 0
  | 0 => by
    rw [if_neg (by rintro ⟨k, h, _⟩; omega)]
    rfl
  | m + 1 => by
    rw [List.range_succ, List.map_append, List.sum_append, sum_map_one o m]
    show _ + ((if o = some m then (1 : Int) else 0) + 0) = _
    by_cases h : o = some m
    · have e1 : ¬ ∃ k, k < m ∧ o = some k := by
        rintro ⟨k, hk, e⟩
        rw [h] at e
        cases e
        omega
      rw [if_pos h, if_neg e1, if_pos (⟨m, Nat.lt_succ_self m, h⟩ : ∃ k, k < m + 1 ∧ o = some k)]
      rfl
    · rw [if_neg h]
      by_cases q : ∃ k, k < m ∧ o = some k
      · rw [if_pos q, if_pos (by obtain ⟨k, hk, e⟩ := q; exact ⟨k, by omega, e⟩)]
        rfl
      · rw [if_neg q, if_neg (by
          rintro ⟨k, hk, e⟩
          by_cases z : k = m
          · exact h (by rw [e, z])
          · exact q ⟨k, by omega, e⟩)]
        rfl
theorem endRow_sum (m : Nat) (o : Option Nat) : (endRow m o).sum ≤ 1 := by
  unfold endRow
  rw [sum_map_one]
  split <;> decide
/-- heaps at rest as rows -/
theorem hs_end {n m : Nat} {hs : List (List Nat)} {out : Nat} (hl : hs.length = n + 1) (hm : ∀ h ∈ hs, ∀ x ∈ h, x < m) (h1 : ∀ f, f < n → (hs.getD f []).length ≤ 1) :
    hsSt n hs out = stSt n (((hs.take n).map List.head?).map (endRow m)) ((out + (hs.getD n []).length : Nat) : Int) := by
  funext g a
  unfold hsSt stSt
  by_cases hg : g < n
  · rw [if_pos hg, if_pos hg]
    have e : (((hs.take n).map List.head?).map (endRow m)).getD g [] = endRow m (hs.getD g []).head? := by
      rw [List.getD_eq_getElem?_getD, List.getElem?_map, List.getElem?_map, List.getElem?_take_of_lt hg, List.getElem?_eq_getElem (show g < hs.length by omega), List.getD_eq_getElem?_getD, List.getElem?_eq_getElem (show g < hs.length by omega)]
      rfl
    rw [e, endRow_cnt]
    have hh := h1 g hg
    have hm' : ∀ x ∈ hs.getD g [], x < m := fun x hx => by
      rw [List.getD_eq_getElem?_getD, List.getElem?_eq_getElem (show g < hs.length by omega)] at hx
      exact hm _ (List.getElem_mem _) x hx
    generalize hs.getD g [] = h at *
    match h, hh with
    | [], _ => rw [if_neg (fun q => by cases q.2)]; rfl
    | [x], _ =>
      rw [count_one]
      show 0 + (if a = x then 1 else 0) = if a < m ∧ some x = some a then 1 else 0
      have hx := hm' x List.mem_cons_self
      by_cases z : a = x
      · rw [if_pos z, if_pos ⟨by omega, by rw [z]⟩]
      · rw [if_neg z, if_neg (fun q => z (by cases q.2; rfl))]
  · rw [if_neg hg, if_neg hg]
    by_cases z : g = n ∧ a = 0
    · rw [if_pos z, if_pos z]
      rfl
    · rw [if_neg z, if_neg z]
/-- rows are told by their counts -/
theorem st_inj {n m : Nat} {r1 r2 : List (List Int)} {o1 o2 : Int} (l1 : r1.length = n) (l2 : r2.length = n) (k1 : ∀ r ∈ r1, r.length = m ∧ NN r) (k2 : ∀ r ∈ r2, r.length = m ∧ NN r) (p1 : 0 ≤ o1) (p2 : 0 ≤ o2) (e : stSt n r1 o1 = stSt n r2 o2) : r1 = r2 ∧ o1 = o2 := by
  constructor
  · refine List.ext_getElem (by omega) fun f h1 h2 => ?_
    obtain ⟨a1, a2⟩ := k1 _ (List.getElem_mem h1)
    obtain ⟨b1, b2⟩ := k2 _ (List.getElem_mem h2)
    refine List.ext_getElem (by omega) fun a q1 q2 => ?_
    have := congrFun (congrFun e f) a
    unfold stSt at this
    rw [if_pos (by omega), if_pos (by omega)] at this
    have e1 : r1.getD f [] = r1[f] := by rw [List.getD_eq_getElem?_getD, List.getElem?_eq_getElem h1]; rfl
    have e2 : r2.getD f [] = r2[f] := by rw [List.getD_eq_getElem?_getD, List.getElem?_eq_getElem h2]; rfl
    rw [e1, e2] at this
    have c1 := a2.cnt a
    have c2 := b2.cnt a
    have d1 : (r1[f]).getD a 0 = (r1[f])[a] := by rw [List.getD_eq_getElem?_getD, List.getElem?_eq_getElem q1]; rfl
    have d2 : (r2[f]).getD a 0 = (r2[f])[a] := by rw [List.getD_eq_getElem?_getD, List.getElem?_eq_getElem q2]; rfl
    omega
  · have := congrFun (congrFun e n) 0
    unfold stSt at this
    rw [if_neg (Nat.lt_irrefl n), if_neg (Nat.lt_irrefl n), if_pos ⟨rfl, rfl⟩, if_pos ⟨rfl, rfl⟩] at this
    omega
end FmC
end FFmStill
section FFmAlone
/-! Each floor of a run looked at alone: who came to it, who is there, who went up. Pure, nothing of the model. -/
namespace FmC
/-- those on a floor, and those gone up from it, by number -/
def pairS (r u : Nat → Nat) : St := fun g x => if g = 0 then r x else if g = 1 then u x else 0
theorem pair_zero (r u : Nat → Nat) (x : Nat) : pairS r u 0 x = r x := rfl
theorem pair_one (r u : Nat → Nat) (x : Nat) : pairS r u 1 x = u x := rfl
/-- who came to a floor: its own, and those who went up from below -/
def came (c0 : St) (up : Nat → Nat → Nat) (f : Nat) : Nat → Nat := fun x => c0 f x + if f = 0 then 0 else up (f - 1) x
def RunA (m : Nat) (S U : Nat → Nat → Nat → Nat) (f : Nat) : St → St → Prop := Run 1 m (fun _ => S f) (fun _ => U f)
def InvA (n m : Nat) (S U : Nat → Nat → Nat → Nat) (c0 : St) (up : Nat → Nat → Nat) (c : St) : Prop := ∀ f, f < n → RunA m S U f (pairS (came c0 up f) fun _ => 0) (pairS (c f) (up f))
theorem inv_nil {n m : Nat} {S U : Nat → Nat → Nat → Nat} (c : St) : InvA n m S U c (fun _ _ => 0) c := fun f _ => by
  have e : came c (fun _ _ => 0) f = c f := by
    funext x
    unfold came
    split <;> rfl
  rw [e]
  exact Run.nil _
theorem inv_step {n m : Nat} {S U : Nat → Nat → Nat → Nat} {c0 c d : St} {up : Nat → Nat → Nat} (I : InvA n m S U c0 up c) (h : Step n m S (outU n U) c d) : ∃ up', InvA n m S U c0 up' d := by
  obtain ⟨e, f, a, b, hf, ha, hb, rfl, rfl⟩ := h
  refine ⟨fun g x => up g x + if g = f ∧ x = U f a b then 1 else 0, fun g hg => ?_⟩
  have hI := I g hg
  by_cases h1 : g = f
  · subst h1
    have ec : came c0 (fun g' x => up g' x + if g' = g ∧ x = U g a b then 1 else 0) g = came c0 up g := by
      funext x
      unfold came
      by_cases z : g = 0
      · rw [if_pos z, if_pos z]
      · rw [if_neg z, if_neg z]
        show c0 g x + (up (g - 1) x + if g - 1 = g ∧ x = U g a b then 1 else 0) = _
        rw [if_neg (by omega)]
        rfl
    rw [ec]
    refine Run.trans hI (.one ⟨pairS (e g) (up g), 0, a, b, by omega, ha, hb, ?_, ?_⟩)
    · funext p x
      simp only [add_at, one_at, pairS]
      by_cases p0 : p = 0
      · simp [p0]
      · by_cases p1 : p = 1 <;> simp [p0, p1]
    · funext p x
      simp only [add_at, one_at, pairS]
      by_cases p0 : p = 0
      · simp [p0]
      · by_cases p1 : p = 1 <;> simp [p0, p1]
  · by_cases h2 : g = f + 1
    · subst h2
      have eo : outU n U f a b = U f a b := by unfold outU; rw [if_pos hg]
      have hb2 := Run.beside hI (one 0 (U f a b))
      have e1 : one 0 (U f a b) + pairS (came c0 up (f + 1)) (fun _ => 0) = pairS (came c0 (fun g' x => up g' x + if g' = f ∧ x = U f a b then 1 else 0) (f + 1)) (fun _ => 0) := by
        funext p x
        simp only [add_at, one_at, pairS, came]
        by_cases p0 : p = 0
        · simp [p0]
          omega
        · by_cases p1 : p = 1 <;> simp [p0, p1]
      have e2 : one 0 (U f a b) + pairS ((e + one f a + one f b) (f + 1)) (up (f + 1)) = pairS ((e + one f (S f a b) + one (f + 1) (outU n U f a b)) (f + 1)) (fun x => up (f + 1) x + if f + 1 = f ∧ x = U f a b then 1 else 0) := by
        rw [eo]
        funext p x
        simp only [add_at, one_at, pairS]
        by_cases p0 : p = 0
        · simp [p0]
          omega
        · by_cases p1 : p = 1 <;> simp [p0, p1]
      rw [e1, e2] at hb2
      exact hb2
    · have ec : came c0 (fun g' x => up g' x + if g' = f ∧ x = U f a b then 1 else 0) g = came c0 up g := by
        funext x
        unfold came
        by_cases z : g = 0
        · rw [if_pos z, if_pos z]
        · rw [if_neg z, if_neg z]
          show c0 g x + (up (g - 1) x + if g - 1 = f ∧ x = U f a b then 1 else 0) = _
          rw [if_neg (by omega)]
          rfl
      have e1 : (e + one f (S f a b) + one (f + 1) (outU n U f a b)) g = (e + one f a + one f b) g := by
        funext x
        simp only [add_at, one_at, if_neg h1, if_neg h2]
      have e2 : (fun x => up g x + if g = f ∧ x = U f a b then 1 else 0) = up g := by
        funext x
        rw [if_neg (fun z => h1 z.1)]
        rfl
      show RunA m S U g (pairS (came c0 _ g) _) (pairS _ (fun x => up g x + if g = f ∧ x = U f a b then 1 else 0))
      rw [ec, e1, e2]
      exact hI
theorem inv_run {n m : Nat} {S U : Nat → Nat → Nat → Nat} {c0 c d : St} (h : Run n m S (outU n U) c d) : ∀ {up : Nat → Nat → Nat}, InvA n m S U c0 up c → ∃ up', InvA n m S U c0 up' d := by
  induction h with
  | nil c => exact fun I => ⟨_, I⟩
  | cons s _ ih =>
    intro up I
    obtain ⟨up', I'⟩ := inv_step I s
    exact ih I'
theorem came_run {n m : Nat} {S U : Nat → Nat → Nat → Nat} {c d : St} (h : Run n m S (outU n U) c d) : ∃ up, InvA n m S U c up d := inv_run h (inv_nil c)
theorem came_one {n m : Nat} {S U : Nat → Nat → Nat → Nat} {c0 c d : St} {up up' : Nat → Nat → Nat} (B : ∀ f, f < n → Tables 1 m (fun _ => S f) (fun _ => U f)) (T : ∀ f, f < n → Three 1 m (fun _ => S f) (fun _ => U f))
    (I : InvA n m S U c0 up c) (J : InvA n m S U c0 up' d) (s : ∀ f, f < n → sumTo m (c f) ≤ 1) (t : ∀ f, f < n → sumTo m (d f) ≤ 1) : ∀ f, f < n → came c0 up f = came c0 up' f ∧ c f = d f ∧ up f = up' f := by
  have one : ∀ f, f < n → came c0 up f = came c0 up' f → c f = d f ∧ up f = up' f := fun f hf e => by
    have h1 := I f hf
    have h2 := J f hf
    rw [← e] at h2
    have h := one_end (B f hf) (T f hf) h1 h2 (still_of fun g hg => by
      obtain rfl : g = 0 := by omega
      exact s f hf) (still_of fun g hg => by
      obtain rfl : g = 0 := by omega
      exact t f hf)
    refine ⟨funext fun x => ?_, funext fun x => ?_⟩
    · exact congrFun (congrFun h 0) x
    · exact congrFun (congrFun h 1) x
  intro f
  induction f with
  | zero =>
    intro hf
    have e : came c0 up 0 = came c0 up' 0 := rfl
    exact ⟨e, one 0 hf e⟩
  | succ f ih =>
    intro hf
    have h := ih (by omega)
    have e : came c0 up (f + 1) = came c0 up' (f + 1) := by
      funext x
      unfold came
      rw [if_neg (by omega), if_neg (by omega)]
      show c0 (f + 1) x + up f x = c0 (f + 1) x + up' f x
      rw [h.2.2]
    exact ⟨e, one (f + 1) hf e⟩
end FmC
namespace FmC
/-- three on a floor alone, whoever meets first -/
theorem three_alone {m : Nat} {S U : Nat → Nat → Nat} (sm : ∀ a b, a < m → b < m → S a b < m) (h : ∀ x y z, x < m → y < m → z < m → S (S x y) z = S (S x z) y ∧ ((U x y = U x z ∧ U (S x y) z = U (S x z) y) ∨ (U x y = U (S x z) y ∧ U (S x y) z = U x z))) :
    Three 1 m (fun _ => S) (fun _ => U) := by
  intro f x y z hf hx hy hz
  obtain rfl : f = 0 := by omega
  obtain ⟨e, hu⟩ := h x y z hx hy hz
  refine ⟨one 1 (U x y) + one 0 (S (S x y) z) + one 1 (U (S x y) z), .one ⟨one 1 (U x y), 0, S x y, z, by omega, sm _ _ hx hy, hz, ?_, rfl⟩, .one ⟨one 1 (U x z), 0, S x z, y, by omega, sm _ _ hx hz, hy, ?_, ?_⟩⟩
  · rw [add_cm (one 0 (S x y))]
  · rw [add_cm (one 0 (S x z))]
  · rw [e]
    rcases hu with ⟨h1, h2⟩ | ⟨h1, h2⟩
    · rw [h1, h2]
    · rw [h1, h2, add_rc]
      funext p q
      simp only [add_at, Nat.zero_add]
      omega
end FmC
end FFmAlone
section FFmLate
/-! Standings together, late comers, numbers called otherwise, how many people. Pure, nothing of the model. -/
set_option linter.all false
namespace FmC
section
variable {n m : Nat} {S U : Nat → Nat → Nat → Nat}
/-! ### together -/
theorem st_add {a b : List (List Int)} {o1 o2 : Int} (l1 : a.length = n) (l2 : b.length = n) (k1 : ∀ r ∈ a, r.length = m ∧ NN r) (k2 : ∀ r ∈ b, r.length = m ∧ NN r) (p1 : 0 ≤ o1) (p2 : 0 ≤ o2) : stSt n (List.zipWith addR a b) (o1 + o2) = stSt n a o1 + stSt n b o2 := by
  funext g x
  simp only [add_at]
  unfold stSt
  by_cases hg : g < n
  · rw [if_pos hg, if_pos hg, if_pos hg]
    have e : (List.zipWith addR a b).getD g [] = addR (a.getD g []) (b.getD g []) := by
      rw [List.getD_eq_getElem?_getD, List.getElem?_zipWith, List.getElem?_eq_getElem (show g < a.length by omega), List.getElem?_eq_getElem (show g < b.length by omega), List.getD_eq_getElem?_getD, List.getElem?_eq_getElem (show g < a.length by omega), List.getD_eq_getElem?_getD, List.getElem?_eq_getElem (show g < b.length by omega)]
      rfl
    have ka : a.getD g [] ∈ a := by rw [List.getD_eq_getElem?_getD, List.getElem?_eq_getElem (show g < a.length by omega)]; exact List.getElem_mem _
    have kb : b.getD g [] ∈ b := by rw [List.getD_eq_getElem?_getD, List.getElem?_eq_getElem (show g < b.length by omega)]; exact List.getElem_mem _
    obtain ⟨q1, q2⟩ := k1 _ ka
    obtain ⟨q3, q4⟩ := k2 _ kb
    rw [e]
    unfold cnt
    rw [addR_get (by omega)]
    have := q2.get x
    have := q4.get x
    omega
  · rw [if_neg hg, if_neg hg, if_neg hg]
    by_cases z : g = n ∧ x = 0
    · rw [if_pos z, if_pos z, if_pos z]
      omega
    · rw [if_neg z, if_neg z, if_neg z]
theorem Run.both {c c' d d' : St} (h : Run n m S U c c') (k : Run n m S U d d') : Run n m S U (c + d) (c' + d') := by
  have h1 := h.beside d
  have h2 := k.beside c'
  rw [add_cm d c, add_cm d c'] at h1
  exact h1.trans h2
/-! ### how many people -/
def heads (n m : Nat) (c : St) : Nat := sumTo n (fun f => sumTo m (c f)) + c n 0
theorem sumTo_congr' : ∀ {k : Nat} {g h : Nat → Nat}, (∀ i, i < k → g i = h i) → sumTo k g = sumTo k h
  | 0, _, _, _ => rfl
  | k + 1, g, h, e => by
    simp only [sumTo]
    rw [sumTo_congr' fun i hi => e i (by omega), e k (by omega)]
theorem heads_add (c d : St) : heads n m (c + d) = heads n m c + heads n m d := by
  unfold heads
  have : (fun f => sumTo m ((c + d) f)) = fun f => sumTo m (c f) + sumTo m (d f) := by
    funext f
    exact sumTo_add m (c f) (d f)
  rw [this, sumTo_add]
  show _ + (c n 0 + d n 0) = _
  omega
theorem heads_one {f a : Nat} (hf : f < n) (ha : a < m) : heads n m (one f a) = 1 := by
  unfold heads
  have : (fun g => sumTo m (one f a g)) = fun g => if g = f then 1 else 0 := by
    funext g
    by_cases h : g = f
    · subst h
      rw [if_pos rfl, sum_one ha]
    · rw [if_neg h]
      have : one f a g = fun _ => 0 := by funext b; exact one_ne fun q => h q.1
      rw [this, sumTo_zero]
  rw [this, sumTo_at hf, one_ne (by omega)]
theorem heads_out : heads n m (one n 0) = 1 := by
  unfold heads
  have : sumTo n (fun g => sumTo m (one n 0 g)) = sumTo n fun _ => 0 := sumTo_congr' fun g hg => by
    have : one n 0 g = fun _ => 0 := by funext b; exact one_ne (by omega)
    rw [this, sumTo_zero]
  rw [this, sumTo_zero, one_self]
theorem heads_up (B : Tabs n m S U) {f a b : Nat} (hf : f < n) (ha : a < m) (hb : b < m) : heads n m (one (f + 1) (outU n U f a b)) = 1 := by
  unfold outU
  by_cases h : f + 1 < n
  · rw [if_pos h]
    exact heads_one h (B.um f a b hf ha hb)
  · rw [if_neg h, show f + 1 = n by omega]
    exact heads_out
theorem heads_step (B : Tabs n m S U) {c d : St} (h : Step n m S (outU n U) c d) : heads n m c = heads n m d := by
  obtain ⟨e, f, a, b, hf, ha, hb, rfl, rfl⟩ := h
  rw [heads_add, heads_add, heads_add, heads_add, heads_one hf ha, heads_one hf hb, heads_one hf (B.sm f a b hf ha hb), heads_up B hf ha hb]
theorem heads_run (B : Tabs n m S U) {c d : St} (h : Run n m S (outU n U) c d) : heads n m c = heads n m d := by
  induction h with
  | nil => rfl
  | cons s _ ih => rw [heads_step B s, ih]
theorem sum_cnt_eq : ∀ {m : Nat} {c : List Int}, c.length = m → NN c → ((sumTo m (cnt c) : Nat) : Int) = c.sum
  | 0, [], _, _ => rfl
  | m + 1, x :: c, hl, h => by
    have ih := sum_cnt_eq (m := m) (c := c) (by simpa using hl) fun y hy => h y (List.mem_cons_of_mem _ hy)
    have hx := h x List.mem_cons_self
    have e : ∀ k, sumTo (k + 1) (cnt (x :: c)) = x.toNat + sumTo k (cnt c) := fun k => by
      induction k with
      | zero => simp only [sumTo]; show 0 + cnt (x :: c) 0 = x.toNat + 0; unfold cnt; rw [List.getD_cons_zero]; omega
      | succ k ih =>
        rw [sumTo, ih, sumTo]
        have : cnt (x :: c) (k + 1) = cnt c k := by unfold cnt; rw [List.getD_cons_succ]
        omega
    rw [e m, List.sum_cons]
    omega
theorem sumTo_shift : ∀ (k : Nat) (g : Nat → Nat), sumTo (k + 1) g = g 0 + sumTo k fun i => g (i + 1)
  | 0, g => by simp only [sumTo]; omega
  | k + 1, g => by
    rw [sumTo, sumTo_shift k g]
    simp only [sumTo]
    omega
theorem rows_sum : ∀ {k : Nat} {rows : List (List Int)}, rows.length = k → (∀ r ∈ rows, r.length = m ∧ NN r) → ((sumTo k (fun f => sumTo m (cnt (rows.getD f []))) : Nat) : Int) = (rows.map List.sum).sum
  | 0, [], _, _ => rfl
  | k + 1, r :: rows, hl, h => by
    have ih := rows_sum (k := k) (rows := rows) (by simpa using hl) fun y hy => h y (List.mem_cons_of_mem _ hy)
    obtain ⟨q1, q2⟩ := h r List.mem_cons_self
    rw [sumTo_shift, List.map_cons, List.sum_cons, ← ih, ← sum_cnt_eq q1 q2]
    show ((sumTo m (cnt r) + sumTo k (fun i => sumTo m (cnt (rows.getD i []))) : Nat) : Int) = _
    omega
theorem heads_st {rows : List (List Int)} {out : Int} (hl : rows.length = n) (h : ∀ r ∈ rows, r.length = m ∧ NN r) (ho : 0 ≤ out) : ((heads n m (stSt n rows out) : Nat) : Int) = (rows.map List.sum).sum + out := by
  unfold heads
  have e : sumTo n (fun f => sumTo m (stSt n rows out f)) = sumTo n fun f => sumTo m (cnt (rows.getD f [])) := sumTo_congr' fun f hf => by
    have : stSt n rows out f = cnt (rows.getD f []) := by
      funext x
      unfold stSt
      rw [if_pos hf]
    rw [this]
  rw [e, Int.natCast_add, rows_sum hl h]
  have : stSt n rows out n 0 = out.toNat := by
    unfold stSt
    rw [if_neg (Nat.lt_irrefl n), if_pos ⟨rfl, rfl⟩]
  rw [this]
  omega
/-! ### a late comer -/
/-- whoever comes to a floor of a standing at rest leads it on, one more out where somebody stands on each floor from there on -/
theorem late (B : Tabs n m S U) : ∀ (k : Nat) {c : St} {f a : Nat}, k + f = n → f < n → a < m → (∀ g, g < n → sumTo m (c g) ≤ 1) →
    ∃ d, Run n m S (outU n U) (c + one f a) d ∧ (∀ g, g < n → sumTo m (d g) ≤ 1) ∧ ((∀ g, f ≤ g → g < n → sumTo m (c g) = 1) → d n 0 = c n 0 + 1) ∧ (¬ (∀ g, f ≤ g → g < n → sumTo m (c g) = 1) → d n 0 = c n 0)
  | 0, c, f, a, e, hf, ha, hc => by omega
  | k + 1, c, f, a, e, hf, ha, hc => by
    have pl : ∀ (d : St) (g b : Nat), sumTo m ((d + one f b) g) = sumTo m (d g) + if g = f then sumTo m (one f b f) else 0 := fun d g b => by
      have : (d + one f b) g = fun x => d g x + one f b g x := rfl
      rw [this, sumTo_add]
      congr 1
      by_cases h : g = f
      · rw [if_pos h, h]
      · rw [if_neg h]
        have : one f b g = fun _ => 0 := by funext x; exact one_ne fun q => h q.1
        rw [this, sumTo_zero]
    by_cases h0 : sumTo m (c f) = 0
    · refine ⟨c + one f a, .nil _, fun g hg => ?_, ?_⟩
      · rw [pl]
        by_cases h : g = f
        · rw [if_pos h, sum_one ha, h, h0]
          exact Nat.le_refl _
        · rw [if_neg h]
          exact hc g hg
      · have h2 : (c + one f a) n 0 = c n 0 := by rw [add_at, one_ne (by omega), Nat.add_zero]
        exact ⟨fun q => by have := q f (Nat.le_refl _) hf; omega, fun _ => h2⟩
    · -- somebody stands there
      have h1 : sumTo m (c f) = 1 := by have := hc f hf; omega
      obtain ⟨b, hb, hb1⟩ : ∃ b, b < m ∧ 1 ≤ c f b := by
        have : ∀ j, sumTo j (c f) ≠ 0 → ∃ b, b < j ∧ 1 ≤ c f b := by
          intro j
          induction j with
          | zero => intro q; exact absurd rfl q
          | succ j ih =>
            intro q
            simp only [sumTo] at q
            by_cases z : c f j = 0
            · obtain ⟨b, q1, q2⟩ := ih (by omega)
              exact ⟨b, by omega, q2⟩
            · exact ⟨j, by omega, by omega⟩
        exact this m h0
      -- the rest without them
      let r : St := fun g x => c g x - one f b g x
      have er : c = r + one f b := by
        funext g x
        show c g x = (c g x - one f b g x) + one f b g x
        by_cases z : g = f ∧ x = b
        · obtain ⟨rfl, rfl⟩ := z
          rw [one_self]
          omega
        · rw [one_ne z]
          omega
      have hr : sumTo m (r f) = 0 := by
        have := pl r f b
        rw [← er, if_pos rfl, sum_one hb] at this
        omega
      have hrg : ∀ g, g ≠ f → sumTo m (r g) = sumTo m (c g) := fun g hg => by
        have := pl r g b
        rw [← er, if_neg hg] at this
        omega
      have st : Step n m S (outU n U) (c + one f a) (r + one f (S f b a) + one (f + 1) (outU n U f b a)) := ⟨r, f, b, a, hf, hb, ha, by rw [er], rfl⟩
      have hs := B.sm f b a hf hb ha
      have hc2 : ∀ g, g < n → sumTo m ((r + one f (S f b a)) g) = sumTo m (c g) := fun g hg => by
        rw [pl]
        by_cases h : g = f
        · rw [if_pos h, sum_one hs, h, hr, h1]
        · rw [if_neg h, hrg g h]
          omega
      have hn0 : (r + one f (S f b a)) n 0 = c n 0 := by
        show (c n 0 - one f b n 0) + one f (S f b a) n 0 = c n 0
        rw [one_ne (by omega), one_ne (by omega)]
        omega
      by_cases hn : f + 1 < n
      · have eu : outU n U f b a = U f b a := if_pos hn
        obtain ⟨d, q1, q2, q3⟩ := late B k (c := r + one f (S f b a)) (f := f + 1) (a := U f b a) (by omega) hn (B.um f b a hf hb ha) fun g hg => by rw [hc2 g hg]; exact hc g hg
        rw [← eu] at q1
        refine ⟨d, (Run.one st).trans q1, q2, ?_⟩
        rw [hn0] at q3
        refine ⟨fun z => q3.1 fun g h1' h2 => by rw [hc2 g h2]; exact z g (by omega) h2, fun z => q3.2 fun q => z fun g h1' h2 => ?_⟩
        by_cases hgf : g = f
        · rw [hgf]; exact h1
        · rw [← hc2 g h2]; exact q g (by omega) h2
      · have en : f + 1 = n := by omega
        have eu : outU n U f b a = 0 := if_neg hn
        rw [eu, en] at st
        refine ⟨_, .one st, fun g hg => ?_, ?_⟩
        · have : (r + one f (S f b a) + one n 0) g = fun x => (r + one f (S f b a)) g x + one n 0 g x := rfl
          rw [this, sumTo_add, hc2 g hg]
          have : one n 0 g = fun _ => 0 := by funext x; exact one_ne (by omega)
          rw [this, sumTo_zero]
          exact hc g hg
        · have h3 : (r + one f (S f b a) + one n 0) n 0 = c n 0 + 1 := by rw [add_at, hn0, one_self]
          exact ⟨fun _ => h3, fun z => absurd (fun g h1' h2 => by rw [show g = f by omega]; exact h1) z⟩
end
/-! ### numbers called otherwise, floor by floor -/
section
variable {n m : Nat} {S U S' U' : Nat → Nat → Nat → Nat} {cl bk : Nat → Nat → Nat}
def turnSt (n m : Nat) (bk : Nat → Nat → Nat) (c : St) : St := fun g x => if g < n then (if x < m then c g (bk g x) else 0) else c g x
theorem turn_add (c d : St) : turnSt n m bk (c + d) = turnSt n m bk c + turnSt n m bk d := by
  funext g x
  unfold turnSt
  simp only [add_at]
  by_cases h : g < n
  · rw [if_pos h, if_pos h, if_pos h]
    by_cases k : x < m
    · rw [if_pos k, if_pos k, if_pos k]
    · rw [if_neg k, if_neg k, if_neg k]
  · rw [if_neg h, if_neg h, if_neg h]
theorem turn_one (C : ∀ g, g < n → Calls m (cl g) (bk g)) {f a : Nat} (hf : f < n) (ha : a < m) : turnSt n m bk (one f a) = one f (cl f a) := by
  funext g x
  unfold turnSt
  by_cases hg : g < n
  · rw [if_pos hg]
    have K := C g hg
    by_cases hx : x < m
    · rw [if_pos hx]
      by_cases z : g = f
      · subst z
        rw [one_at, one_at, if_pos rfl, if_pos rfl]
        by_cases w : bk g x = a
        · rw [if_pos w, if_pos (by rw [← w, K.cb x hx])]
        · rw [if_neg w, if_neg (fun q => w (by rw [q, K.bc a ha]))]
      · rw [one_ne fun q => z q.1, one_ne fun q => z q.1]
    · rw [if_neg hx, one_ne]
      rintro ⟨rfl, rfl⟩
      exact hx (K.cm a ha)
  · rw [if_neg hg, one_ne (by omega), one_ne (by omega)]
theorem turn_out : turnSt n m bk (one n 0) = one n 0 := by
  funext g x
  unfold turnSt
  by_cases hg : g < n
  · rw [if_pos hg]
    by_cases hx : x < m
    · rw [if_pos hx, one_ne (by omega), one_ne (by omega)]
    · rw [if_neg hx, one_ne (by omega)]
  · rw [if_neg hg]
theorem turn_step (B : Tabs n m S U) (C : ∀ g, g < n → Calls m (cl g) (bk g)) (hS : ∀ f a b, f < n → a < m → b < m → S' f a b = cl f (S f (bk f a) (bk f b))) (hU : ∀ f a b, f + 1 < n → a < m → b < m → U' f a b = cl (f + 1) (U f (bk f a) (bk f b)))
    {c d : St} (h : Step n m S (outU n U) c d) : Step n m S' (outU n U') (turnSt n m bk c) (turnSt n m bk d) := by
  obtain ⟨e, f, a, b, hf, ha, hb, rfl, rfl⟩ := h
  have K := C f hf
  refine ⟨turnSt n m bk e, f, cl f a, cl f b, hf, K.cm a ha, K.cm b hb, ?_, ?_⟩
  · rw [turn_add, turn_add, turn_one C hf ha, turn_one C hf hb]
  · rw [turn_add, turn_add, turn_one C hf (B.sm f a b hf ha hb), hS f _ _ hf (K.cm a ha) (K.cm b hb), K.bc a ha, K.bc b hb]
    congr 1
    unfold outU
    by_cases hn : f + 1 < n
    · rw [if_pos hn, if_pos hn, turn_one C hn (B.um f a b hf ha hb), hU f _ _ hn (K.cm a ha) (K.cm b hb), K.bc a ha, K.bc b hb]
    · rw [if_neg hn, if_neg hn, show f + 1 = n by omega]
      exact turn_out
theorem turn_run (B : Tabs n m S U) (C : ∀ g, g < n → Calls m (cl g) (bk g)) (hS : ∀ f a b, f < n → a < m → b < m → S' f a b = cl f (S f (bk f a) (bk f b))) (hU : ∀ f a b, f + 1 < n → a < m → b < m → U' f a b = cl (f + 1) (U f (bk f a) (bk f b)))
    {c d : St} (h : Run n m S (outU n U) c d) : Run n m S' (outU n U') (turnSt n m bk c) (turnSt n m bk d) := by
  induction h with
  | nil => exact .nil _
  | cons s _ ih => exact .cons (turn_step B C hS hU s) ih
theorem turn_tri (B : Tabs n m S U) (T : Tri n m S U) (C : ∀ g, g < n → Calls m (cl g) (bk g)) (hS : ∀ f a b, f < n → a < m → b < m → S' f a b = cl f (S f (bk f a) (bk f b))) (hU : ∀ f a b, f + 1 < n → a < m → b < m → U' f a b = cl (f + 1) (U f (bk f a) (bk f b))) : Tri n m S' U' := by
  intro f x y z hf hx hy hz
  have K := C f hf
  have bx := K.bm x hx
  have by_ := K.bm y hy
  have bz := K.bm z hz
  obtain ⟨t1, t2, t3⟩ := T f _ _ _ hf bx by_ bz
  have sxy := B.sm f _ _ hf bx by_
  have sxz := B.sm f _ _ hf bx bz
  have e1 : S' f x y = cl f (S f (bk f x) (bk f y)) := hS f x y hf hx hy
  have e2 : S' f x z = cl f (S f (bk f x) (bk f z)) := hS f x z hf hx hz
  have b1 : bk f (S' f x y) = S f (bk f x) (bk f y) := by rw [e1, K.bc _ sxy]
  have b2 : bk f (S' f x z) = S f (bk f x) (bk f z) := by rw [e2, K.bc _ sxz]
  have m1 : S' f x y < m := by rw [e1]; exact K.cm _ sxy
  have m2 : S' f x z < m := by rw [e2]; exact K.cm _ sxz
  refine ⟨by rw [hS f _ z hf m1 hz, hS f _ y hf m2 hy, b1, b2, t1], fun h1 => ?_, fun h2 => ?_⟩
  · have K1 := C (f + 1) h1
    have u1 := B.um f _ _ hf bx by_
    have u2 := B.um f _ _ hf sxy bz
    have u3 := B.um f _ _ hf bx bz
    have u4 := B.um f _ _ hf sxz by_
    rw [hU f x y h1 hx hy, hU f _ z h1 m1 hz, hU f x z h1 hx hz, hU f _ y h1 m2 hy, b1, b2, hS (f + 1) _ _ h1 (K1.cm _ u1) (K1.cm _ u2), hS (f + 1) _ _ h1 (K1.cm _ u3) (K1.cm _ u4), K1.bc _ u1, K1.bc _ u2, K1.bc _ u3, K1.bc _ u4, t2 h1]
  · have h1 : f + 1 < n := by omega
    have K1 := C (f + 1) h1
    have u1 := B.um f _ _ hf bx by_
    have u2 := B.um f _ _ hf sxy bz
    have u3 := B.um f _ _ hf bx bz
    have u4 := B.um f _ _ hf sxz by_
    rw [hU f x y h1 hx hy, hU f _ z h1 m1 hz, hU f x z h1 hx hz, hU f _ y h1 m2 hy, b1, b2, hU (f + 1) _ _ h2 (K1.cm _ u1) (K1.cm _ u2), hU (f + 1) _ _ h2 (K1.cm _ u3) (K1.cm _ u4), K1.bc _ u1, K1.bc _ u2, K1.bc _ u3, K1.bc _ u4, t3 h2]
end
end FmC
end FFmLate
section FFmAlone2
/-! What the program's meetings on one floor are, looked at alone. Pure, nothing of the model. -/
namespace FmC
theorem sum_off {m f a g : Nat} (h : ¬ g = f) : sumTo m (one f a g) = 0 := by
  have : one f a g = fun _ => 0 := by
    funext x
    exact one_ne fun z => h z.1
  rw [this, sumTo_zero]
theorem sum_add3 (m : Nat) (c d e : St) (g : Nat) : sumTo m ((c + d + e) g) = sumTo m (c g) + sumTo m (d g) + sumTo m (e g) := by
  show sumTo m (fun x => (fun x => c g x + d g x) x + e g x) = _
  rw [sumTo_add, sumTo_add]
theorem alone_sum {m : Nat} {S U : Nat → Nat → Nat} (sm : ∀ a b, a < m → b < m → S a b < m) (um : ∀ a b, a < m → b < m → U a b < m) {c d : St} (h : Run 1 m (fun _ => S) (fun _ => U) c d) :
    sumTo m (c 0) + sumTo m (c 1) = sumTo m (d 0) + sumTo m (d 1) ∧ sumTo m (c 1) ≤ sumTo m (d 1) ∧ (sumTo m (d 1) ≤ sumTo m (c 1) → d = c) := by
  induction h with
  | nil c => exact ⟨rfl, Nat.le_refl _, fun _ => rfl⟩
  | cons s _ ih =>
    obtain ⟨e, f, a, b, hf, ha, hb, rfl, rfl⟩ := s
    obtain rfl : f = 0 := by omega
    obtain ⟨i1, i2, _⟩ := ih
    rw [sum_add3, sum_add3, sum_one (sm _ _ ha hb), sum_off (by decide), sum_off (by decide), sum_one (um _ _ ha hb)] at i1
    rw [sum_add3, sum_off (by decide), sum_one (um _ _ ha hb)] at i2
    rw [sum_add3, sum_add3, sum_one ha, sum_one hb, sum_off (by decide), sum_off (by decide)]
    exact ⟨by omega, by omega, fun z => by omega⟩
theorem meet_alone {m : Nat} {S U : Nat → Nat → Nat} (sm : ∀ a b, a < m → b < m → S a b < m) (um : ∀ a b, a < m → b < m → U a b < m) {c0 c r : List Int} (h0 : c0.length = m) (n0 : NN c0) (h : Met 2 m (fun _ => S) (fun _ => U) 0 c0 c r) :
    Run 1 m (fun _ => S) (fun _ => U) (pairS (cnt c0) fun _ => 0) (pairS (cnt c) (cnt r)) := by
  obtain ⟨up, I⟩ := came_run h.run
  have i0 := I 0 (by decide)
  have i1 := I 1 (by decide)
  have e1 : came (rowSt 0 c0) up 0 = cnt c0 := by
    funext x
    unfold came rowSt
    rw [if_pos rfl, if_pos rfl]
    rfl
  have e2 : came (rowSt 0 c0) up 1 = up 0 := by
    funext x
    unfold came rowSt
    rw [if_neg (by decide), if_neg (by decide), Nat.zero_add]
  have e3 : (rowSt 0 c + upsSt 2 0 r) 0 = cnt c := by
    funext x
    rw [add_at]
    unfold rowSt upsSt
    rw [if_pos rfl, if_neg (by decide)]
    rfl
  have e4 : (rowSt 0 c + upsSt 2 0 r) 1 = cnt r := by
    funext x
    rw [add_at]
    unfold rowSt upsSt
    rw [if_neg (by decide), if_pos rfl, if_pos (by decide), Nat.zero_add]
  rw [e1, e3] at i0
  rw [e2, e4] at i1
  have s0 := alone_sum sm um i0
  have s1 := alone_sum sm um i1
  have z : sumTo m (pairS (cnt c0) (fun _ => 0) 1) = 0 := sumTo_zero m
  have z' : sumTo m (pairS (up 0) (fun _ => 0) 1) = 0 := sumTo_zero m
  have a0 : sumTo m (cnt c0) + 0 = sumTo m (cnt c) + sumTo m (up 0) := by
    have := s0.1
    rw [z] at this
    exact this
  have a1 : sumTo m (up 0) + 0 = sumTo m (cnt r) + sumTo m (up 1) := by
    have := s1.1
    rw [z'] at this
    exact this
  have q0 := sum_cnt_eq h0 n0
  have q1 := sum_cnt_eq h.cl h.cn
  have q2 := sum_cnt_eq h.rl h.rn
  have q3 := h.sum
  have hz : sumTo m (up 1) = 0 := by omega
  have e := s1.2.2 (by rw [z']; show sumTo m (up 1) ≤ 0; omega)
  have er : cnt r = up 0 := by
    funext x
    exact congrFun (congrFun e 0) x
  rw [er]
  exact i0
end FmC
end FFmAlone2
section FFmAlone3
/-! Who comes where, told by rows; many pushed one after another; how many there are. Pure, nothing of the model. -/
set_option linter.all false
namespace FmC
def rowOf (m : Nat) (g : Nat → Nat) : List Int := (List.range m).map fun k => ((g k : Nat) : Int)
theorem rowOf_len (m : Nat) (g : Nat → Nat) : (rowOf m g).length = m := by unfold rowOf; rw [List.length_map, List.length_range]
theorem rowOf_nn (m : Nat) (g : Nat → Nat) : NN (rowOf m g) := fun x hx => by
  unfold rowOf at hx
  obtain ⟨k, _, rfl⟩ := List.mem_map.mp hx
  omega
theorem rowOf_getD {m : Nat} {g : Nat → Nat} {a : Nat} (h : a < m) : (rowOf m g).getD a 0 = ((g a : Nat) : Int) := by
  unfold rowOf
  rw [List.getD_eq_getElem?_getD, List.getElem?_map, List.getElem?_range h]
  rfl
theorem rowOf_cnt {m : Nat} {g : Nat → Nat} (z : ∀ x, m ≤ x → g x = 0) : cnt (rowOf m g) = g := by
  funext a
  by_cases h : a < m
  · unfold cnt
    rw [rowOf_getD h]
    omega
  · unfold cnt
    rw [List.getD_eq_getElem?_getD, List.getElem?_eq_none (by rw [rowOf_len]; omega), z a (by omega)]
    rfl
theorem cnt_list {c d : List Int} (l : c.length = d.length) (hc : NN c) (hd : NN d) (e : cnt c = cnt d) : c = d := by
  refine List.ext_getElem l fun i h1 h2 => ?_
  have h := congrFun e i
  have q1 := hc.cnt i
  have q2 := hd.cnt i
  rw [List.getD_eq_getElem?_getD, List.getElem?_eq_getElem h1] at q1
  rw [List.getD_eq_getElem?_getD, List.getElem?_eq_getElem h2] at q2
  have q1 : ((cnt c i : Nat) : Int) = c[i] := q1
  have q2 : ((cnt d i : Nat) : Int) = d[i] := q2
  omega
theorem rowOf_self {m : Nat} {c : List Int} (l : c.length = m) (hc : NN c) : rowOf m (cnt c) = c := by
  refine cnt_list (by rw [rowOf_len, l]) (rowOf_nn _ _) hc (rowOf_cnt fun x hx => ?_)
  unfold cnt
  rw [List.getD_eq_getElem?_getD, List.getElem?_eq_none (by omega)]
  rfl
theorem cnt_add {c r : List Int} (l : c.length = r.length) (hc : NN c) (hr : NN r) : cnt (addR c r) = fun x => cnt c x + cnt r x := by
  funext a
  have h := (addR_nn hc hr).cnt a
  rw [addR_get l] at h
  have h1 := hc.cnt a
  have h2 := hr.cnt a
  omega
theorem rowOf_add (m : Nat) (g h : Nat → Nat) : addR (rowOf m g) (rowOf m h) = rowOf m fun x => g x + h x := by
  unfold addR rowOf
  rw [List.zipWith_map, List.zipWith_self]
  refine List.map_congr_left fun k _ => ?_
  show ((g k : Nat) : Int) + ((h k : Nat) : Int) = ((g k + h k : Nat) : Int)
  omega
theorem rowOf_zero (m : Nat) : rowOf m (fun _ => 0) = List.replicate m 0 := by
  refine cnt_list (by rw [rowOf_len, List.length_replicate]) (rowOf_nn _ _) (fun x hx => by rw [(List.mem_replicate.mp hx).2]; exact Int.le_refl _) ?_
  rw [rowOf_cnt fun _ _ => rfl]
  funext a
  unfold cnt
  rw [List.getD_eq_getElem?_getD, List.getElem?_replicate]
  split <;> rfl
/-- who comes where, floor by floor -/
structure ComOf (m n : Nat) (S U : Nat → Nat → Nat → Nat) (rows told : List (List Int)) : Prop where
  len : told.length = n
  ex : ∃ R C : Nat → List Int, R 0 = List.replicate m 0 ∧ ∀ f, f < n → told[f]? = some (addR (rows.getD f []) (R f)) ∧ (C f).length = m ∧ NN (C f) ∧ (C f).sum ≤ 1 ∧ (R (f + 1)).length = m ∧ NN (R (f + 1)) ∧
    RunA m S U f (pairS (cnt (addR (rows.getD f []) (R f))) fun _ => 0) (pairS (cnt (C f)) (cnt (R (f + 1))))
theorem zero_len (m : Nat) : (List.replicate m (0 : Int)).length = m ∧ NN (List.replicate m (0 : Int)) := ⟨List.length_replicate, fun x hx => by rw [(List.mem_replicate.mp hx).2]; exact Int.le_refl _⟩
section
variable {m n : Nat} {S U : Nat → Nat → Nat → Nat} {rows told told' : List (List Int)}
theorem com_one (B : ∀ f, f < n → Tables 1 m (fun _ => S f) (fun _ => U f)) (T : ∀ f, f < n → Three 1 m (fun _ => S f) (fun _ => U f)) (h : ComOf m n S U rows told) (h' : ComOf m n S U rows told') : told = told' := by
  obtain ⟨l, R, C, r0, a⟩ := h
  obtain ⟨l', R', C', r0', a'⟩ := h'
  have key : ∀ f, f ≤ n → R f = R' f := fun f => by
    induction f with
    | zero => exact fun _ => r0.trans r0'.symm
    | succ f ih =>
      intro hf
      have e := ih (by omega)
      obtain ⟨_, b2, b3, b4, b5, b6, b7⟩ := a f (by omega)
      obtain ⟨_, c2, c3, c4, c5, c6, c7⟩ := a' f (by omega)
      rw [← e] at c7
      have q := one_end (B f (by omega)) (T f (by omega)) b7 c7 (still_of fun g hg => by
        obtain rfl : g = 0 := by omega
        have := sum_cnt_eq b2 b3
        show sumTo m (cnt (C f)) ≤ 1
        omega) (still_of fun g hg => by
        obtain rfl : g = 0 := by omega
        have := sum_cnt_eq c2 c3
        show sumTo m (cnt (C' f)) ≤ 1
        omega)
      exact cnt_list (by rw [b5, c5]) b6 c6 (congrFun q 1)
  refine List.ext_getElem? fun f => ?_
  by_cases hf : f < n
  · rw [(a f hf).1, (a' f hf).1, key f (by omega)]
  · rw [List.getElem?_eq_none (by omega), List.getElem?_eq_none (by omega)]
theorem alone_big {S U : Nat → Nat → Nat} (sm : ∀ a b, a < m → b < m → S a b < m) (um : ∀ a b, a < m → b < m → U a b < m) {c d : St} (h : Run 1 m (fun _ => S) (fun _ => U) c d) : ∀ g x, m ≤ x → d g x = c g x := by
  induction h with
  | nil c => exact fun _ _ _ => rfl
  | cons s _ ih =>
    obtain ⟨e, f, a, b, hf, ha, hb, rfl, rfl⟩ := s
    intro g x hx
    rw [ih g x hx]
    have := sm a b ha hb
    have := um a b ha hb
    simp only [add_at]
    rw [one_ne (by omega), one_ne (by omega), one_ne (by omega), one_ne (by omega)]
theorem com_of_inv (sm : ∀ f a b, f < n → a < m → b < m → S f a b < m) (um : ∀ f a b, f < n → a < m → b < m → U f a b < m) {c0 c : St} {up : Nat → Nat → Nat} (h0 : ∀ f, f < n → ∀ x, m ≤ x → c0 f x = 0) (I : InvA n m S U c0 up c) (s : ∀ f, f < n → sumTo m (c f) ≤ 1)
    (hr : ∀ f, f < n → rows.getD f [] = rowOf m (c0 f)) (hl : told.length = n) (ht : ∀ f, f < n → told[f]? = some (rowOf m (came c0 up f))) : ComOf m n S U rows told := by
  have big : ∀ f, f < n → (∀ x, m ≤ x → came c0 up f x = 0) ∧ (∀ x, m ≤ x → c f x = 0) ∧ ∀ x, m ≤ x → up f x = 0 := fun f => by
    induction f with
    | zero =>
      intro hf
      have hc : ∀ x, m ≤ x → came c0 up 0 x = 0 := fun x hx => by
        unfold came
        rw [if_pos rfl, h0 0 hf x hx]
      have q := alone_big (fun a b => sm 0 a b hf) (fun a b => um 0 a b hf) (I 0 hf)
      exact ⟨hc, fun x hx => (q 0 x hx).trans (hc x hx), fun x hx => q 1 x hx⟩
    | succ f ih =>
      intro hf
      have hc : ∀ x, m ≤ x → came c0 up (f + 1) x = 0 := fun x hx => by
        unfold came
        rw [if_neg (by omega), h0 (f + 1) hf x hx]
        exact (Nat.zero_add _).trans ((ih (by omega)).2.2 x hx)
      have q := alone_big (fun a b => sm (f + 1) a b hf) (fun a b => um (f + 1) a b hf) (I (f + 1) hf)
      exact ⟨hc, fun x hx => (q 0 x hx).trans (hc x hx), fun x hx => q 1 x hx⟩
  have eR : ∀ f, f < n → addR (rows.getD f []) (if f = 0 then List.replicate m 0 else rowOf m (up (f - 1))) = rowOf m (came c0 up f) := fun f hf => by
    rw [hr f hf]
    by_cases z : f = 0
    · rw [if_pos z, ← rowOf_zero, rowOf_add]
      congr 1
      funext x
      unfold came
      rw [if_pos z]
    · rw [if_neg z, rowOf_add]
      congr 1
      funext x
      unfold came
      rw [if_neg z]
  refine ⟨hl, fun f => if f = 0 then List.replicate m 0 else rowOf m (up (f - 1)), fun f => rowOf m (c f), if_pos rfl, fun f hf => ?_⟩
  obtain ⟨b1, b2, b3⟩ := big f hf
  dsimp only
  rw [eR f hf, if_neg (by omega), Nat.add_sub_cancel]
  refine ⟨ht f hf, rowOf_len _ _, rowOf_nn _ _, ?_, rowOf_len _ _, rowOf_nn _ _, ?_⟩
  · have q := sum_cnt_eq (rowOf_len m (c f)) (rowOf_nn m (c f))
    rw [rowOf_cnt b2] at q
    have := s f hf
    omega
  · rw [rowOf_cnt b1, rowOf_cnt b2, rowOf_cnt b3]
    exact I f hf
end
/-! ### how many -/
theorem alone_pos {m : Nat} {S U : Nat → Nat → Nat} (sm : ∀ a b, a < m → b < m → S a b < m) {c d : St} (h : Run 1 m (fun _ => S) (fun _ => U) c d) : 1 ≤ sumTo m (c 0) → 1 ≤ sumTo m (d 0) := by
  induction h with
  | nil c => exact id
  | cons s _ ih =>
    obtain ⟨e, f, a, b, hf, ha, hb, rfl, rfl⟩ := s
    obtain rfl : f = 0 := by omega
    intro _
    refine ih ?_
    rw [sum_add3, sum_one (sm a b ha hb)]
    omega
theorem alone_sums {m : Nat} {S U : Nat → Nat → Nat} (sm : ∀ a b, a < m → b < m → S a b < m) (um : ∀ a b, a < m → b < m → U a b < m) {k r u : Nat → Nat} (h : Run 1 m (fun _ => S) (fun _ => U) (pairS k fun _ => 0) (pairS r u)) (h1 : sumTo m r ≤ 1) : sumTo m u = sumTo m k - 1 ∧ sumTo m k = sumTo m r + sumTo m u := by
  have a : sumTo m k + sumTo m (fun _ => 0) = sumTo m r + sumTo m u := (alone_sum sm um h).1
  have b : 1 ≤ sumTo m k → 1 ≤ sumTo m r := alone_pos sm h
  rw [sumTo_zero] at a
  omega
def aheadF (told : List (List Int)) (i : Nat) : Int := if i = 0 then 0 else (told.getD (i - 1) []).sum
section
variable {m n : Nat} {S U : Nat → Nat → Nat → Nat} {rows told : List (List Int)}
theorem com_facts (sm : ∀ f a b, f < n → a < m → b < m → S f a b < m) (um : ∀ f a b, f < n → a < m → b < m → U f a b < m) (hl : rows.length = n) (hk : ∀ r ∈ rows, r.length = m ∧ NN r) (h : ComOf m n S U rows told) :
    (∀ f, f < n → ∃ t r, told[f]? = some t ∧ rows[f]? = some r ∧ t.length = m ∧ NN t ∧ t.sum = r.sum + max 0 (aheadF told f - 1) ∧ (∀ a, a < m → r.getD a 0 ≤ t.getD a 0)) := by
  obtain ⟨l, R, C, r0, a⟩ := h
  have key : ∀ f, f ≤ n → (R f).length = m ∧ NN (R f) ∧ (R f).sum = max 0 (aheadF told f - 1) := fun f => by
    induction f with
    | zero =>
      intro _
      rw [r0]
      refine ⟨(zero_len m).1, (zero_len m).2, ?_⟩
      have := sum_cnt_eq (zero_len m).1 (zero_len m).2
      have e : cnt (List.replicate m (0 : Int)) = fun _ => 0 := by rw [← rowOf_zero]; exact rowOf_cnt fun _ _ => rfl
      rw [e, sumTo_zero] at this
      rw [← this]
      rfl
    | succ f ih =>
      intro hf
      obtain ⟨i1, i2, _⟩ := ih (by omega)
      obtain ⟨b1, b2, b3, b4, b5, b6, b7⟩ := a f (by omega)
      refine ⟨b5, b6, ?_⟩
      have hri : rows[f]? = some (rows[f]'(by omega)) := List.getElem?_eq_getElem (by omega)
      have hgd : rows.getD f [] = rows[f]'(by omega) := by rw [List.getD_eq_getElem?_getD, hri]; rfl
      obtain ⟨c1, c2⟩ := hk _ (List.getElem_mem (by omega : f < rows.length))
      rw [← hgd] at c1 c2
      have q1 := sum_cnt_eq b2 b3
      have q2 := sum_cnt_eq b5 b6
      have q3 := sum_cnt_eq (addR_len c1 i1) (addR_nn c2 i2)
      have q := alone_sums (fun a b => sm f a b (by omega)) (fun a b => um f a b (by omega)) b7 (by omega)
      have e : aheadF told (f + 1) = (addR (rows.getD f []) (R f)).sum := by
        unfold aheadF
        rw [if_neg (by omega), Nat.add_sub_cancel, List.getD_eq_getElem?_getD, b1]
        rfl
      rw [e]
      omega
  intro f hf
  obtain ⟨i1, i2, i3⟩ := key f (by omega)
  have hri : rows[f]? = some (rows[f]'(by omega)) := List.getElem?_eq_getElem (by omega)
  have hgd : rows.getD f [] = rows[f]'(by omega) := by rw [List.getD_eq_getElem?_getD, hri]; rfl
  obtain ⟨c1, c2⟩ := hk _ (List.getElem_mem (by omega : f < rows.length))
  have b1 := (a f hf).1
  rw [hgd] at b1
  refine ⟨_, _, b1, hri, addR_len c1 i1, addR_nn c2 i2, ?_, fun x _ => ?_⟩
  · rw [addR_sum (by rw [c1, i1]), i3]
  · rw [addR_get (by rw [c1, i1])]
    have := i2.get x
    omega
theorem sumTo_succ' (k : Nat) (g : Nat → Nat) : sumTo (k + 1) g = sumTo k g + g k := by
  have h : ∀ (k : Nat) (g : Nat → Nat), sumTo (k + 1) g = sumTo k g + g k := fun k => by
    induction k with
    | zero => intro g; rw [sumTo_shift]; show g 0 + 0 = 0 + g 0; omega
    | succ k ih => intro g; rw [sumTo_shift, ih, sumTo_shift k g]; omega
  exact h k g
theorem tele {a s r : Nat → Nat} (h0 : r 0 = 0) (n : Nat) (h : ∀ f, f < n → a f + r f = s f + r (f + 1)) : sumTo n a = sumTo n s + r n := by
  have : ∀ k, k ≤ n → sumTo k a = sumTo k s + r k := fun k => by
    induction k with
    | zero => intro _; rw [h0]; rfl
    | succ k ih =>
      intro hk
      have q := h k (by omega)
      rw [sumTo_succ', sumTo_succ', ih (by omega)]
      omega
  exact this n (Nat.le_refl _)
theorem com_out (B : Tabs n m S U) (hl : rows.length = n) (hk : ∀ r ∈ rows, r.length = m ∧ NN r) (h : ComOf m n S U rows told) {rows' : List (List Int)} {out out' : Int} (ho : 0 ≤ out) (ho' : 0 ≤ out') (hl' : rows'.length = n) (hk' : ∀ r ∈ rows', r.length = m ∧ NN r ∧ r.sum ≤ 1)
    (run : Run n m S (outU n U) (stSt n rows out) (stSt n rows' out')) : out' = max 0 (aheadF told n - 1) + out := by
  have F := com_facts B.sm B.um hl hk h
  obtain ⟨up, I⟩ := came_run run
  have hgd : ∀ {l : List (List Int)} {f : Nat} (hf : f < l.length), l.getD f [] = l[f] := fun {l f} hf => by rw [List.getD_eq_getElem?_getD, List.getElem?_eq_getElem hf]; rfl
  have e0 : ∀ (l : List (List Int)) (o : Int) f, f < n → stSt n l o f = cnt (l.getD f []) := fun l o f hf => by
    funext x
    unfold stSt
    rw [if_pos hf]
  -- how many rest and go up, floor by floor
  let u : Nat → Nat := fun f => if f = 0 then 0 else sumTo m (up (f - 1))
  have st : ∀ f, f < n → sumTo m (cnt (rows.getD f [])) + u f = sumTo m (cnt (rows'.getD f [])) + u (f + 1) ∧ u (f + 1) = sumTo m (cnt (rows.getD f [])) + u f - 1 := fun f hf => by
    have i := I f hf
    rw [e0 rows' out' f hf] at i
    have hr' := hk' _ (List.getElem_mem (by omega : f < rows'.length))
    rw [← hgd (by omega : f < rows'.length)] at hr'
    have q1 := sum_cnt_eq hr'.1 hr'.2.1
    have q := alone_sums (fun a b => B.sm f a b hf) (fun a b => B.um f a b hf) i (by omega)
    have ec : sumTo m (came (stSt n rows out) up f) = sumTo m (cnt (rows.getD f [])) + u f := by
      have : came (stSt n rows out) up f = fun x => cnt (rows.getD f []) x + if f = 0 then 0 else up (f - 1) x := by
        funext x
        unfold came
        rw [e0 rows out f hf]
      rw [this, sumTo_add]
      by_cases z : f = 0
      · subst z
        show _ + sumTo m (fun _ => 0) = _ + 0
        rw [sumTo_zero]
      · have e : u f = sumTo m (up (f - 1)) := if_neg z
        rw [e]
        congr 1
        exact congrArg (sumTo m) (funext fun x => if_neg z)
    have eu : u (f + 1) = sumTo m (up f) := rfl
    omega
  have hh := heads_run B run
  have h1 := heads_st (m := m) hl hk ho
  have h2 := heads_st (m := m) hl' (fun r hr => ⟨(hk' r hr).1, (hk' r hr).2.1⟩) ho'
  have r1 := rows_sum (m := m) hl hk
  have r2 := rows_sum (m := m) hl' (fun r hr => ⟨(hk' r hr).1, (hk' r hr).2.1⟩)
  have t := tele (a := fun f => sumTo m (cnt (rows.getD f []))) (s := fun f => sumTo m (cnt (rows'.getD f []))) (r := u) rfl n fun f hf => (st f hf).1
  have key : ∀ f, f ≤ n → ((u f : Nat) : Int) = max 0 (aheadF told f - 1) := fun f => by
    induction f with
    | zero => exact fun _ => rfl
    | succ f ih =>
      intro hf
      have i := ih (by omega)
      obtain ⟨tf, r, q1, q2, _, _, q5, _⟩ := F f (by omega)
      have q := (st f (by omega)).2
      have hr := hk _ (List.mem_of_getElem? q2)
      have e : rows.getD f [] = r := by rw [List.getD_eq_getElem?_getD, q2]; rfl
      rw [e] at q
      have s1 := sum_cnt_eq hr.1 hr.2
      have ea : aheadF told (f + 1) = tf.sum := by
        unfold aheadF
        rw [if_neg (by omega), Nat.add_sub_cancel, List.getD_eq_getElem?_getD, q1]
        rfl
      rw [ea]
      omega
  have := key n (Nat.le_refl _)
  omega
end
/-! ### one after another -/
def d1 (a : Nat) : Nat → Nat := fun x => if x = a then 1 else 0
def pushS (h i j : Nat) : Nat → Nat := fun x => (if x = h then 1 else 0) + j * if x = i then 1 else 0
def Pushed (m : Nat) (S U : Nat → Nat → Nat) (h i j h' : Nat) (g : Nat → Nat) : Prop := h' < m ∧ Run 1 m (fun _ => S) (fun _ => U) (pairS (pushS h i j) fun _ => 0) (pairS (d1 h') g)
section
variable {m : Nat} {S U : Nat → Nat → Nat}
theorem push_none (h i : Nat) : pushS h i 0 = d1 h := by
  funext x
  unfold pushS d1
  omega
theorem pair_add (a b c d : Nat → Nat) : pairS a b + pairS c d = pairS (fun x => a x + c x) fun x => b x + d x := by
  funext g x
  simp only [add_at, pairS]
  split
  · rfl
  · split <;> rfl
theorem Pushed.zero {h : Nat} (i : Nat) (hh : h < m) : Pushed m S U h i 0 h fun _ => 0 := ⟨hh, by rw [push_none]; exact .nil _⟩
theorem Pushed.comp {h i j k h' h'' : Nat} {g g' : Nat → Nat} (p : Pushed m S U h i j h' g) (q : Pushed m S U h' i k h'' g') : Pushed m S U h i (j + k) h'' fun x => g x + g' x := by
  refine ⟨q.1, ?_⟩
  have a := Run.beside p.2 (pairS (fun x => k * if x = i then 1 else 0) fun _ => 0)
  have b := Run.beside q.2 (pairS (fun _ => 0) g)
  rw [pair_add, pair_add] at a b
  have e1 : (pairS (fun x => (k * if x = i then 1 else 0) + pushS h i j x) fun x => 0 + 0) = pairS (pushS h i (j + k)) fun _ => 0 := by
    congr 1
    funext x
    unfold pushS
    rw [Nat.add_mul]
    omega
  have e2 : (pairS (fun x => (k * if x = i then 1 else 0) + d1 h' x) fun x => 0 + g x) = pairS (fun x => 0 + pushS h' i k x) fun x => g x + 0 := by
    congr 1
    · funext x
      unfold pushS d1
      omega
    · funext x
      omega
  have e3 : (pairS (fun x => 0 + d1 h'' x) fun x => g x + g' x) = pairS (d1 h'') fun x => g x + g' x := by
    congr 1
    funext x
    omega
  rw [e1, e2] at a
  rw [e3] at b
  exact a.trans b
theorem Pushed.one {h i : Nat} (sm : S h i < m) (hh : h < m) (hi : i < m) : Pushed m S U h i 1 (S h i) (d1 (U h i)) := by
  refine ⟨sm, .one ⟨fun _ _ => 0, 0, h, i, by omega, hh, hi, ?_, ?_⟩⟩
  · funext g x
    simp only [add_at, one_at, pairS, pushS]
    by_cases z : g = 0
    · simp [z]
    · by_cases z1 : g = 1 <;> simp [z, z1]
  · funext g x
    simp only [add_at, one_at, pairS, d1]
    by_cases z : g = 0
    · simp [z]
    · by_cases z1 : g = 1 <;> simp [z, z1]
/-- one row, number by number -/
def optC (o : Option Nat) : Nat → Nat := fun x => if o = some x then 1 else 0
theorem optC_some (h : Nat) : optC (some h) = d1 h := by
  funext x
  unfold optC d1
  by_cases z : x = h
  · rw [if_pos z, if_pos (by rw [z])]
  · rw [if_neg z, if_neg (fun q => z (by cases q; rfl))]
theorem optC_none : optC none = fun _ => 0 := by
  funext x
  exact if_neg fun z => by cases z
def FoldI (m : Nat) (S U : Nat → Nat → Nat) (c : List Int) (i : Nat) (k g : Nat → Nat) : Prop := Run 1 m (fun _ => S) (fun _ => U) (pairS (cnt (c.take i)) fun _ => 0) (pairS k g)
theorem FoldI.nil (c : List Int) : FoldI m S U c 0 (fun _ => 0) fun _ => 0 := by
  have e : cnt (c.take 0) = fun _ => 0 := by
    funext x
    rfl
  unfold FoldI
  rw [e]
  exact .nil _
theorem cnt_take {c : List Int} (hc : NN c) {i : Nat} {x : Int} (hx : c[i]? = some x) : cnt (c.take (i + 1)) = fun a => cnt (c.take i) a + x.toNat * if a = i then 1 else 0 := by
  funext a
  have hi : i < c.length := (List.getElem?_eq_some_iff.mp hx).1
  unfold cnt
  rw [List.getD_eq_getElem?_getD, List.getD_eq_getElem?_getD, List.getElem?_take, List.getElem?_take]
  by_cases z : a = i
  · subst z
    rw [if_pos (by omega), if_neg (by omega), if_pos rfl, hx]
    show x.toNat = (0 : Int).toNat + x.toNat * 1
    omega
  · by_cases y : a < i
    · rw [if_pos (by omega), if_pos y, if_neg z]
      omega
    · rw [if_neg (by omega), if_neg y, if_neg z]
      omega
theorem FoldI.on {c : List Int} (hc : NN c) {i : Nat} {k g : Nat → Nat} {x : Int} (hx : c[i]? = some x) (F : FoldI m S U c i k g) : FoldI m S U c (i + 1) (fun a => k a + x.toNat * if a = i then 1 else 0) g := by
  have b := Run.beside F (pairS (fun a => x.toNat * if a = i then 1 else 0) fun _ => 0)
  rw [pair_add, pair_add] at b
  unfold FoldI
  rw [cnt_take hc hx]
  have e1 : (pairS (fun a => (x.toNat * if a = i then 1 else 0) + cnt (c.take i) a) fun a => 0 + 0) = pairS (fun a => cnt (c.take i) a + x.toNat * if a = i then 1 else 0) fun _ => 0 := by
    congr 1
    funext a
    omega
  have e2 : (pairS (fun a => (x.toNat * if a = i then 1 else 0) + k a) fun a => 0 + g a) = pairS (fun a => k a + x.toNat * if a = i then 1 else 0) g := by
    congr 1
    · funext a
      omega
    · funext a
      omega
  rw [e1, e2] at b
  exact b
theorem FoldI.one {c : List Int} (hc : NN c) {i h : Nat} {g : Nat → Nat} {x : Int} (hx : c[i]? = some x) (F : FoldI m S U c i (d1 h) g) : FoldI m S U c (i + 1) (pushS h i x.toNat) g := F.on hc hx
theorem FoldI.first {c : List Int} (hc : NN c) {i : Nat} {g : Nat → Nat} {x : Int} (hx : c[i]? = some x) (h1 : 1 ≤ x) (F : FoldI m S U c i (fun _ => 0) g) : FoldI m S U c (i + 1) (pushS i i (x - 1).toNat) g := by
  have h := F.on hc hx
  have e : (fun a => (0 : Nat) + x.toNat * if a = i then 1 else 0) = pushS i i (x - 1).toNat := by
    funext a
    unfold pushS
    by_cases z : a = i
    · rw [if_pos z]
      omega
    · rw [if_neg z]
      omega
  rw [e] at h
  exact h
theorem FoldI.zero {c : List Int} (hc : NN c) {i : Nat} {k g : Nat → Nat} (hx : c[i]? = some 0) (F : FoldI m S U c i k g) : FoldI m S U c (i + 1) k g := by
  have h := F.on hc hx
  have e : (fun a => k a + (0 : Int).toNat * if a = i then 1 else 0) = k := by
    funext a
    show k a + 0 * _ = k a
    omega
  rw [e] at h
  exact h
theorem FoldI.push {c : List Int} {i h j h' : Nat} {g g' : Nat → Nat} (F : FoldI m S U c (i + 1) (pushS h i j) g) (P : Pushed m S U h i j h' g') : FoldI m S U c (i + 1) (d1 h') fun x => g x + g' x := by
  have b := Run.beside P.2 (pairS (fun _ => 0) g)
  rw [pair_add, pair_add] at b
  have e1 : (pairS (fun x => 0 + pushS h i j x) fun x => g x + 0) = pairS (pushS h i j) g := by
    congr 1
    funext x
    omega
  have e2 : (pairS (fun x => 0 + d1 h' x) fun x => g x + g' x) = pairS (d1 h') fun x => g x + g' x := by
    congr 1
    funext x
    omega
  rw [e1, e2] at b
  exact Run.trans F b
end
end FmC
end FFmAlone3
section FFmAlone4
/-! Heaps of who came, told one by one. Pure, nothing of the model. -/
set_option linter.all false
namespace FmC
theorem inv_at {n m : Nat} {S U : Nat → Nat → Nat → Nat} {c0 e : St} {up : Nat → Nat → Nat} {f a b : Nat} (hf : f < n) (ha : a < m) (hb : b < m) (I : InvA n m S U c0 up (e + one f a + one f b)) :
    InvA n m S U c0 (fun g x => up g x + if g = f ∧ x = U f a b then 1 else 0) (e + one f (S f a b) + one (f + 1) (outU n U f a b)) := fun g hg => by
  have hI := I g hg
  by_cases h1 : g = f
  · subst h1
    have ec : came c0 (fun g' x => up g' x + if g' = g ∧ x = U g a b then 1 else 0) g = came c0 up g := by
      funext x
      unfold came
      by_cases z : g = 0
      · rw [if_pos z, if_pos z]
      · rw [if_neg z, if_neg z]
        show c0 g x + (up (g - 1) x + if g - 1 = g ∧ x = U g a b then 1 else 0) = _
        rw [if_neg (by omega)]
        rfl
    rw [ec]
    refine Run.trans hI (.one ⟨pairS (e g) (up g), 0, a, b, by omega, ha, hb, ?_, ?_⟩)
    · funext p x
      simp only [add_at, one_at, pairS]
      by_cases p0 : p = 0
      · simp [p0]
      · by_cases p1 : p = 1 <;> simp [p0, p1]
    · funext p x
      simp only [add_at, one_at, pairS]
      by_cases p0 : p = 0
      · simp [p0]
      · by_cases p1 : p = 1 <;> simp [p0, p1]
  · by_cases h2 : g = f + 1
    · subst h2
      have eo : outU n U f a b = U f a b := by unfold outU; rw [if_pos hg]
      have hb2 := Run.beside hI (one 0 (U f a b))
      have e1 : one 0 (U f a b) + pairS (came c0 up (f + 1)) (fun _ => 0) = pairS (came c0 (fun g' x => up g' x + if g' = f ∧ x = U f a b then 1 else 0) (f + 1)) (fun _ => 0) := by
        funext p x
        simp only [add_at, one_at, pairS, came]
        by_cases p0 : p = 0
        · simp [p0]
          omega
        · by_cases p1 : p = 1 <;> simp [p0, p1]
      have e2 : one 0 (U f a b) + pairS ((e + one f a + one f b) (f + 1)) (up (f + 1)) = pairS ((e + one f (S f a b) + one (f + 1) (outU n U f a b)) (f + 1)) (fun x => up (f + 1) x + if f + 1 = f ∧ x = U f a b then 1 else 0) := by
        rw [eo]
        funext p x
        simp only [add_at, one_at, pairS]
        by_cases p0 : p = 0
        · simp [p0]
          omega
        · by_cases p1 : p = 1 <;> simp [p0, p1]
      rw [e1, e2] at hb2
      exact hb2
    · have ec : came c0 (fun g' x => up g' x + if g' = f ∧ x = U f a b then 1 else 0) g = came c0 up g := by
        funext x
        unfold came
        by_cases z : g = 0
        · rw [if_pos z, if_pos z]
        · rw [if_neg z, if_neg z]
          show c0 g x + (up (g - 1) x + if g - 1 = f ∧ x = U f a b then 1 else 0) = _
          rw [if_neg (by omega)]
          rfl
      have e1 : (e + one f (S f a b) + one (f + 1) (outU n U f a b)) g = (e + one f a + one f b) g := by
        funext x
        simp only [add_at, one_at, if_neg h1, if_neg h2]
      have e2 : (fun x => up g x + if g = f ∧ x = U f a b then 1 else 0) = up g := by
        funext x
        rw [if_neg (fun z => h1 z.1)]
        rfl
      show RunA m S U g (pairS (came c0 _ g) _) (pairS _ (fun x => up g x + if g = f ∧ x = U f a b then 1 else 0))
      rw [ec, e1, e2]
      exact hI
theorem hs_parts {n m : Nat} {S U : Nat → Nat → Nat → Nat} {hs : List (List Nat)} {out f a b : Nat} {h u rest : List Nat} (hf : f < n) (hl : hs.length = n + 1) (hh : hs[f]? = some h) (hu : hs[f + 1]? = some u) (hp : h.Perm (a :: b :: rest)) (ha : a < m) (hb : b < m) :
    ∃ e : St, hsSt n hs out = e + one f a + one f b ∧ hsSt n ((hs.set f (rest ++ [S f a b])).set (f + 1) (u ++ [U f a b])) out = e + one f (S f a b) + one (f + 1) (outU n U f a b) := by
  have eh : hs.getD f [] = h := by rw [List.getD_eq_getElem?_getD, hh]; rfl
  have eu : hs.getD (f + 1) [] = u := by rw [List.getD_eq_getElem?_getD, hu]; rfl
  refine ⟨fun g x => if g = f then rest.count x else hsSt n hs out g x, ?_, ?_⟩
  · funext g x
    simp only [add_at, one_at]
    by_cases hg : g = f
    · subst hg
      rw [if_pos rfl, if_pos rfl, if_pos rfl]
      unfold hsSt
      rw [if_pos hf, eh, hp.count_eq, count_one, count_one]
      omega
    · rw [if_neg hg, if_neg hg, if_neg hg]
      omega
  · funext g x
    simp only [add_at, one_at]
    by_cases hg : g = f
    · subst hg
      rw [if_pos rfl, if_pos rfl, if_neg (by omega : ¬ g = g + 1)]
      unfold hsSt
      rw [if_pos hf, getD_set_ne _ _ _ _ _ (by omega), getD_set_same _ _ _ _ (by omega), count_snoc]
      omega
    · rw [if_neg hg, if_neg hg]
      by_cases h1 : g = f + 1
      · subst h1
        rw [if_pos rfl]
        unfold hsSt outU
        by_cases hn : f + 1 < n
        · rw [if_pos hn, if_pos hn, if_pos hn, getD_set_same _ _ _ _ (by rw [List.length_set]; omega), eu, count_snoc]
          omega
        · have en : f + 1 = n := by omega
          rw [if_neg hn, if_neg hn, if_neg hn, ← en, getD_set_same _ _ _ _ (by rw [List.length_set]; omega), eu, List.length_append]
          by_cases z : x = 0
          · rw [if_pos ⟨rfl, z⟩, if_pos ⟨rfl, z⟩, if_pos z]
            show out + (u.length + 1) = _
            omega
          · rw [if_neg (fun q => z q.2), if_neg (fun q => z q.2), if_neg z]
      · rw [if_neg h1]
        unfold hsSt
        by_cases hn : g < n
        · rw [if_pos hn, if_pos hn, getD_set_ne _ _ _ _ _ (Ne.symm h1), getD_set_ne _ _ _ _ _ (Ne.symm hg)]
          omega
        · rw [if_neg hn, if_neg hn]
          by_cases e : g = n
          · subst e
            rw [getD_set_ne _ _ _ _ _ (Ne.symm h1), getD_set_ne _ _ _ _ _ (Ne.symm hg)]
            omega
          · rw [if_neg (fun q => e q.1), if_neg (fun q => e q.1)]
/-- who came, as heaps -/
def CameI (n m : Nat) (S U : Nat → Nat → Nat → Nat) (hs00 hs cs : List (List Nat)) (out : Nat) : Prop := ∃ up, InvA n m S U (hsSt n hs00 out) up (hsSt n hs out) ∧ ∀ f, f < n → ∀ x, (cs.getD f []).count x = came (hsSt n hs00 out) up f x
theorem CameI.nil {n m : Nat} {S U : Nat → Nat → Nat → Nat} (hs : List (List Nat)) (out : Nat) : CameI n m S U hs hs hs out := ⟨fun _ _ => 0, inv_nil _, fun f hf x => by
  have e : hsSt n hs out f x = (hs.getD f []).count x := by
    unfold hsSt
    rw [if_pos hf]
  unfold came
  rw [e]
  split <;> rfl⟩
theorem CameI.step {n m : Nat} {S U : Nat → Nat → Nat → Nat} {hs00 hs cs : List (List Nat)} {out f a b : Nat} {h u v rest : List Nat} (hf : f < n) (hl : hs.length = n + 1) (hh : hs[f]? = some h) (hu : hs[f + 1]? = some u) (hp : h.Perm (a :: b :: rest)) (ha : a < m) (hb : b < m)
    (hv : cs[f + 1]? = some v) (I : CameI n m S U hs00 hs cs out) : CameI n m S U hs00 ((hs.set f (rest ++ [S f a b])).set (f + 1) (u ++ [U f a b])) (cs.set (f + 1) (v ++ [U f a b])) out := by
  obtain ⟨up, I, hc⟩ := I
  obtain ⟨e, e1, e2⟩ := hs_parts (out := out) (S := S) (U := U) hf hl hh hu hp ha hb
  rw [e1] at I
  refine ⟨_, by rw [e2]; exact inv_at hf ha hb I, fun g hg x => ?_⟩
  have q := hc g hg x
  by_cases z : g = f + 1
  · subst z
    have ev : cs.getD (f + 1) [] = v := by rw [List.getD_eq_getElem?_getD, hv]; rfl
    rw [ev] at q
    rw [getD_set_same _ _ _ _ (List.getElem?_eq_some_iff.mp hv).1, count_snoc, q]
    have nz : ¬ f + 1 = 0 := by omega
    unfold came
    rw [if_neg nz, if_neg nz, Nat.add_sub_cancel]
    dsimp only
    by_cases y : x = U f a b
    · rw [if_pos y, if_pos ⟨rfl, y⟩]
      omega
    · rw [if_neg y, if_neg (fun z => y z.2)]
      omega
  · rw [getD_set_ne _ _ _ _ _ (Ne.symm z), q]
    unfold came
    by_cases y : g = 0
    · rw [if_pos y, if_pos y]
    · rw [if_neg y, if_neg y]
      dsimp only
      rw [if_neg (fun z => by omega)]
      rfl
/-- at rest: who came where -/
theorem CameI.com {n m : Nat} {S U : Nat → Nat → Nat → Nat} {hs00 hs cs : List (List Nat)} {out : Nat} {rows told : List (List Int)} (sm : ∀ f a b, f < n → a < m → b < m → S f a b < m) (um : ∀ f a b, f < n → a < m → b < m → U f a b < m) (h0 : ∀ f, f < n → ∀ x ∈ hs00.getD f [], x < m) (I : CameI n m S U hs00 hs cs out) (s : ∀ f, f < n → (hs.getD f []).length ≤ 1)
    (hr : ∀ f, f < n → rows.getD f [] = rowOf m fun x => (hs00.getD f []).count x) (hl : told.length = n) (ht : ∀ f, f < n → told[f]? = some (rowOf m fun x => (cs.getD f []).count x)) : ComOf m n S U rows told := by
  obtain ⟨up, I, hc⟩ := I
  have e0 : ∀ (l : List (List Nat)) f, f < n → hsSt n l out f = fun x => (l.getD f []).count x := fun l f hf => by
    funext x
    unfold hsSt
    rw [if_pos hf]
  refine com_of_inv sm um (fun f hf x hx => ?_) I (fun f hf => ?_) (fun f hf => ?_) hl fun f hf => ?_
  · rw [e0 _ _ hf]
    exact List.count_eq_zero.mpr fun z => Nat.not_lt.mpr hx (h0 f hf x z)
  · rw [e0 _ _ hf]
    exact Nat.le_trans (sum_count m _) (s f hf)
  · rw [e0 _ _ hf]
    exact hr f hf
  · rw [ht f hf]
    congr 2
    funext x
    exact hc f hf x
end FmC
end FFmAlone4
section FALU
set_option Elab.async false
set_option linter.all false
set_option maxRecDepth 100000
set_option maxHeartbeats 4000000
local macro_rules | `(tactic| walk_at "ne") => `(tactic| first | assumption | (apply Ne.symm; assumption) | exact L2.ne_of_none (by assumption) (by assumption) | exact Ne.symm (L2.ne_of_none (by assumption) (by assumption)))
local macro_rules | `(tactic| walk_at "hl") => `(tactic| first | assumption | exact L2.upd_same | (refine Eq.trans (L2.upd_ne (by walk_at "ne")) ?_; walk_at "hl"))
local macro_rules | `(tactic| walk_at "sd") => `(tactic| first | (with_reducible show (_ : Int) < _; omega) | (with_reducible show (_ : Int) ≤ _; omega) | assumption | decide | exact ⟨by assumption, by assumption⟩ | exact ⟨by decide, by decide⟩ | exact Or.inr ⟨by decide, by decide⟩ | exact Or.inl ⟨by omega, by omega⟩ | rfl)
local macro_rules | `(tactic| walk_at "st1") => `(tactic| first
  | refine ⟨_, rfl, ?_⟩
  | refine ⟨_, _, rfl, rfl, ?_⟩
  | refine ⟨_, _, rfl, ?_⟩
  | (refine ⟨_, _, _, _, rfl, rfl, L2.SqL.of (by walk_at "hl"), rfl, ?_⟩)
  | (refine ⟨_, _, _, _, rfl, rfl, L2.SqT.of (by walk_at "hl"), rfl, ?_⟩)
  | (refine ⟨_, _, _, _, rfl, rfl, (by walk_at "hl"), rfl, ?_⟩)
  | (refine And.intro (by walk_at "sd") ?_)
  )
local macro_rules | `(tactic| walk_at "st") => `(tactic| repeat walk_at "st1")
local macro_rules | `(tactic| walk_at "op") => `(tactic| try dsimp only [L2.tSeq, L2.tAsg, L2.tOp, L2.tVar, L2.tC, L2.gSub, L2.rI, L2.rI0, L2.rIxL, L2.rIxT, L2.rSetL, L2.tIfS, L2.tTest, L2.tRet, L2.gName, L2.tNext, L2.tAnd, L2.tOr, L2.tNot, L2.tAndV, L2.tOrV, L2.tNotV, L2.tB, L2.tCB, L2.tCons, L2.tNil, L2.tCall, L2.tTup, L2.tLst, L2.tChain, L2.tUn, L2.tPar, L2.tDrop, L2.tIf, L2.tBM, L2.tBM0, L2.rAppend, L2.rCat, L2.rIsi, L2.rIsiT, L2.gTup, L2.gCons, L2.gNil, Fm.tFor_eq, Fm.tLc_eq, Fm.tLc2_eq, L2.iTup, L2.iList, L2.iRng1, L2.iRng2, L2.tSl, L2.tPart, L2.tNoPart, L2.rSlL, L2.rEq, L2.rNe, L2.rU, L2.rEqD, L2.rNeD, Fm.tRevT, Fm.rLenS, Fm.rTupOf, Fm.rLstOf, L2.tDNewK, L2.tCallS, L2.WE, Fm.wKeep, Fm.rIsK, Fm.rIsKT, List.cons_append, List.nil_append, L2.tYes])
namespace Fm
open PySem PySem.Spec PyProof.Rows L2
abbrev s_law_any_order : Stmt := top 53
abbrev N_law_any_order : List Str := ["jar", "house", "heaps", "out", "heap", "came", "some", "floor", "a", "b"]
theorem sc_law_any_order : FnScope N_law_any_order ["jar", "house", "heaps", "out"] (defScope s_law_any_order) := ⟨rfl, rfl, rfl, by decide +kernel, rfl, by decide +kernel, by decide +kernel⟩
section
variable {P : Program} {w : World} {K : PySem.W.Frag} {mg : Str → Option Value} {base : Heap}
/-! ### meetings in any order -/
def castL (h : List Nat) : List Int := h.map fun k : Nat => (k : Int)
def optV : Option Nat → V
  | none => .non
  | some a => .int (a : Nat)
/-- lists of who came, apart from the addresses in bad -/
structure KL (G H0 : Hp) (p C Kc : Addr) (ws wc : List V) (cs : List (List Nat)) (k : Nat) : Prop where
  row : ∀ j, j < wc.length → ∃ (b : Addr), wc[j]? = some (V.ref b) ∧ G b = some (.lst ((castL (cs.getD j [])).map V.int)) ∧ (cs.getD j []).length ≤ k ∧ b ≠ p ∧ b ≠ C ∧ b ≠ Kc ∧ H0 b = none ∧ ∀ i : Nat, ws[i]? ≠ some (V.ref b)
  len : cs.length = wc.length
  inj : Inj wc
/-- the floors on which two can meet -/
def someF (hs : List (List Nat)) (i : Nat) : List Nat := (List.range i).filter fun f => decide (1 < (hs.getD f []).length)
theorem someF_snoc (hs : List (List Nat)) (i : Nat) : someF hs (i + 1) = someF hs i ++ if 1 < (hs.getD i []).length then [i] else [] := by
  unfold someF
  rw [List.range_succ, List.filter_append]
  congr 1
  by_cases z : 1 < (hs.getD i []).length
  · rw [if_pos z, List.filter_cons, if_pos (decide_eq_true z)]
    rfl
  · rw [if_neg z, List.filter_cons, if_neg (by rw [decide_eq_false z]; decide)]
    rfl
theorem LL.cat {H : Hp} {p D C b : Addr} {ws : List V} {fl : List (List Int)} {c : List Int} (h : LL H p D ws fl) (hb : H b = some (.lst (c.map V.int))) (nb : b ≠ p) (hC : H C = none) : LL (upd H C (.lst (ws ++ [.ref b]))) p C (ws ++ [.ref b]) (fl ++ [c]) := by
  have off : ∀ {x : Addr} {o : HO}, H x = some o → x ≠ C := fun {x o} hx z => by
    rw [z, hC] at hx
    cases hx
  refine ⟨upd_same, by rw [List.length_append, List.length_append, h.len]; rfl, fun j d q => ?_⟩
  by_cases hj : j < fl.length
  · rw [List.getElem?_append_left hj] at q
    obtain ⟨b', e1, e2, e3, e4⟩ := h.row j d q
    exact ⟨b', by rw [List.getElem?_append_left (by rw [h.len]; exact hj)]; exact e1, by rw [upd_ne (off e2)]; exact e2, off e2, e4⟩
  · rw [List.getElem?_append_right (by omega)] at q
    cases z : j - fl.length with
    | zero =>
      rw [z] at q
      cases q
      exact ⟨b, by rw [List.getElem?_append_right (by rw [h.len]; omega), h.len, z]; rfl, by rw [upd_ne (off hb)]; exact hb, off hb, nb⟩
    | succ k =>
      rw [z] at q
      cases q
theorem LL.up {H : Hp} {p L b : Addr} {o : HO} {ws : List V} {fl : List (List Int)} (h : LL H p L ws fl) (n1 : b ≠ L) (n2 : ∀ i : Nat, ws[i]? ≠ some (V.ref b)) : LL (upd H b o) p L ws fl :=
  ⟨by rw [upd_ne n1.symm]; exact h.at_, h.len, fun j c q => by
    obtain ⟨b', e1, e2, e3⟩ := h.row j c q
    exact ⟨b', e1, by rw [upd_ne (fun z => n2 j (by rw [← z]; exact e1))]; exact e2, e3⟩⟩
theorem KL.mono {G H0 : Hp} {p C Kc : Addr} {ws wc : List V} {cs : List (List Nat)} {k k' : Nat} (h : KL G H0 p C Kc ws wc cs k) (l : k ≤ k') : KL G H0 p C Kc ws wc cs k' := ⟨fun j hj => by
  obtain ⟨b, q1, q2, q3, q⟩ := h.row j hj
  exact ⟨b, q1, q2, Nat.le_trans q3 l, q⟩, h.len, h.inj⟩
theorem KL.ext {G G' H0 : Hp} {p C Kc : Addr} {ws wc : List V} {cs : List (List Nat)} {k : Nat} (h : KL G H0 p C Kc ws wc cs k) (e : Ext p G G') : KL G' H0 p C Kc ws wc cs k := ⟨fun j hj => by
  obtain ⟨b, q1, q2, q3, q4, q⟩ := h.row j hj
  exact ⟨b, q1, e _ _ q2 q4, q3, q4, q⟩, h.len, h.inj⟩
theorem KL.up {G H0 : Hp} {p C Kc b : Addr} {o : HO} {ws wc : List V} {cs : List (List Nat)} {k i : Nat} (h : KL G H0 p C Kc ws wc cs k) (hi : ws[i]? = some (V.ref b)) : KL (upd G b o) H0 p C Kc ws wc cs k := ⟨fun j hj => by
  obtain ⟨b', q1, q2, q3, q4, q5, q6, q7, q8⟩ := h.row j hj
  exact ⟨b', q1, by rw [upd_ne (fun z => q8 i (by rw [z]; exact hi))]; exact q2, q3, q4, q5, q6, q7, q8⟩, h.len, h.inj⟩
theorem KL.add {G H0 : Hp} {p C Kc b : Addr} {a i : Nat} {ws wc : List V} {cs : List (List Nat)} {k : Nat} (h : KL G H0 p C Kc ws wc cs k) (hi : wc[i]? = some (V.ref b)) : KL (upd G b (.lst ((castL (cs.getD i [] ++ [a])).map V.int))) H0 p C Kc ws wc (cs.set i (cs.getD i [] ++ [a])) (k + 1) := ⟨fun j hj => by
  obtain ⟨b', q1, q2, q3, q4, q5, q6, q7, q8⟩ := h.row j hj
  by_cases z : j = i
  · subst z
    rw [hi] at q1
    cases q1
    have e : (cs.set j (cs.getD j [] ++ [a])).getD j [] = cs.getD j [] ++ [a] := by rw [List.getD_eq_getElem?_getD, List.getElem?_set_self (by rw [h.len]; exact hj)]; rfl
    exact ⟨b, hi, by rw [upd_same, e], by rw [e, List.length_append]; show _ + 1 ≤ k + 1; omega, q4, q5, q6, q7, q8⟩
  · have e : (cs.set i (cs.getD i [] ++ [a])).getD j [] = cs.getD j [] := by rw [List.getD_eq_getElem?_getD, List.getElem?_set_ne (Ne.symm z), List.getD_eq_getElem?_getD]
    refine ⟨b', q1, ?_, by rw [e]; omega, q4, q5, q6, q7, q8⟩
    rw [e, upd_ne (fun y => z (h.inj j i b' q1 (by rw [y]; exact hi)))]
    exact q2, by rw [List.length_set]; exact h.len, h.inj⟩
theorem KL.ll {G H0 : Hp} {p C Kc D : Addr} {ws wc wd : List V} {v : V} {cs : List (List Nat)} {k n : Nat} (h : KL G H0 p C Kc ws wc cs k) (e : wc = wd ++ [v]) (hn : wd.length = n) (hD : G D = some (.lst wd)) (nD : ∀ (i : Nat) (b : Addr), wc[i]? = some (V.ref b) → b ≠ D) : LL G p D wd ((cs.take n).map castL) := by
  have hl := h.len
  rw [e, List.length_append, List.length_singleton] at hl
  refine ⟨hD, by rw [List.length_map, List.length_take]; omega, fun j c q => ?_⟩
  rw [List.getElem?_map, List.getElem?_take] at q
  by_cases hj : j < n
  · rw [if_pos hj, List.getElem?_eq_getElem (by omega)] at q
    cases q
    obtain ⟨b, q1, q2, q3, q4, q5, q6, q7, q8⟩ := h.row j (by rw [e, List.length_append]; omega)
    have nb := nD j b q1
    rw [e, List.getElem?_append_left (by omega)] at q1
    rw [List.getD_eq_getElem?_getD, List.getElem?_eq_getElem (by omega)] at q2
    exact ⟨b, q1, q2, nb, q4⟩
  · rw [if_neg hj] at q
    cases q
theorem eqv_nil (ds : List PyData) : PyData.eqv (.list ds) (.list []) = ds.isEmpty := by
  cases ds with
  | nil => simp [PyData.eqv, PyData.eqvAll]
  | cons n r => simp [PyData.eqv, PyData.eqvAll]
theorem mem_someF {hs : List (List Nat)} {n f : Nat} : f ∈ someF hs n ↔ f < n ∧ 1 < (hs.getD f []).length := by
  unfold someF
  rw [List.mem_filter, List.mem_range, decide_eq_true_iff]
theorem someF_len (hs : List (List Nat)) (i : Nat) : (someF hs i).length ≤ i := by
  unfold someF
  refine Nat.le_trans (List.length_filter_le _ _) ?_
  rw [List.length_range]
  exact Nat.le_refl _
theorem ints_list {H : Hp} {p S : Addr} {l : List Nat} (h : H S = some (.lst (l.map fun k : Nat => V.int (k : Nat)))) (n : S ≠ p) : Dat H p (.ref S) (.list ((castL l).map PyData.int)) := by
  have e : (l.map fun k : Nat => V.int (k : Nat)) = (castL l).map V.int := by unfold castL; rw [List.map_map]; rfl
  rw [e] at h
  exact .lst h n (by rw [List.length_map, List.length_map]) fun i x d a b => (Dats.ints (H := H) (p := p) (castL l)).2 i x d a b
/-- what holds between two meetings -/
structure AnyI (fs : List PyData) (m n N out : Nat) (p C Kc : Addr) (H : Hp) (w2 wc : List V) (hs00 : List (List Nat)) (μ : Nat) (hs cs : List (List Nat)) (S0 : Addr) (G : Hp) : Prop where
  x : Ext p H G
  j : Jar G p (N + 3 * (600 - μ))
  ll : LL G p C w2 (hs.map castL)
  len : hs.length = n + 1
  lt : ∀ h ∈ hs, ∀ x ∈ h, x < m
  big : ∀ h ∈ hs, h.length ≤ 660 - μ
  came : G Kc = some (.lst wc)
  kl : KL G H p C Kc w2 wc cs (660 - μ)
  some_ : G S0 = some (.lst ((someF hs n).map fun k : Nat => V.int (k : Nat)))
  sp : S0 ≠ p
  tall : FmC.tall n m (FmC.hsSt n hs out) = μ
  le : μ ≤ 600
  run : FmC.Run n m (goN fs 0) (FmC.outU n (goN fs 1)) (FmC.hsSt n hs00 out) (FmC.hsSt n hs out)
  ci : FmC.CameI n m (goN fs 0) (goN fs 1) hs00 hs cs out
theorem AnyI.same {fs : List PyData} {m n N out : Nat} {p C Kc : Addr} {H G G' : Hp} {w2 wc : List V} {hs00 hs cs : List (List Nat)} {μ : Nat} {S0 : Addr} (I : AnyI fs m n N out p C Kc H w2 wc hs00 μ hs cs S0 G) (s : Same G G') : AnyI fs m n N out p C Kc H w2 wc hs00 μ hs cs S0 G' :=
  ⟨I.x.trans (Same.ext s p), I.j.same s, I.ll.same s, I.len, I.lt, I.big, s _ _ I.came, I.kl.ext (Same.ext s p), s _ _ I.some_, I.sp, I.tall, I.le, I.run, I.ci⟩
theorem Ext.free {p b : Addr} {H G : Hp} {o : HO} (h : Ext p H G) (hb : H b = none) : Ext p H (upd G b o) := fun c u ec nc => by
  rw [upd_ne (ne_of_none ec hb)]
  exact h c u ec nc
theorem row_bf {G : Hp} {p C : Addr} {w2 : List V} {hs : List (List Nat)} {f : Nat} {h : List Nat} (L : LL G p C w2 (hs.map castL)) (e : hs[f]? = some h) : ∃ b : Addr, w2[f]? = some (V.ref b) ∧ G b = some (.lst ((castL h).map V.int)) ∧ b ≠ C ∧ b ≠ p :=
  L.row f (castL h) (by rw [List.getElem?_map, e]; rfl)
theorem LL.put {G : Hp} {p C b : Addr} {w2 : List V} {hs : List (List Nat)} {f : Nat} (L : LL G p C w2 (hs.map castL)) (inj : Inj w2) (e : w2[f]? = some (V.ref b)) (h' : List Nat) : LL (upd G b (.lst ((castL h').map V.int))) p C w2 ((hs.set f h').map castL) := by
  rw [List.map_set]
  exact L.updRow e fun j q => inj j f b q e
theorem cast_erase (h : List Nat) (i : Nat) : ((castL h).map V.int).eraseIdx i = (castL (h.eraseIdx i)).map V.int := by
  unfold castL
  rw [List.map_map, List.map_map]
  exact map_erase h i
theorem cast_snoc (h : List Nat) (x : Nat) : (castL h).map V.int ++ [V.int (x : Nat)] = (castL (h ++ [x])).map V.int := by
  unfold castL
  rw [List.map_append, List.map_append]
  rfl
theorem cast_len (l : List Nat) : ((castL l).map V.int).length = l.length := by unfold castL; rw [List.length_map, List.length_map]
theorem cast_at {h : List Nat} {i : Nat} (hi : i < h.length) : ((castL h).map V.int)[i]? = some (V.int (h[i] : Nat)) := by
  unfold castL
  rw [List.map_map, List.getElem?_map, List.getElem?_eq_getElem hi]
  rfl
theorem cut_last (xs : List V) (y : V) : cutV (xs ++ [y]) none (some (-1)) = xs := by
  have e1 : HT.sIx (xs ++ [y]).length 0 none = 0 := rfl
  have e2 : HT.sIx (xs ++ [y]).length (xs ++ [y]).length (some (-1)) = xs.length := by
    unfold HT.sIx
    rw [List.length_append]
    show (if (-1 : Int) < 0 then _ else _) = _
    rw [if_pos (by decide)]
    show ((-1 : Int) + ((xs.length + 1 : Nat) : Int)).toNat = _
    omega
  unfold cutV
  rw [e1, e2, List.drop_zero, Nat.sub_zero, List.take_left]
theorem head_opt (h : List Nat) : atI ((castL h).map V.int ++ [V.non]) 0 = some (optV h.head?) := by
  refine atI_nat (j := 0) ?_
  cases h with
  | nil => rfl
  | cons a l => rfl
def spAny : Sp := fun vs H Q _ => ∃ (p q : Addr) (hv : V) (fs : List PyData) (m n N out : Nat) (ws : List V) (hs0 : List (List Nat)), vs = [.ref p, hv, .ref q, .int (out : Nat)] ∧ N + 2000 ≤ 1000000000 ∧ Jar H p N ∧ Dat H p hv (.tuple fs) ∧ HouseN m n (.tuple fs) ∧ LL H p q ws (hs0.map castL) ∧ hs0.length = n ∧ (∀ h ∈ hs0, h.length ≤ 60 ∧ ∀ x ∈ h, x < m) ∧
  ∀ (L Vc : Addr) (v1 : V) (wd : List V) (hs cs : List (List Nat)) H', H' L = some (.lst [v1, .ref Vc]) → LL H' p Vc wd ((cs.take n).map castL) → cs.length = n + 1 → (∀ h ∈ cs, h.length ≤ 660) → (∀ f, f < n → (hs.getD f []).length ≤ 1) →
    FmC.CameI n m (goN fs 0) (goN fs 1) (hs0 ++ [[]]) hs cs out → Jar H' p (N + 2000) → Ext p H H' → Vc ≠ p → Q (.ref L) H'
theorem ok_law_any_order (D : Df K mg "_law_any_order" s_law_any_order ["jar", "house", "heaps", "out"]) (T : Nms mg) (c_law_dip : CallOk P w K mg base CX0 1 "_law_dip" ["jar", "many"] spDip) : CallOk P w K mg base CX0 2 "_law_any_order" ["jar", "house", "heaps", "out"] spAny := by
  refine df_ok D sc_law_any_order (fun vs H Q E h => ?_) (fun f cdv A outer s H vs Q E hr h => ?_)
  · obtain ⟨p, q, hv, fs, m, n, N, out, ws, hs0, rfl, _⟩ := h
    rfl
  · obtain ⟨p, q, hv, fs, m, n, N, out, ws, hs0, rfl, hN0, hJ, hD, hN, hLL, hhl, hok, k⟩ := h
    have nd := sc_law_any_order.nd
    refine ⟨_, (pss_cons (ps_set (i := 2) nd rfl (Or.inr rfl) (pe_op op_cat (pe_lc (own := [("heap", 4)]) (g := (gName 4)) (tt := tYes) (by rfl) nd (pi_list (pv 2)) (blkOk_by (own := [("heap", 4)]) (N := N_law_any_order) (sc := defScope s_law_any_order) (by decide +kernel)) (fun _ _ _ _ _ => (pg_name (i := 4) nd rfl (Or.inl rfl))) (fun _ _ _ _ _ => pts_nil) (fun _ _ _ _ _ => (pe_callTy (r := rLstOf K) call_lstOf (by rfl) T.n_list (by decide +kernel) (pa_cons (pv 4) pa_nil)))) (pe_lst (pa_cons (pe_lst pa_nil) pa_nil))))
      (pss_cons (ps_setLc (i := 5) (own := [("heap", 4)]) (g := (gName 4)) (tt := tYes) (by rfl) nd rfl rfl (sw_true rfl rfl rfl (by decide +kernel)) (pi_list (pv 2)) (blkOk_by (own := [("heap", 4)]) (N := N_law_any_order) (sc := defScope s_law_any_order) (by decide +kernel)) (fun _ _ _ _ _ => (pg_name (i := 4) nd rfl (Or.inl rfl))) (fun _ _ _ _ _ => pts_nil) (fun _ _ _ _ _ => (pe_callTy (r := rLstOf K) call_lstOf (by rfl) T.n_list (by decide +kernel) (pa_cons (pv 4) pa_nil))))
      (pss_cons (ps_setLc (i := 6) (own := [("floor", 7)]) (g := (gName 7)) (by rfl) nd rfl rfl (sw_true rfl rfl rfl (by decide +kernel)) (pi_range1 rfl T.n_range (pa_cons (pe_callB (r := rLenS K) call_lenS (by rfl) T.n_len (by decide +kernel) (pa_cons (pv 1) pa_nil)) pa_nil)) (blkOk_by (own := [("floor", 7)]) (N := N_law_any_order) (sc := defScope s_law_any_order) (by decide +kernel)) (fun _ _ _ _ _ => (pg_name (i := 7) nd rfl (Or.inl rfl))) (fun _ _ _ _ _ => (pts_one (pt_cmpR op_gt (pe_callB (r := rLenS K) call_lenS (by rfl) T.n_len (by decide +kernel) (pa_cons (pe_ix (r := rIxL K) ix_list (pv 2) (pv 7) (fun _ _ => rfl)) pa_nil)) pe_int (nomark _)))) (fun _ _ _ _ _ => (pv 7)))
      (pss_cons (ps_while PassesOwn.never (pt_cmpR (r := rNeD K) (op_neD hr.units) (pv 6) (pe_lst pa_nil) (nomark _)) (pss_cons (ps_set (i := 7) nd rfl (Or.inl rfl) (pe_ix (r := rIxL K) ix_list (pv 6) (pe_cc c_law_dip (hr.mono (by omega)) (pa_cons (pv 0) (pa_cons (pe_callB (r := rLenS K) call_lenS (by rfl) T.n_len (by decide +kernel) (pa_cons (pv 6) pa_nil)) pa_nil))) (fun _ _ => rfl)))
      (pss_cons (ps_set (i := 8) nd rfl (Or.inl rfl) (pe_bmK (K := K) rfl PySem.F.plainAttrs_list PySem.F.slot_list_pop PySem.F.type_list_pop mt_popAt (pe_ix (r := rIxL K) ix_list (pv 2) (pv 7) (fun _ _ => rfl)) (pa_cons (pe_cc c_law_dip (hr.mono (by omega)) (pa_cons (pv 0) (pa_cons (pe_callB (r := rLenS K) call_lenS (by rfl) T.n_len (by decide +kernel) (pa_cons (pe_ix (r := rIxL K) ix_list (pv 2) (pv 7) (fun _ _ => rfl)) pa_nil)) pa_nil))) pa_nil)))
      (pss_cons (ps_set (i := 9) nd rfl (Or.inl rfl) (pe_bmK (K := K) rfl PySem.F.plainAttrs_list PySem.F.slot_list_pop PySem.F.type_list_pop mt_popAt (pe_ix (r := rIxL K) ix_list (pv 2) (pv 7) (fun _ _ => rfl)) (pa_cons (pe_cc c_law_dip (hr.mono (by omega)) (pa_cons (pv 0) (pa_cons (pe_callB (r := rLenS K) call_lenS (by rfl) T.n_len (by decide +kernel) (pa_cons (pe_ix (r := rIxL K) ix_list (pv 2) (pv 7) (fun _ _ => rfl)) pa_nil)) pa_nil))) pa_nil)))
      (pss_cons (ps_expr (pe_bm PySem.F.plainAttrs_list PySem.F.slot_list_append PySem.F.type_list_append mt_append (pe_ix (r := rIxL K) ix_list (pv 2) (pv 7) (fun _ _ => rfl)) (pa_cons (pe_ix (r := rIxT K) ix_tup (pe_ix (r := rIxT K) ix_tup (pe_ix (r := rIxT K) ix_tup (pe_ix (r := rIxT K) ix_tup (pv 1) (pv 7) (fun _ _ => rfl)) pe_int (fun _ _ => rfl)) (pv 8) (fun _ _ => rfl)) (pv 9) (fun _ _ => rfl)) pa_nil)))
      (pss_cons (ps_expr (pe_bm PySem.F.plainAttrs_list PySem.F.slot_list_append PySem.F.type_list_append mt_append (pe_ix (r := rIxL K) ix_list (pv 2) (pe_op op_add (pv 7) pe_int) (fun _ _ => rfl)) (pa_cons (pe_ix (r := rIxT K) ix_tup (pe_ix (r := rIxT K) ix_tup (pe_ix (r := rIxT K) ix_tup (pe_ix (r := rIxT K) ix_tup (pv 1) (pv 7) (fun _ _ => rfl)) pe_int (fun _ _ => rfl)) (pv 8) (fun _ _ => rfl)) (pv 9) (fun _ _ => rfl)) pa_nil)))
      (pss_cons (ps_expr (pe_bm PySem.F.plainAttrs_list PySem.F.slot_list_append PySem.F.type_list_append mt_append (pe_ix (r := rIxL K) ix_list (pv 5) (pe_op op_add (pv 7) pe_int) (fun _ _ => rfl)) (pa_cons (pe_ix (r := rIxT K) ix_tup (pe_ix (r := rIxT K) ix_tup (pe_ix (r := rIxT K) ix_tup (pe_ix (r := rIxT K) ix_tup (pv 1) (pv 7) (fun _ _ => rfl)) pe_int (fun _ _ => rfl)) (pv 8) (fun _ _ => rfl)) (pv 9) (fun _ _ => rfl)) pa_nil)))
      (pss_one (ps_setLc (i := 6) (own := [("floor", 7)]) (g := (gName 7)) (by rfl) nd rfl rfl (sw_true rfl rfl rfl (by decide +kernel)) (pi_range1 rfl T.n_range (pa_cons (pe_callB (r := rLenS K) call_lenS (by rfl) T.n_len (by decide +kernel) (pa_cons (pv 1) pa_nil)) pa_nil)) (blkOk_by (own := [("floor", 7)]) (N := N_law_any_order) (sc := defScope s_law_any_order) (by decide +kernel)) (fun _ _ _ _ _ => (pg_name (i := 7) nd rfl (Or.inl rfl))) (fun _ _ _ _ _ => (pts_one (pt_cmpR op_gt (pe_callB (r := rLenS K) call_lenS (by rfl) T.n_len (by decide +kernel) (pa_cons (pe_ix (r := rIxL K) ix_list (pv 2) (pv 7) (fun _ _ => rfl)) pa_nil)) pe_int (nomark _)))) (fun _ _ _ _ _ => (pv 7)))))))))))
      (pss_one (ps_ret (pe_lst (pa_cons (pe_tup (pa_cons (pe_lc (own := [("heap", 4)]) (g := (gName 4)) (tt := tYes) (by rfl) nd (pi_list (pe_slice (r := rSlL K) sl_list (pv 2) po_none (po_some (pe_un un_neg pe_int)))) (blkOk_by (own := [("heap", 4)]) (N := N_law_any_order) (sc := defScope s_law_any_order) (by decide +kernel)) (fun _ _ _ _ _ => (pg_name (i := 4) nd rfl (Or.inl rfl))) (fun _ _ _ _ _ => pts_nil) (fun _ _ _ _ _ => (pe_ix (r := rIxL K) ix_list (pe_op op_cat (pv 4) (pe_lst (pa_cons pe_non pa_nil))) pe_int (fun _ _ => rfl)))) (pa_cons (pe_op op_add (pv 3) (pe_callB (r := rLenS K) call_lenS (by rfl) T.n_len (by decide +kernel) (pa_cons (pe_ix (r := rIxL K) ix_list (pv 2) (pe_un un_neg pe_int) (fun _ _ => rfl)) pa_nil))) pa_nil))) (pa_cons (pe_slice (r := rSlL K) sl_list (pv 5) po_none (po_some (pe_un un_neg pe_int))) pa_nil))))))))), ?_⟩
    walk_at "op"
    have hmn : 1 ≤ n ∧ n ≤ 4 ∧ 1 ≤ m ∧ m ≤ 6 := by
      obtain ⟨_, _, _, z1, z2, z3, z4, _⟩ := hN
      exact ⟨z1, z2, z3, z4⟩
    refine ⟨_, rfl, q, rfl, ⟨_, SqL.of hLL.at_⟩, fun D1 hD1 => ?_⟩
    refine lI walk_list (fun i G => Same H G ∧ ∃ w1, LL G p D1 w1 ((hs0.take i).map castL) ∧ Inj w1 ∧ Fresh H w1) ⟨same_new hD1, [], LL.nil upd_same, fun i1 i2 b e => (by cases e), fun i b e => (by cases e)⟩ (fun _ _ _ ⟨e, _⟩ => SqL.of (e _ _ hLL.at_)) ?_ ?_
    · rintro i x _ G hi ⟨sG, w1, hL1, inj1, fresh1⟩ ⟨rfl, hxi⟩
      have hil : i < hs0.length := by rw [hLL.len, List.length_map] at hi; exact hi
      have hgi : hs0[i]? = some hs0[i] := List.getElem?_eq_getElem hil
      obtain ⟨b, e1, hb, _, _⟩ := hLL.row i (castL hs0[i]) (by rw [List.getElem?_map, hgi]; rfl)
      rw [hxi] at e1
      cases e1
      walk_at "op"
      refine ⟨rfl, ?_⟩
      refine iteT ?_
      refine ⟨_, rfl, b, _, rfl, .inl (SqL.of (sG _ _ hb)), fun l hl => ?_⟩
      have sl := same_new (o := .lst ((castL hs0[i]).map V.int)) hl
      have hwl : w1.length ≤ 4 := by rw [hL1.len, List.length_map, List.length_take]; omega
      refine ⟨w1, sl _ _ hL1.at_, Nat.lt_of_le_of_lt hwl (by rw [sizeLine_eq]; omega), sameOff (sG.trans sl) hD1, w1 ++ [.ref l], ?_, inj1.snoc (hL1.off hl), fresh1.snoc (sameFree sG hl)⟩
      rw [tk_snoc hgi, List.map_append]
      exact (hL1.same sl).snoc upd_same (ne_of_none hL1.at_ hl).symm ((hJ.same sG).ne hl).symm
    · rintro G1 ⟨s1, w1, hL1, inj1, fresh1⟩
      rw [hLL.len, List.length_map, List.take_length] at hL1
      have hw1 : w1.length = n := by rw [hL1.len, List.length_map, hhl]
      refine ⟨Nat.zero_le _, fun e0 he0 => ⟨by show 1 ≤ sizeLine; decide, fun E1 hE1 => ?_⟩⟩
      have s2 := same_new (o := .lst []) he0
      have s3 := same_new (o := .lst [V.ref e0]) hE1
      have he01 : upd (upd G1 e0 (.lst [])) E1 (.lst [V.ref e0]) e0 = some (.lst (([] : List Int).map V.int)) := s3 _ _ upd_same
      have nep : e0 ≠ p := ((hJ.same s1).ne he0).symm
      have hL3 := hL1.same (s2.trans s3)
      have hE3 : upd (upd G1 e0 (.lst [])) E1 (.lst [V.ref e0]) E1 = some (.lst [V.ref e0]) := upd_same
      have s13 := s1.trans (s2.trans s3)
      have he0H := sameFree s1 he0
      have off0 := hL1.off he0
      generalize upd (upd G1 e0 (.lst [])) E1 (.lst [V.ref e0]) = G3 at *
      refine ⟨D1, E1, w1, [.ref e0], rfl, rfl, hL3.at_, hE3, Nat.le_of_lt (Nat.lt_of_le_of_lt (show w1.length + 1 ≤ 5 by omega) (by rw [sizeLine_eq]; omega)), fun C hC => ?_⟩
      have hLC := hL3.cat he01 nep hC
      have s4 := same_new (o := .lst (w1 ++ [V.ref e0])) hC
      have inj2 : Inj (w1 ++ [.ref e0]) := inj1.snoc off0
      have fresh2 : Fresh H (w1 ++ [.ref e0]) := fresh1.snoc he0H
      have hCH := sameFree s13 hC
      have s14 := s13.trans s4
      have hw2 : (w1 ++ [V.ref e0]).length = n + 1 := by rw [List.length_append, hw1]; rfl
      have eh : hs0.map castL ++ [[]] = (hs0 ++ [[]]).map castL := by rw [List.map_append]; rfl
      rw [eh] at hLC
      generalize upd G3 C (.lst (w1 ++ [V.ref e0])) = G4 at *
      generalize w1 ++ [V.ref e0] = w2 at *
      refine ⟨_, rfl, C, rfl, ⟨_, SqL.of hLC.at_⟩, fun Kc hKc => ?_⟩
      have nCK : C ≠ Kc := ne_of_none hLC.at_ hKc
      have hKcH := sameFree s14 hKc
      have hl1 : (hs0 ++ [[]]).length = n + 1 := by rw [List.length_append, hhl]; rfl
      have h60 : ∀ h ∈ hs0 ++ [[]], h.length ≤ 60 := fun h hh => by
        rcases List.mem_append.mp hh with hh | hh
        · exact (hok h hh).1
        · rw [List.mem_singleton.mp hh]
          exact Nat.zero_le _
      have hJ4 := hJ.same s14
      refine lI walk_list (fun i G => Same G4 G ∧ ∃ wc, G Kc = some (.lst wc) ∧ wc.length = i ∧ KL G H p C Kc w2 wc ((hs0 ++ [[]]).take i) 60) ⟨same_new hKc, [], upd_same, rfl, ⟨fun j hj => absurd hj (Nat.not_lt_zero j), rfl, fun i1 i2 b e => (by cases e)⟩⟩ (fun _ _ _ ⟨e, _⟩ => SqL.of (e _ _ hLC.at_)) ?_ ?_
      · rintro i x _ G hi ⟨sG, wc, hwc, hwl, hK⟩ ⟨rfl, hxi⟩
        rw [hw2] at hi
        have hil : i < (hs0 ++ [[]]).length := by omega
        have hgi : (hs0 ++ [[]])[i]? = some (hs0 ++ [[]])[i] := List.getElem?_eq_getElem hil
        obtain ⟨b, e1, hb, _, _⟩ := hLC.row i (castL (hs0 ++ [[]])[i]) (by rw [List.getElem?_map, hgi]; rfl)
        rw [hxi] at e1
        cases e1
        have hh60 := h60 _ (List.getElem_mem hil)
        have htk0 := tk_snoc hgi
        generalize (hs0 ++ [[]])[i] = h at *
        walk_at "op"
        refine ⟨rfl, ?_⟩
        refine iteT ?_
        refine ⟨_, rfl, b, _, rfl, .inl (SqL.of (sG _ _ hb)), fun l hl => ?_⟩
        have sl := same_new (o := .lst ((castL h).map V.int)) hl
        have hl2 := sl
        have nlK : l ≠ Kc := (ne_of_none hwc hl).symm
        refine ⟨wc, sl _ _ hwc, Nat.lt_of_le_of_lt (show wc.length ≤ 5 by omega) (by rw [sizeLine_eq]; omega), sameOff (sG.trans sl) hKc, wc ++ [.ref l], upd_same, by rw [List.length_append, hwl]; rfl, ⟨fun j hj => ?_, by rw [htk0, List.length_append, List.length_append, hK.len]; rfl, hK.inj.snoc fun j b' e z => by
          obtain ⟨b2, q1, q2, _⟩ := hK.row j (List.getElem?_eq_some_iff.mp e).1
          rw [e] at q1
          cases q1
          rw [z, hl] at q2
          cases q2⟩⟩
        have hlt0 : ((hs0 ++ [[]]).take i).length = wc.length := hK.len
        by_cases hjw : j < wc.length
        · obtain ⟨b', q1, q2, q3, q4, q5, q6, q7, q8⟩ := hK.row j hjw
          have eg : ((hs0 ++ [[]]).take i ++ [h]).getD j [] = ((hs0 ++ [[]]).take i).getD j [] := by rw [List.getD_eq_getElem?_getD, List.getElem?_append_left (by omega), List.getD_eq_getElem?_getD]
          rw [htk0]
          refine ⟨b', by rw [List.getElem?_append_left hjw]; exact q1, ?_, by rw [eg]; exact q3, q4, q5, q6, q7, q8⟩
          rw [upd_ne q6, eg]
          exact hl2 _ _ q2
        · have ej : j = wc.length := by
            rw [List.length_append] at hj
            have : ([V.ref l] : List V).length = 1 := rfl
            omega
          have eg : ((hs0 ++ [[]]).take i ++ [h]).getD j [] = h := by rw [List.getD_eq_getElem?_getD, ej, List.getElem?_append_right (by omega), hlt0, Nat.sub_self]; rfl
          rw [htk0]
          refine ⟨l, by rw [ej, List.getElem?_append_right (Nat.le_refl _), Nat.sub_self]; rfl, by rw [upd_ne nlK, eg]; exact upd_same, by rw [eg]; exact hh60, ((hJ4.same sG).ne hl).symm, (ne_of_none (sG _ _ hLC.at_) hl).symm, nlK, sameFree (s14.trans sG) hl, fun i' e => ?_⟩
          exact (hLC.same sG).off hl i' l e rfl
      · rintro G5 ⟨s5, wc, hwc, hwl, hK⟩
        rw [hw2] at hwl hK
        have etk : (hs0 ++ [[]]).take (n + 1) = hs0 ++ [[]] := List.take_of_length_le (by omega)
        rw [etk] at hK
        obtain ⟨ah, hsv, rfl, hah, nah, hh⟩ := id hD.isTup
        have hhn : hsv.length = n := by
          rw [hh.1]
          obtain ⟨_, e, z, _⟩ := hN
          cases e
          exact z
        have hLC5 := hLC.same s5
        have s15 := s14.trans s5
        walk_at "op"
        refine ⟨_, rfl, ah, hsv, rfl, .inr (SqT.of (s15 _ _ hah)), ?_⟩
        rw [hhn]
        refine ⟨_, rfl, by omega, by omega, ?_⟩
        rw [Int.toNat_natCast]
        refine fun S0 hS0 => ?_
        refine lI walk_range (fun i G => Same G5 G ∧ G S0 = some (.lst ((someF (hs0 ++ [[]]) i).map fun k : Nat => V.int (k : Nat)))) ⟨same_new hS0, upd_same⟩ (fun _ _ _ _ => True.intro) ?_ ?_
        · rintro i x _ G hi ⟨sG, hSG⟩ ⟨rfl, rfl⟩
          have hil : i < (hs0 ++ [[]]).length := by omega
          have hgi : (hs0 ++ [[]])[i]? = some (hs0 ++ [[]])[i] := List.getElem?_eq_getElem hil
          have hgd : (hs0 ++ [[]]).getD i [] = (hs0 ++ [[]])[i] := by rw [List.getD_eq_getElem?_getD, hgi]; rfl
          obtain ⟨b, e1, hb, _, _⟩ := hLC5.row i (castL (hs0 ++ [[]])[i]) (by rw [List.getElem?_map, hgi]; rfl)
          have hsl : (someF (hs0 ++ [[]]) i).length ≤ 4 := by
            unfold someF
            refine Nat.le_trans (List.length_filter_le _ _) ?_
            rw [List.length_range]
            omega
          walk_at "op"
          refine ⟨rfl, ?_⟩
          rw [Int.zero_add]
          refine ⟨_, rfl, _, rfl, C, w2, _, _, rfl, rfl, SqL.of (sG _ _ hLC5.at_), atI_nat e1, b, _, rfl, .inl (SqL.of (sG _ _ hb)), _, 1, rfl, rfl, _, rfl, ?_⟩
          have hlc : ((castL (hs0 ++ [[]])[i]).map V.int).length = (hs0 ++ [[]])[i].length := by unfold castL; rw [List.length_map, List.length_map]
          rw [hlc, someF_snoc, hgd]
          refine ite2 (fun c0 => ?_) (fun c0 => ?_)
          · have c1 : 1 < (hs0 ++ [[]])[i].length := by have := of_decide_eq_true c0; omega
            refine ⟨_, rfl, _, hSG, by rw [List.length_map]; exact Nat.lt_of_le_of_lt hsl (by rw [sizeLine_eq]; omega), sameOff sG hS0, ?_⟩
            rw [upd_same, if_pos c1, List.map_append]
            rfl
          · have c1 : ¬ 1 < (hs0 ++ [[]])[i].length := fun z => c0 (decide_eq_true (by omega))
            refine ⟨sG, ?_⟩
            rw [if_neg c1, List.append_nil]
            exact hSG
        · rintro G6 ⟨s6, hS6⟩
          have nCp : C ≠ p := ((hJ.same s13).ne hC).symm
          have nKp : Kc ≠ p := (hJ4.ne hKc).symm
          have nK2 : ∀ (i : Nat) (b : Addr), w2[i]? = some (V.ref b) → b ≠ Kc := hLC.off hKc
          have hlt : ∀ h ∈ hs0 ++ [[]], ∀ x ∈ h, x < m := fun h hh => by
            rcases List.mem_append.mp hh with hh | hh
            · exact (hok h hh).2
            · rw [List.mem_singleton.mp hh]
              exact fun x hx => by cases hx
          have t600 : FmC.tall n m (FmC.hsSt n (hs0 ++ [[]]) out) ≤ 600 := FmC.tall_heaps hmn.2.1 h60
          have B := tabs_of hN (goLt_of hD hN)
          have s46 := s5.trans s6
          have s16 := s15.trans s6
          refine ⟨fun μ σ G => ∃ (hs cs : List (List Nat)) (S0 : Addr) (u7 u8 u9 : Option V), σ = [some (.ref p), some (.ref ah), some (.ref C), some (.int (out : Nat)), none, some (.ref Kc), some (.ref S0), u7, u8, u9] ∧ AnyI fs m n N out p C Kc H w2 wc (hs0 ++ [[]]) μ hs cs S0 G,
            ⟨_, hs0 ++ [[]], hs0 ++ [[]], S0, _, _, _, rfl, ⟨Same.ext s16 p, (hJ4.same s46).le (by omega), hLC.same s46, hl1, hlt, fun h hh => Nat.le_trans (h60 h hh) (by omega), s6 _ _ hwc, (hK.ext (Same.ext s6 p)).mono (by omega), hS6, ((hJ4.same s5).ne hS0).symm, rfl, t600, .nil _, .nil _ _⟩⟩, ?_⟩
          clear hS6 hS0 s46 s16 s6 hLC5 hK hwc s5 G5 s15 s4 hl1 h60 hlt t600 hLC hJ4 hE3 hL3 he01
          rintro μ σ G ⟨hs, cs, S1, u7, u8, u9, rfl, I⟩
          walk_at "op"
          refine ⟨_, rfl, Nat.zero_le _, fun t ht => ?_⟩
          have dS := (ints_list I.some_ I.sp).off (o := .lst []) ht
          refine ⟨_, .list [], dS.dp (by simp only [PyData.hasDict]; exact hasDict_all fun d hd => by obtain ⟨c, _, rfl⟩ := List.mem_map.mp hd; simp only [PyData.hasDict]), .lst (SqL.of upd_same) .nil, ?_, (by decide), ?_⟩
          · unfold SeqAt.shaped
            have q := lay_ints (castL (someF hs n))
            rw [Bool.and_eq_true]
            refine ⟨by simpa only [PyData.canLay0] using q.1, decide_eq_true ?_⟩
            simp only [PyData.depth]
            rw [q.2]
            omega
          rw [eqv_nil]
          refine ⟨_, rfl, ?_⟩
          by_cases he : someF hs n = []
          · rw [he]
            refine iteF ?_
            walk_at "op"
            have I1 := I.same (same_new (o := .lst []) ht)
            have hle := I.le
            clear dS I
            generalize upd G t (.lst []) = G1 at *
            have nocap : ∀ f, f < n → (hs.getD f []).length ≤ 1 := fun f hf => by
              refine Nat.not_lt.mp fun z => ?_
              have := mem_someF.mpr ⟨hf, z⟩
              rw [he] at this
              cases this
            obtain ⟨w3, z, hw⟩ : ∃ w3 z, w2 = w3 ++ [z] := by
              rcases List.eq_nil_or_concat w2 with e | ⟨l, b, e⟩
              · rw [e] at hw2
                cases hw2
              · exact ⟨l, b, by rw [e, List.concat_eq_append]⟩
            obtain ⟨wc3, zc, hwcE⟩ : ∃ w3 z, wc = w3 ++ [z] := by
              rcases List.eq_nil_or_concat wc with e | ⟨l, b, e⟩
              · rw [e] at hwl
                cases hwl
              · exact ⟨l, b, by rw [e, List.concat_eq_append]⟩
            have hw3 : w3.length = n := by
              rw [hw, List.length_append] at hw2
              have : ([z] : List V).length = 1 := rfl
              omega
            have hsl := I1.len
            refine ⟨_, rfl, _, rfl, _, rfl, C, w2, rfl, SqL.of I1.ll.at_, fun D2 hD2 => ?_⟩
            rw [hw, cut_last]
            refine ⟨D2, rfl, ⟨_, SqL.of upd_same⟩, fun R hR => ?_⟩
            have sD := same_new (o := .lst w3) hD2
            have hD2' : upd G1 D2 (.lst w3) D2 = some (.lst w3) := upd_same
            have I2 := I1.same sD
            generalize upd G1 D2 (.lst w3) = G2 at *
            refine lI walk_list (fun i G => Same G2 G ∧ G R = some (.lst (((hs.take i).map List.head?).map optV))) ⟨same_new hR, upd_same⟩ (fun _ _ _ ⟨e, _⟩ => SqL.of (e _ _ hD2')) ?_ ?_
            · rintro i x _ G hi ⟨sG, hRG⟩ ⟨rfl, hxi⟩
              rw [hw3] at hi
              have hil : i < hs.length := by omega
              have hgi : hs[i]? = some hs[i] := List.getElem?_eq_getElem hil
              obtain ⟨b', e1', hb', _, _⟩ := row_bf I2.ll hgi
              rw [hw, List.getElem?_append_left (by omega), hxi] at e1'
              cases e1'
              have htk := tk_snoc hgi
              have hbg := I2.big _ (List.getElem_mem hil)
              generalize hs[i] = h at *
              walk_at "op"
              refine ⟨rfl, ?_⟩
              refine iteT ?_
              refine ⟨_, rfl, by show 1 ≤ sizeLine; decide, fun t1 ht1 => ?_⟩
              have s1' := same_new (o := .lst [V.non]) ht1
              refine ⟨b', t1, _, _, rfl, rfl, s1' _ _ (sG _ _ hb'), upd_same, by rw [cast_len]; exact Nat.le_of_lt (Nat.lt_of_le_of_lt (show h.length + 1 ≤ 661 by omega) (by rw [sizeLine_eq]; omega)), fun t2 ht2 => ?_⟩
              have s2' := s1'.trans (same_new (o := .lst ((castL h).map V.int ++ [V.non])) ht2)
              refine ⟨t2, _, 0, _, rfl, rfl, SqL.of upd_same, head_opt h, ?_⟩
              refine ⟨_, s2' _ _ hRG, by rw [List.length_map, List.length_map, List.length_take]; exact Nat.lt_of_le_of_lt (show min i hs.length ≤ 5 by omega) (by rw [sizeLine_eq]; omega), sameOff (sG.trans s2') hR, ?_⟩
              rw [upd_same, htk, List.map_append, List.map_append]
              rfl
            · rintro G3 ⟨s3, hR3⟩
              rw [hw3] at hR3
              have I3 := I2.same s3
              have hgl : hs[n]? = some hs[n] := List.getElem?_eq_getElem (by omega)
              obtain ⟨bl, el, hbl, _, _⟩ := row_bf I3.ll hgl
              have egl : hs.getD n [] = hs[n] := by rw [List.getD_eq_getElem?_getD, hgl]; rfl
              have elast : atI w2 (-1) = some (.ref bl) := by
                rw [hw, List.getElem?_append_right (by omega), hw3, Nat.sub_self] at el
                cases el
                rw [hw]
                exact L2.atI_last w3 _
              walk_at "op"
              refine ⟨_, rfl, _, rfl, _, rfl, C, w2, _, _, rfl, rfl, SqL.of I3.ll.at_, elast, bl, _, rfl, .inl (SqL.of hbl), _, _, rfl, rfl, ?_⟩
              rw [cast_len, ← egl]
              refine ⟨by show 2 ≤ sizeLine; decide, fun T1 hT1 => ?_⟩
              have s4' := same_new (o := .tup [V.ref R, V.int ((out : Int) + ((hs.getD n []).length : Nat))]) hT1
              have hcm := s4' _ _ I3.came
              refine ⟨_, rfl, _, rfl, _, rfl, Kc, wc, rfl, SqL.of hcm, fun V1 hV1 => ?_⟩
              have ecv : cutV wc none (some (-1)) = wc3 := by rw [hwcE, cut_last]
              rw [ecv]
              have s5' := same_new (o := .lst wc3) hV1
              have hKm := (I3.kl.ext (Same.ext s4' p))
              have nV : ∀ (i : Nat) (b : Addr), wc[i]? = some (V.ref b) → b ≠ V1 := fun i b e z => by
                obtain ⟨b2, q1, q2, _⟩ := hKm.row i (List.getElem?_eq_some_iff.mp e).1
                rw [e] at q1
                cases q1
                rw [z, hV1] at q2
                cases q2
              have nVp : V1 ≠ p := ((I3.j.same s4').ne hV1).symm
              refine ⟨by show 2 ≤ sizeLine; decide, fun L1 hL1 => ?_⟩
              have s6'' := same_new (o := .lst [V.ref T1, V.ref V1]) hL1
              have s6' := s5'.trans s6''
              have hJ9 := (I3.j.same s4').same s6'
              have hw3l : wc3.length = n := by
                rw [hwcE, List.length_append] at hwl
                have : ([zc] : List V).length = 1 := rfl
                omega
              have hcsl : cs.length = n + 1 := by rw [I3.kl.len, hwl]
              have hfin := (hKm.ext (Same.ext s6' p)).ll hwcE hw3l (s6'' _ _ upd_same) nV
              refine k L1 V1 (.ref T1) wc3 hs cs _ upd_same hfin hcsl (fun h hh => ?_) nocap I3.ci (hJ9.le (by omega)) (I3.x.trans (Same.ext (s4'.trans s6') p)) nVp
              obtain ⟨j, hj⟩ := List.mem_iff_getElem?.mp hh
              have hjl := (List.getElem?_eq_some_iff.mp hj).1
              obtain ⟨_, _, _, q3, _⟩ := I3.kl.row j (by omega)
              have ej : cs.getD j [] = h := by rw [List.getD_eq_getElem?_getD, hj]; rfl
              rw [ej] at q3
              omega
          · have hb : (!(List.map PyData.int (castL (someF hs n))).isEmpty) = true := by
              cases q : someF hs n with
              | nil => exact absurd q he
              | cons a l => rfl
            rw [hb]
            refine iteT ?_
            have hlen := someF_len hs n
            have hpos : 0 < (someF hs n).length := List.length_pos_iff.mpr he
            have I1 := I.same (same_new (o := .lst []) ht)
            have hle := I.le
            clear dS hb he I
            generalize upd G t (.lst []) = G1 at *
            refine ⟨_, fun σ' H' h => h, ?_⟩
            refine ⟨_, rfl, _, rfl, _, rfl, S1, _, rfl, .inl (SqL.of I1.some_), ?_⟩
            rw [List.length_map]
            refine ⟨p, ((someF hs n).length : Nat), N + 3 * (600 - μ), rfl, by omega, Nat.lt_of_le_of_lt (Nat.log2_le_self _) (by omega), by omega, I1.j, fun ff G2 f0 f1 hJ2 x2 => ?_⟩
            obtain ⟨fi, rfl⟩ : ∃ fi : Nat, ff = (fi : Int) := ⟨ff.toNat, by omega⟩
            have hfi : fi < (someF hs n).length := by omega
            obtain ⟨hfn, hf1⟩ := mem_someF.mp (List.getElem_mem hfi)
            refine ⟨S1, _, _, .int ((someF hs n)[fi] : Nat), rfl, rfl, SqL.of (x2 _ _ I1.some_ I1.sp), atI_nat (by rw [List.getElem?_map, List.getElem?_eq_getElem hfi]; rfl), ?_⟩
            generalize (someF hs n)[fi] = fl at *
            have hfl : fl < hs.length := by have := I1.len; omega
            have egf : hs.getD fl [] = hs[fl] := by rw [List.getD_eq_getElem?_getD, List.getElem?_eq_getElem hfl]; rfl
            rw [egf] at hf1
            have hgf : hs[fl]? = some hs[fl] := List.getElem?_eq_getElem hfl
            have hhm := I1.lt _ (List.getElem_mem hfl)
            have hhb := I1.big _ (List.getElem_mem hfl)
            have hLL2 := I1.ll.ext x2 nCp
            obtain ⟨bf, e1, hb1, nbC, nbp⟩ := hLL2.row fl (castL hs[fl]) (by rw [List.getElem?_map, hgf]; rfl)
            have hbH := fresh2 _ _ e1
            generalize hs[fl] = h at *
            refine ⟨_, rfl, _, rfl, C, w2, _, _, rfl, rfl, SqL.of hLL2.at_, atI_nat e1, .inl ⟨rfl, _, SqL.of hb1⟩, ?_⟩
            refine ⟨_, rfl, _, rfl, _, rfl, C, w2, _, _, rfl, rfl, SqL.of hLL2.at_, atI_nat e1, bf, _, rfl, .inl (SqL.of hb1), ?_⟩
            rw [cast_len]
            refine ⟨p, (h.length : Nat), N + 3 * (600 - μ) + 1, rfl, by omega, Nat.lt_of_le_of_lt (Nat.log2_le_self _) (by omega), by omega, hJ2, fun aa G3 a0 a1 hJ3 x3 => ?_⟩
            obtain ⟨ai, rfl⟩ : ∃ ai : Nat, aa = (ai : Int) := ⟨aa.toNat, by omega⟩
            have hai : ai < h.length := by omega
            have hb3 := x3 _ _ hb1 nbp
            refine ⟨bf, _, ai, ai, .int (h[ai] : Nat), rfl, rfl, hb3, by omega, by omega, (ixN_seq (ixN_of (by rw [cast_len]; exact hai))).1, cast_at hai, ?_⟩
            have x23 := x2.trans x3
            have xH3 : Ext p H G3 := I1.x.trans x23
            rw [cast_erase]
            have hLL4 := (hLL2.ext x3 nCp).put inj2 e1 (h.eraseIdx ai)
            have hK4 := (I1.kl.ext x23).up (o := .lst ((castL (h.eraseIdx ai)).map V.int)) e1
            have hc4 : upd G3 bf (.lst ((castL (h.eraseIdx ai)).map V.int)) Kc = some (.lst wc) := by
              rw [upd_ne (nK2 _ _ e1).symm]
              exact x23 _ _ I1.came nKp
            have hJ4 := hJ3.up (o := .lst ((castL (h.eraseIdx ai)).map V.int)) nbp.symm
            have xH4 := xH3.free (o := .lst ((castL (h.eraseIdx ai)).map V.int)) hbH
            have hb4 : upd G3 bf (.lst ((castL (h.eraseIdx ai)).map V.int)) bf = some (.lst ((castL (h.eraseIdx ai)).map V.int)) := upd_same
            have hm1 := fun x (hx : x ∈ h.eraseIdx ai) => hhm x (List.mem_of_mem_eraseIdx hx)
            have pm1 : h.Perm (h[ai] :: h.eraseIdx ai) := (erase_perm hai).symm
            have hha := hhm _ (List.getElem_mem hai)
            have hl1 : (h.eraseIdx ai).length = h.length - 1 := List.length_eraseIdx_of_lt hai
            generalize upd G3 bf (.lst ((castL (h.eraseIdx ai)).map V.int)) = G4 at *
            generalize h[ai] = a at *
            generalize h.eraseIdx ai = h1 at *
            refine ⟨_, rfl, _, rfl, C, w2, _, _, rfl, rfl, SqL.of hLL4.at_, atI_nat e1, .inl ⟨rfl, _, SqL.of hb4⟩, ?_⟩
            refine ⟨_, rfl, _, rfl, _, rfl, C, w2, _, _, rfl, rfl, SqL.of hLL4.at_, atI_nat e1, bf, _, rfl, .inl (SqL.of hb4), ?_⟩
            rw [cast_len]
            refine ⟨p, (h1.length : Nat), N + 3 * (600 - μ) + 1 + 1, rfl, by omega, Nat.lt_of_le_of_lt (Nat.log2_le_self _) (by omega), by omega, hJ4, fun bb G5 b0 b1 hJ5 x5 => ?_⟩
            obtain ⟨bi, rfl⟩ : ∃ bi : Nat, bb = (bi : Int) := ⟨bb.toNat, by omega⟩
            have hbi : bi < h1.length := by omega
            have hb5 := x5 _ _ hb4 nbp
            refine ⟨bf, _, bi, bi, .int (h1[bi] : Nat), rfl, rfl, hb5, by omega, by omega, (ixN_seq (ixN_of (by rw [cast_len]; exact hbi))).1, cast_at hbi, ?_⟩
            rw [cast_erase]
            have hLL6 := (hLL4.ext x5 nCp).put inj2 e1 (h1.eraseIdx bi)
            have hK6 := (hK4.ext x5).up (o := .lst ((castL (h1.eraseIdx bi)).map V.int)) e1
            have hc6 : upd G5 bf (.lst ((castL (h1.eraseIdx bi)).map V.int)) Kc = some (.lst wc) := by
              rw [upd_ne (nK2 _ _ e1).symm]
              exact x5 _ _ hc4 nKp
            have hJ6 := hJ5.up (o := .lst ((castL (h1.eraseIdx bi)).map V.int)) nbp.symm
            have xH6 := (xH4.trans x5).free (o := .lst ((castL (h1.eraseIdx bi)).map V.int)) hbH
            have hb6 : upd G5 bf (.lst ((castL (h1.eraseIdx bi)).map V.int)) bf = some (.lst ((castL (h1.eraseIdx bi)).map V.int)) := upd_same
            have hm2 := fun x (hx : x ∈ h1.eraseIdx bi) => hm1 x (List.mem_of_mem_eraseIdx hx)
            have pm2 : h.Perm (a :: h1[bi] :: h1.eraseIdx bi) := pm1.trans (List.Perm.cons _ (erase_perm hbi).symm)
            have hhb' := hm1 _ (List.getElem_mem hbi)
            have hl2 : (h1.eraseIdx bi).length = h1.length - 1 := List.length_eraseIdx_of_lt hbi
            generalize upd G5 bf (.lst ((castL (h1.eraseIdx bi)).map V.int)) = G6 at *
            generalize h1[bi] = b at *
            generalize h1.eraseIdx bi = h2 at *
            rw [List.set_set] at hLL6
            obtain ⟨ah', af, hs', t0, t1, eah, g1, g2, g3, hF⟩ := floor_at (hD.ext xH6) hN hfn
            cases eah
            obtain ⟨ss0, r0, y0, p1, p2, p3, p4, p5⟩ := hF.s _ _ hha hhb'
            obtain ⟨ss1, r1, y1, q1, q2, q3, q4, q5⟩ := hF.u _ _ hha hhb'
            refine ⟨_, rfl, _, rfl, C, w2, _, _, rfl, rfl, SqL.of hLL6.at_, atI_nat e1, .inl ⟨rfl, _, SqL.of hb6⟩, ?_⟩
            refine ⟨_, rfl, _, rfl, ah, hs', _, _, rfl, rfl, SqT.of g1, atI_nat g3, af, _, 0, _, rfl, rfl, SqT.of hF.at_, rfl, _, rfl, t0, ss0, _, _, rfl, rfl, SqT.of p1, atI_nat p2, _, rfl, r0, y0, _, _, rfl, rfl, SqT.of p3, atI_nat p4, ?_⟩
            refine ⟨bf, _, _, rfl, rfl, hb6, by rw [cast_len]; exact Nat.lt_of_le_of_lt (show h2.length ≤ 660 by omega) (by rw [sizeLine_eq]; omega), ?_⟩
            rw [cast_snoc]
            have hLL7 := hLL6.put inj2 e1 (h2 ++ [goN fs 0 fl a b])
            rw [List.set_set] at hLL7
            have hK7 := hK6.up (o := .lst ((castL (h2 ++ [goN fs 0 fl a b])).map V.int)) e1
            have hc7 : upd G6 bf (.lst ((castL (h2 ++ [goN fs 0 fl a b])).map V.int)) Kc = some (.lst wc) := by
              rw [upd_ne (nK2 _ _ e1).symm]
              exact hc6
            have hJ7 := hJ6.up (o := .lst ((castL (h2 ++ [goN fs 0 fl a b])).map V.int)) nbp.symm
            have xH7 := xH6.free (o := .lst ((castL (h2 ++ [goN fs 0 fl a b])).map V.int)) hbH
            clear ss0 r0 y0 p1 p2 p3 p4 ss1 r1 y1 q1 q2 q3 q4 hF g1 g2 g3 hb6 hb5 hb4 hb3 hb1 hK6 hc6 hLL6 hLL4 hLL2 hK4 hc4 hJ2 hJ3 hJ4 hJ5 hJ6 xH3 xH4 xH6 x23 x2 x3 x5 pm1 hm1
            generalize upd G6 bf (.lst ((castL (h2 ++ [goN fs 0 fl a b])).map V.int)) = G7 at *
            obtain ⟨ah', af', hs7, t0', t1', eah, g1, g2, g3, hF⟩ := floor_at (hD.ext xH7) hN hfn
            cases eah
            obtain ⟨ss1, r1, y1, q1, q2, q3, q4, q5'⟩ := hF.u _ _ hha hhb'
            have hsl := I1.len
            have hul : fl + 1 < hs.length := by omega
            have hgu : hs[fl + 1]? = some hs[fl + 1] := List.getElem?_eq_getElem hul
            have hum := I1.lt _ (List.getElem_mem hul)
            have hub := I1.big _ (List.getElem_mem hul)
            generalize hs[fl + 1] = u at *
            have hgu' : (hs.set fl (h2 ++ [goN fs 0 fl a b]))[fl + 1]? = some u := by rw [List.getElem?_set_ne (by omega)]; exact hgu
            obtain ⟨bu, eu, hbu, nbuC, nbup⟩ := row_bf hLL7 hgu'
            have hbuH := fresh2 _ _ eu
            refine ⟨_, rfl, _, rfl, _, _, rfl, rfl, C, w2, _, _, rfl, rfl, SqL.of hLL7.at_, atI_nat (j := fl + 1) eu, .inl ⟨rfl, _, SqL.of hbu⟩, ?_⟩
            refine ⟨_, rfl, _, rfl, ah, hs7, _, _, rfl, rfl, SqT.of g1, atI_nat g3, af', _, 1, _, rfl, rfl, SqT.of hF.at_, rfl, _, rfl, t1', ss1, _, _, rfl, rfl, SqT.of q1, atI_nat q2, _, rfl, r1, y1, _, _, rfl, rfl, SqT.of q3, atI_nat q4, ?_⟩
            refine ⟨bu, _, _, rfl, rfl, hbu, by rw [cast_len]; exact Nat.lt_of_le_of_lt (show u.length ≤ 660 by omega) (by rw [sizeLine_eq]; omega), ?_⟩
            rw [cast_snoc]
            have hLL8 := hLL7.put inj2 eu (u ++ [goN fs 1 fl a b])
            have hK8 := hK7.up (o := .lst ((castL (u ++ [goN fs 1 fl a b])).map V.int)) eu
            have hc8 : upd G7 bu (.lst ((castL (u ++ [goN fs 1 fl a b])).map V.int)) Kc = some (.lst wc) := by
              rw [upd_ne (nK2 _ _ eu).symm]
              exact hc7
            have hJ8 := hJ7.up (o := .lst ((castL (u ++ [goN fs 1 fl a b])).map V.int)) nbup.symm
            have xH8 := xH7.free (o := .lst ((castL (u ++ [goN fs 1 fl a b])).map V.int)) hbuH
            clear ss1 r1 y1 q1 q2 q3 q4 hF g1 g2 g3 hbu hK7 hc7 hLL7 hJ7 xH7
            generalize upd G7 bu (.lst ((castL (u ++ [goN fs 1 fl a b])).map V.int)) = G8 at *
            obtain ⟨ah', af', hs7, t0', t1', eah, g1, g2, g3, hF⟩ := floor_at (hD.ext xH8) hN hfn
            cases eah
            obtain ⟨ss1, r1, y1, q1, q2, q3, q4, q6'⟩ := hF.u _ _ hha hhb'
            obtain ⟨bc, ec, hbc, hxs, nbcp, nbcC, nbcK, hbcH, nbcw⟩ := hK8.row (fl + 1) (by omega)
            refine ⟨_, rfl, _, rfl, _, _, rfl, rfl, Kc, wc, _, _, rfl, rfl, SqL.of hc8, atI_nat (j := fl + 1) ec, .inl ⟨rfl, _, SqL.of hbc⟩, ?_⟩
            refine ⟨_, rfl, _, rfl, ah, hs7, _, _, rfl, rfl, SqT.of g1, atI_nat g3, af', _, 1, _, rfl, rfl, SqT.of hF.at_, rfl, _, rfl, t1', ss1, _, _, rfl, rfl, SqT.of q1, atI_nat q2, _, rfl, r1, y1, _, _, rfl, rfl, SqT.of q3, atI_nat q4, ?_⟩
            refine ⟨bc, _, _, rfl, rfl, hbc, by rw [cast_len]; exact Nat.lt_of_le_of_lt (show (cs.getD (fl + 1) []).length ≤ 660 by omega) (by rw [sizeLine_eq]; omega), ?_⟩
            rw [cast_snoc]
            have hcv : cs[fl + 1]? = some (cs.getD (fl + 1) []) := by
              have : fl + 1 < cs.length := by rw [hK8.len]; omega
              rw [List.getD_eq_getElem?_getD, List.getElem?_eq_getElem this]
              rfl
            have hci := I1.ci.step (out := out) hfn hsl hgf hgu pm2 hha hhb' hcv
            have hLL9 := hLL8.up (o := .lst ((castL (cs.getD (fl + 1) [] ++ [goN fs 1 fl a b])).map V.int)) nbcC nbcw
            have hK9 := hK8.add (a := goN fs 1 fl a b) ec
            have hc9 : upd G8 bc (.lst ((castL (cs.getD (fl + 1) [] ++ [goN fs 1 fl a b])).map V.int)) Kc = some (.lst wc) := by
              rw [upd_ne nbcK.symm]
              exact hc8
            have hJ9 := hJ8.up (o := .lst ((castL (cs.getD (fl + 1) [] ++ [goN fs 1 fl a b])).map V.int)) nbcp.symm
            have xH9 := xH8.free (o := .lst ((castL (cs.getD (fl + 1) [] ++ [goN fs 1 fl a b])).map V.int)) hbcH
            clear ss1 r1 y1 q1 q2 q3 q4 hF g1 g2 g3 hbc hK8 hc8 hLL8 hJ8 xH8
            generalize upd G8 bc (.lst ((castL (cs.getD (fl + 1) [] ++ [goN fs 1 fl a b])).map V.int)) = G9 at *
            generalize cs.set (fl + 1) (cs.getD (fl + 1) [] ++ [goN fs 1 fl a b]) = cs3 at *
            have hst := FmC.hs_step (out := out) (S := goN fs 0) (U := goN fs 1) hfn hsl hgf hgu pm2 hha hhb'
            have hlt : ∀ z ∈ (hs.set fl (h2 ++ [goN fs 0 fl a b])).set (fl + 1) (u ++ [goN fs 1 fl a b]), (∀ x ∈ z, x < m) ∧ z.length ≤ 660 - μ + 1 := fun z hz => by
              rcases List.mem_or_eq_of_mem_set hz with hz | rfl
              · rcases List.mem_or_eq_of_mem_set hz with hz | rfl
                · exact ⟨I1.lt z hz, Nat.le_succ_of_le (I1.big z hz)⟩
                · refine ⟨fun x hx => ?_, by rw [List.length_append]; show _ + 1 ≤ _; omega⟩
                  rcases List.mem_append.mp hx with hx | hx
                  · exact hm2 x hx
                  · rw [List.mem_singleton.mp hx]
                    exact p5
              · refine ⟨fun x hx => ?_, by rw [List.length_append]; show _ + 1 ≤ _; omega⟩
                rcases List.mem_append.mp hx with hx | hx
                · exact hum x hx
                · rw [List.mem_singleton.mp hx]
                  exact q5'
            have hl3 : ((hs.set fl (h2 ++ [goN fs 0 fl a b])).set (fl + 1) (u ++ [goN fs 1 fl a b])).length = n + 1 := by rw [List.length_set, List.length_set]; exact hsl
            have htall := FmC.step_tall B.tables hst
            have hrun := I1.run.trans (.one hst)
            generalize (hs.set fl (h2 ++ [goN fs 0 fl a b])).set (fl + 1) (u ++ [goN fs 1 fl a b]) = hs3 at *
            rw [I1.tall] at htall
            generalize eμ : FmC.tall n m (FmC.hsSt n hs3 out) = μ3 at *
            obtain ⟨hs8, hah8, hhn8⟩ : ∃ hs8 : List V, G9 ah = some (.tup hs8) ∧ hs8.length = n := ⟨hsv, xH9 _ _ hah nah, hhn⟩
            refine ⟨_, rfl, ah, hs8, rfl, .inr (SqT.of hah8), ?_⟩
            rw [hhn8]
            refine ⟨_, rfl, by omega, by omega, ?_⟩
            rw [Int.toNat_natCast]
            refine fun S2 hS2 => ?_
            refine lI walk_range (fun i G => Same G9 G ∧ G S2 = some (.lst ((someF hs3 i).map fun k : Nat => V.int (k : Nat)))) ⟨same_new hS2, upd_same⟩ (fun _ _ _ _ => True.intro) ?_ ?_
            · rintro i x _ G hi ⟨sG, hSG⟩ ⟨rfl, rfl⟩
              have hil : i < hs3.length := by omega
              have hgi : hs3[i]? = some hs3[i] := List.getElem?_eq_getElem hil
              have hgd : hs3.getD i [] = hs3[i] := by rw [List.getD_eq_getElem?_getD, hgi]; rfl
              obtain ⟨b', e1', hb', _, _⟩ := row_bf hLL9 hgi
              have hsl' : (someF hs3 i).length ≤ 4 := Nat.le_trans (someF_len hs3 i) (by omega)
              walk_at "op"
              refine ⟨rfl, ?_⟩
              rw [Int.zero_add]
              refine ⟨_, rfl, _, rfl, C, w2, _, _, rfl, rfl, SqL.of (sG _ _ hLL9.at_), atI_nat e1', b', _, rfl, .inl (SqL.of (sG _ _ hb')), _, 1, rfl, rfl, _, rfl, ?_⟩
              rw [cast_len, someF_snoc, hgd]
              refine ite2 (fun c0 => ?_) (fun c0 => ?_)
              · have c1 : 1 < hs3[i].length := by have := of_decide_eq_true c0; omega
                refine ⟨_, rfl, _, hSG, by rw [List.length_map]; exact Nat.lt_of_le_of_lt hsl' (by rw [sizeLine_eq]; omega), sameOff sG hS2, ?_⟩
                rw [upd_same, if_pos c1, List.map_append]
                rfl
              · have c1 : ¬ 1 < hs3[i].length := fun z => c0 (decide_eq_true (by omega))
                refine ⟨sG, ?_⟩
                rw [if_neg c1, List.append_nil]
                exact hSG
            · rintro G10 ⟨s10, hS10⟩
              exact ⟨μ3, by omega, hs3, cs3, S2, _, _, _, rfl, ⟨xH9.trans (Same.ext s10 p), (hJ9.same s10).le (by omega), hLL9.same s10, hl3, fun z hz => (hlt z hz).1, fun z hz => Nat.le_trans (hlt z hz).2 (by omega), s10 _ _ hc9, (hK9.ext (Same.ext s10 p)).mono (by omega), hS10, (hJ9.ne hS2).symm, eμ, by omega, hrun, hci⟩⟩
end
end Fm
end FALU
section FCMG
set_option Elab.async false
set_option linter.all false
set_option maxRecDepth 100000
set_option maxHeartbeats 4000000
local macro_rules | `(tactic| walk_at "ne") => `(tactic| first | assumption | (apply Ne.symm; assumption) | exact L2.ne_of_none (by assumption) (by assumption) | exact Ne.symm (L2.ne_of_none (by assumption) (by assumption)))
local macro_rules | `(tactic| walk_at "hl") => `(tactic| first | assumption | exact L2.upd_same | (refine Eq.trans (L2.upd_ne (by walk_at "ne")) ?_; walk_at "hl"))
local macro_rules | `(tactic| walk_at "sd") => `(tactic| first | (with_reducible show (_ : Int) < _; omega) | (with_reducible show (_ : Int) ≤ _; omega) | assumption | decide | exact ⟨by assumption, by assumption⟩ | exact ⟨by decide, by decide⟩ | exact Or.inr ⟨by decide, by decide⟩ | exact Or.inl ⟨by omega, by omega⟩ | rfl)
local macro_rules | `(tactic| walk_at "st1") => `(tactic| first
  | refine ⟨_, rfl, ?_⟩
  | refine ⟨_, _, rfl, rfl, ?_⟩
  | refine ⟨_, _, rfl, ?_⟩
  | (refine ⟨_, _, _, _, rfl, rfl, L2.SqL.of (by walk_at "hl"), rfl, ?_⟩)
  | (refine ⟨_, _, _, _, rfl, rfl, L2.SqT.of (by walk_at "hl"), rfl, ?_⟩)
  | (refine ⟨_, _, _, _, rfl, rfl, (by walk_at "hl"), rfl, ?_⟩)
  | (refine And.intro (by walk_at "sd") ?_)
  )
local macro_rules | `(tactic| walk_at "st") => `(tactic| repeat walk_at "st1")
local macro_rules | `(tactic| walk_at "op") => `(tactic| try dsimp only [L2.tSeq, L2.tAsg, L2.tOp, L2.tVar, L2.tC, L2.gSub, L2.rI, L2.rI0, L2.rIxL, L2.rIxT, L2.rSetL, L2.tIfS, L2.tTest, L2.tRet, L2.gName, L2.tNext, L2.tAnd, L2.tOr, L2.tNot, L2.tAndV, L2.tOrV, L2.tNotV, L2.tB, L2.tCB, L2.tCons, L2.tNil, L2.tCall, L2.tTup, L2.tLst, L2.tChain, L2.tUn, L2.tPar, L2.tDrop, L2.tIf, L2.tBM, L2.tBM0, L2.rAppend, L2.rCat, L2.rIsi, L2.rIsiT, L2.gTup, L2.gCons, L2.gNil, Fm.tFor_eq, Fm.tLc_eq, Fm.tLc2_eq, L2.iTup, L2.iList, L2.iRng1, L2.iRng2, L2.tSl, L2.tPart, L2.tNoPart, L2.rSlL, L2.rEq, L2.rNe, L2.rU, L2.rEqD, L2.rNeD, Fm.tRevT, Fm.rLenS, Fm.rTupOf, Fm.rLstOf, L2.tDNewK, L2.tCallS, L2.WE, Fm.wKeep, Fm.rIsK, Fm.rIsKT, List.cons_append, List.nil_append, L2.tYes])
namespace Fm
open PySem PySem.Spec PyProof.Rows L2
abbrev s_comings : Stmt := top 38
abbrev N_comings : List Str := ["house", "standing", "told", "rising", "tables", "counts", "here", "many", "more"]
theorem sc_comings : FnScope N_comings ["house", "standing"] (defScope s_comings) := ⟨rfl, rfl, rfl, by decide +kernel, rfl, by decide +kernel, by decide +kernel⟩
section
variable {P : Program} {w : World} {K : PySem.W.Frag} {mg : Str → Option Value} {base : Heap}
/-! ### who comes where, as the program tells it -/
theorem zero_lenF (m : Nat) : (List.replicate m (0 : Int)).length = m ∧ FmC.NN (List.replicate m (0 : Int)) := FmC.zero_len m
def spComings : Sp := fun vs H Q _ => ∃ (hv sv : V) (p ph : Addr) (u : HO) (fs : List PyData) (m n : Nat) (rows : List (List Int)) (out : Int), vs = [hv, sv] ∧ H p = some u ∧ Dat H ph hv (.tuple fs) ∧ HouseN m n (.tuple fs) ∧ FairH fs m n ∧ SureH fs m n ∧ Dat H p sv (stD rows out) ∧ rows.length = n ∧ StOk m rows out ∧ (∀ r ∈ rows, r.sum < 10 ^ 36) ∧
  ∀ (L : Addr) (ws : List V) (told : List (List Int)) H', FmC.ComOf m n (goN fs 0) (goN fs 1) rows told → H L = none → LL H' p L ws told → Inj ws → Fresh H ws → L ≠ p → Same H H' → Q (.ref L) H'
theorem ok_comings (D : Df K mg "comings" s_comings ["house", "standing"]) (T : Nms mg) (c_check_sure : CallOk P w K mg base CX0 9 "check_sure" ["house"] spSureC) (c_check_standing : CallOk P w K mg base (L2.CX P w) 7 "check_standing" ["house", "standing"] spCheck)
    (c_meet_all : CallOk P w K mg base CX0 1 "meet_all" ["tables", "here"] spMeetAll) : CallOk P w K mg base CX0 10 "comings" ["house", "standing"] spComings := by
  refine df_ok D sc_comings (fun vs H Q E h => ?_) (fun f cdv A outer s H vs Q E hr h => ?_)
  · obtain ⟨hv, sv, p, ph, u, fs, m, n, rows, out, rfl, _⟩ := h
    rfl
  · obtain ⟨hv, sv, p, ph, u, fs, m, n, rows, out, rfl, hp, hD, hN, hT, hSu, sD, hl, ok, hbig, k⟩ := h
    have nd := sc_comings.nd
    have hmn : 1 ≤ n ∧ n ≤ 4 ∧ 1 ≤ m ∧ m ≤ 6 := by
      obtain ⟨_, _, _, z1, z2, z3, z4, _⟩ := hN
      exact ⟨z1, z2, z3, z4⟩
    have B := tabs_of hN (goLt_of hD hN)
    obtain ⟨sa, xs, rfl, hsa, nsp, hx⟩ := st_parts sD
    refine ⟨_, (pss_cons (ps_expr (pe_cc c_check_sure (hr.mono (by omega)) (pa_cons (pv 0) pa_nil)))
      (pss_cons (ps_expr (pe_cx c_check_standing (hr.mono (by omega)) (pa_cons (pv 0) (pa_cons (pv 1) pa_nil))))
      (pss_cons (ps_set (i := 2) nd rfl (Or.inl rfl) (pe_lst pa_nil))
      (pss_cons (ps_set (i := 3) nd rfl (Or.inl rfl) (pe_op op_rep (pe_lst (pa_cons pe_int pa_nil)) (pe_callB (r := rLenS K) call_lenS (by rfl) T.n_len (by decide +kernel) (pa_cons (pe_ix (r := rIxT K) ix_tup (pv 1) pe_int (fun _ _ => rfl)) pa_nil))))
      (pss_cons (ps_for PassesOwn.never rfl (RZ.pi_zipA (by rfl) T.n_zip (pa_cons (pv 0) (pa_cons (pe_slice (r := rSlA K) sl_tupA (pv 1) po_none (po_some (pe_un un_neg pe_int))) pa_nil))) (pg_tup rfl (pgs_cons (pg_name (i := 4) nd rfl (Or.inl rfl)) (pgs_cons (pg_name (i := 5) nd rfl (Or.inl rfl)) pgs_nil))) (pss_cons (ps_setLc (i := 6) (own := [("many", 7), ("more", 8)]) (g := (gTup K 2 (gCons (gName 7) (gCons (gName 8) gNil)))) (tt := tYes) (by rfl) nd rfl rfl (sw_true rfl rfl rfl (by decide +kernel)) (pi_zipTM (by rfl) T.n_zip (pa_cons (pv 5) (pa_cons (pv 3) pa_nil))) (blkOk_by (own := [("many", 7), ("more", 8)]) (N := N_comings) (sc := defScope s_comings) (by decide +kernel)) (fun _ _ _ _ _ => (pg_tup rfl (pgs_cons (pg_name (i := 7) nd rfl (Or.inl rfl)) (pgs_cons (pg_name (i := 8) nd rfl (Or.inl rfl)) pgs_nil)))) (fun _ _ _ _ _ => pts_nil) (fun _ _ _ _ _ => (pe_op op_add (pv 7) (pv 8))))
      (pss_cons (ps_expr (pe_bm PySem.F.plainAttrs_list PySem.F.slot_list_append PySem.F.type_list_append mt_append (pv 2) (pa_cons (pe_callTy (r := rLstOf K) call_lstOf (by rfl) T.n_list (by decide +kernel) (pa_cons (pv 6) pa_nil)) pa_nil)))
      (pss_one (ps_set (i := 3) nd rfl (Or.inl rfl) (pe_cc c_meet_all (hr.mono (by omega)) (pa_cons (pv 4) (pa_cons (pv 6) pa_nil))))))))
      (pss_one (ps_ret (pv 2)))))))), ?_⟩
    walk_at "op"
    refine ⟨_, rfl, hv, p, ph, u, fs, m, n, rfl, hp, hD, hN, hT, hSu, fun G0 s0 => ?_⟩
    refine ⟨_, rfl, _, rfl, hv, .ref sa, ph, p, .tuple fs, m, n, rows, out, rfl, hD.same s0, hN, sD.same s0, hl, ok, fun G1 s1 => ?_⟩
    have s01 := s0.trans s1
    obtain ⟨ah, hs, rfl, hah, _, hh⟩ := id hD.isTup
    have hhl : hs.length = n := by
      rw [hh.1]
      obtain ⟨_, e, z, _⟩ := hN
      cases e
      exact z
    have hxl : xs.length = n := by rw [hx.1, List.length_map, hl]
    have hr0 : rows[0]? = some (rows[0]'(by omega)) := List.getElem?_eq_getElem _
    obtain ⟨x0, hx0, hdx0⟩ := hx.back (i := 0) (d := rowD (rows[0]'(by omega))) (by rw [List.getElem?_map, hr0]; rfl)
    obtain ⟨c0, rfl, hc0, _⟩ := row_parts hdx0
    have hl0 : (rows[0]'(by omega)).length = m := ok.len _ (List.getElem_mem _)
    refine ⟨Nat.zero_le _, fun R0 hR0 => ⟨by show 1 ≤ sizeLine; decide, fun z0 hz0 => ?_⟩⟩
    have s2 : Same G1 (upd (upd G1 R0 (.lst [])) z0 (.lst [V.int 0])) := (same_new hR0).trans (same_new hz0)
    have s02 := s01.trans s2
    have hR0H := sameFree s01 hR0
    have nR0z : R0 ≠ z0 := ne_of_none upd_same hz0
    refine ⟨_, rfl, sa, xs ++ [.int out], 0, .ref c0, rfl, rfl, SqT.of (s02 _ _ hsa), atI_nat (j := 0) (by rw [List.getElem?_append_left (by omega)]; exact hx0), c0, _, rfl, .inr (SqT.of (s02 _ _ hc0)), z0, _, _, rfl, rfl, upd_same, by omega, by rw [List.length_map, hl0]; omega, by rw [sizeLine_eq, List.length_map, hl0]; show 1 * _ ≤ _; omega, fun R1 hR1 => ?_⟩
    rw [List.length_map, hl0, rep_zero]
    have nR01 : R0 ≠ R1 := ne_of_none (by rw [upd_ne nR0z]; exact upd_same) hR1
    have s3 := s02.trans (same_new (o := .lst ((List.replicate m (0 : Int)).map V.int)) hR1)
    have hRR0 : upd (upd (upd G1 R0 (.lst [])) z0 (.lst [V.int 0])) R1 (.lst ((List.replicate m (0 : Int)).map V.int)) R0 = some (.lst []) := by rw [upd_ne nR01, upd_ne nR0z]; exact upd_same
    have hRR1 : upd (upd (upd G1 R0 (.lst [])) z0 (.lst [V.int 0])) R1 (.lst ((List.replicate m (0 : Int)).map V.int)) R1 = some (.lst ((List.replicate m (0 : Int)).map V.int)) := upd_same
    generalize upd (upd (upd G1 R0 (.lst [])) z0 (.lst [V.int 0])) R1 (.lst ((List.replicate m (0 : Int)).map V.int)) = G2 at *
    walk_at "op"
    walk_at "st"
    refine sl_init (SqT.of (s3 _ _ hsa)) fun q hq => ?_
    have sq := same_new (o := .tup xs) hq
    have nqR0 : q ≠ R0 := (ne_of_none hRR0 hq).symm
    have hqH := sameFree s3 hq
    have s4 := s3.trans sq
    have hqq : upd G2 q (.tup xs) q = some (.tup xs) := upd_same
    have hRR0 := sq _ _ hRR0
    have hRR1 := sq _ _ hRR1
    generalize upd G2 q (.tup xs) = G3 at *
    refine ⟨ah, q, hs, xs, rfl, .inr ⟨SqT.of (s4 _ _ hah), SqT.of hqq, ?_⟩⟩
    have z0 : ∀ k, (List.replicate k (0 : Int)).sum = 0 := fun k => by
      induction k with
      | zero => rfl
      | succ k ih => rw [List.replicate_succ, List.sum_cons, ih]; rfl
    have hR0z := (zero_lenF m)
    refine fI (walk_zipT (by rw [hhl, hxl])) (fun i σ G => ∃ (u4 u5 u6 : Option V) (Rr : Addr) (tws : List V) (told : List (List Int)) (R C : Nat → List Int), σ = [some (.ref ah), some (.ref sa), some (.ref R0), some (.ref Rr), u4, u5, u6, none, none] ∧ Same H G ∧ G q = some (.tup xs) ∧ LL G p R0 tws told ∧ Inj tws ∧ Fresh H tws ∧ told.length = i ∧ G Rr = some (.lst ((R i).map V.int)) ∧ Rr ≠ R0 ∧ (∀ j : Nat, tws[j]? ≠ some (V.ref Rr)) ∧ (R i).length = m ∧ FmC.NN (R i) ∧ (R i).sum ≤ i * 10 ^ 36 ∧
        R 0 = List.replicate m 0 ∧ ∀ f, f < i → told[f]? = some (FmC.addR (rows.getD f []) (R f)) ∧ (C f).length = m ∧ FmC.NN (C f) ∧ (C f).sum ≤ 1 ∧ (R (f + 1)).length = m ∧ FmC.NN (R (f + 1)) ∧ FmC.RunA m (goN fs 0) (goN fs 1) f (FmC.pairS (FmC.cnt (FmC.addR (rows.getD f []) (R f))) fun _ => 0) (FmC.pairS (FmC.cnt (C f)) (FmC.cnt (R (f + 1)))))
      ⟨none, none, none, R1, [], [], fun _ => List.replicate m 0, fun _ => [], rfl, s4, hqq, LL.nil hRR0, fun i1 i2 b e => (by cases e), fun i b e => (by cases e), rfl, hRR1, nR01.symm, fun j e => (by cases e), List.length_replicate, fun x hx => by rw [List.eq_of_mem_replicate hx]; exact Int.le_refl _, by rw [z0]; omega, rfl, fun f hf => absurd hf (Nat.not_lt_zero f)⟩
      (fun i σ G _ ⟨_, _, _, _, _, _, _, _, _, e, e2, _⟩ => ⟨SqT.of (e _ _ hah), SqT.of e2⟩) ?_ ?_
    · rintro i x σ G4 _ hi ⟨u4, u5, u6, Rr, tws, told, Rs, Cs, rfl, sH, hq4, hLL4, inj4, fresh4, htl, hRr, nRr, nRt, hrl, hrn, hrs, hR00, hall⟩ ⟨T1, y1, y2, rfl, hT1, rfl, g1, g2⟩
      dsimp only at g1 g2
      rw [hhl] at hi
      obtain ⟨ah', af, hs', t0, t1, e', gg1, gg2, gg3, hF⟩ := floor_at hD hN hi
      cases e'
      rw [hah] at gg1
      cases gg1
      rw [gg3] at g1
      cases g1
      obtain ⟨ss, hss, hsl⟩ := stay_len hD hN hi hah gg3 hF
      have hri : rows[i]? = some (rows[i]'(by omega)) := List.getElem?_eq_getElem _
      obtain ⟨d, hd1, hd2⟩ := hx.at g2
      rw [List.getElem?_map, hri] at hd1
      cases hd1
      obtain ⟨cb, rfl, hcb, _⟩ := row_parts hd2
      have hcm : rows[i]'(by omega) ∈ rows := List.getElem_mem _
      have hcl := ok.len _ hcm
      have hcn : FmC.NN (rows[i]'(by omega)) := ok.pos _ hcm
      have hcs := hbig _ hcm
      have hgd : rows.getD i [] = rows[i]'(by omega) := by rw [List.getD_eq_getElem?_getD, hri]; rfl
      generalize rows[i]'(by omega) = c at *
      generalize hRsi : Rs i = r at *
      have sT := same_new (o := .tup [V.ref af, .ref cb]) hT1
      refine ⟨T1, _, rfl, SqT.of upd_same, rfl, _, _, rfl, _, _, rfl, rfl, ?_⟩
      have sHT := sH.trans sT
      have hq5 := sT _ _ hq4
      have hRr5 := sT _ _ hRr
      have hLL5 := hLL4.same sT
      generalize upd G4 T1 (.tup [V.ref af, .ref cb]) = G5 at *
      have hlen : (c.map V.int).length = (r.map V.int).length := by rw [List.length_map, List.length_map, hcl, hrl]
      have hal := FmC.addR_len hcl hrl
      walk_at "op"
      refine ⟨_, rfl, _, rfl, cb, Rr, c.map V.int, r.map V.int, rfl, SqT.of (sHT _ _ hcb), SqL.of hRr5, fun Hr hHr => ?_⟩
      refine lI (walk_zipTM hlen) (fun j G6 => Same G5 G6 ∧ G6 Hr = some (.lst (((FmC.addR c r).take j).map V.int))) ⟨same_new hHr, upd_same⟩ (fun j G6 _ ⟨e, _⟩ => ⟨SqT.of (e _ _ (sHT _ _ hcb)), SqL.of (e _ _ hRr5)⟩) ?_ ?_
      · rintro j x G6 _ hj ⟨s6, hH6⟩ ⟨T2, w1, w2, rfl, hT2, rfl, k1, k2⟩
        dsimp only at k1 k2
        have hjc : j < c.length := by rw [List.length_map] at hj; exact hj
        rw [getD_at hjc] at k1
        cases k1
        rw [getD_at (by omega)] at k2
        cases k2
        have nHT : Hr ≠ T2 := ne_of_none hH6 hT2
        have hga : (FmC.addR c r)[j]? = some (c.getD j 0 + r.getD j 0) := by
          have := FmC.addR_get (by omega : c.length = r.length) j
          rw [← this, List.getD_eq_getElem?_getD, List.getElem?_eq_getElem (by omega)]
          rfl
        walk_at "op"
        refine ⟨T2, _, rfl, SqT.of upd_same, rfl, _, _, rfl, _, _, rfl, rfl, ?_⟩
        refine ⟨rfl, ?_⟩
        refine iteT ?_
        refine ⟨_, rfl, _, rfl, _, _, rfl, rfl, _, by rw [upd_ne nHT]; exact hH6, by rw [List.length_map, List.length_take]; exact Nat.lt_of_le_of_lt (Nat.min_le_left _ _) (by rw [sizeLine_eq]; omega), sameOff (s6.trans (same_new hT2)) hHr, ?_⟩
        rw [upd_same, tk_snoc hga, List.map_append]
        rfl
      · rintro G6 ⟨s6, hH6⟩
        rw [List.length_map, hcl, ← hal, List.take_length] at hH6
        have sH6 := sHT.trans s6
        have hHrH := sameFree sHT hHr
        have hLL6 := hLL5.same s6
        have hR06 := hLL6.at_
        have hRr6 := s6 _ _ hRr5
        have nHR : Hr ≠ R0 := (ne_of_none hLL5.at_ hHr).symm
        have nqH : q ≠ Hr := ne_of_none hq5 hHr
        have nHt : ∀ (j : Nat) (b : Addr), tws[j]? = some (V.ref b) → b ≠ Hr := hLL5.off hHr
        walk_at "op"
        refine ⟨_, rfl, .inl ⟨rfl, _, SqL.of hR06⟩, ?_⟩
        refine ⟨_, rfl, Hr, _, rfl, .inl (SqL.of hH6), fun l hl => ?_⟩
        have sl := same_new (o := .lst ((FmC.addR c r).map V.int)) hl
        have hR07 := sl _ _ hR06
        have hlt : tws.length ≤ 4 := by
          rw [hLL4.len]
          omega
        have nlR : l ≠ R0 := (ne_of_none hR06 hl).symm
        have nlH : l ≠ Hr := (ne_of_none hH6 hl).symm
        have nlp : l ≠ p := pne_of hp sH6 hl
        have hlH := sameFree sH6 hl
        refine ⟨R0, tws, .ref l, rfl, rfl, hR07, Nat.lt_of_le_of_lt hlt (by rw [sizeLine_eq]; omega), ?_⟩
        have hLL8 := (hLL6.same sl).snoc (c := FmC.addR c r) upd_same nlR nlp
        have inj8 := inj4.snoc (hLL6.off hl)
        have fresh8 := fresh4.snoc hlH
        have sH8 : Same H (upd (upd G6 l (.lst ((FmC.addR c r).map V.int))) R0 (.lst (tws ++ [V.ref l]))) := sameOff (sH6.trans sl) hR0H
        have hH8 : upd (upd G6 l (.lst ((FmC.addR c r).map V.int))) R0 (.lst (tws ++ [V.ref l])) Hr = some (.lst ((FmC.addR c r).map V.int)) := by
          rw [upd_ne nHR]
          exact sl _ _ hH6
        have hq8 : upd (upd G6 l (.lst ((FmC.addR c r).map V.int))) R0 (.lst (tws ++ [V.ref l])) q = some (.tup xs) := by
          rw [upd_ne nqR0]
          exact sl _ _ (s6 _ _ hq5)
        clear hLL6 hR06 hR07
        generalize upd (upd G6 l (.lst ((FmC.addR c r).map V.int))) R0 (.lst (tws ++ [V.ref l])) = G8 at *
        have B2 : FmC.Tabs 2 m (fun _ => goN fs 0 i) (fun _ => goN fs 1 i) := ⟨B.pos, fun _ a b _ ha hb => B.sc i a b hi ha hb, fun _ a b _ ha hb => B.uc i a b hi ha hb, fun _ a b _ ha hb => B.sm i a b hi ha hb, fun _ a b _ ha hb => B.um i a b hi ha hb⟩
        try walk_at "op"
        refine ⟨_, rfl, _, rfl, af, t0, t1, Hr, ss, 2, m, 0, (fun _ => goN fs 0 i), (fun _ => goN fs 1 i), FmC.addR c r, rfl, hF.same sH8, sH8 _ _ hss, hsl, by decide, B2, hmn.2.2.2, hH8, hal, FmC.addR_nn hcn hrn, ?_, fun R' c' r' G9 M hc1 hR' hL9 hR9 x9 => ?_⟩
        · rw [FmC.addR_sum (by omega), e40]
          rw [e36] at hrs hcs
          omega
        · have nHt8 : ∀ (j : Nat) (b : Addr), (tws ++ [V.ref l])[j]? = some (V.ref b) → b ≠ Hr := fun j b e => by
            rcases snoc_get e with q | ⟨_, q⟩
            · exact nHt j b q
            · rw [q]
              exact nlH
          have sH9 : Same H G9 := fun b u eb => x9 b u (sH8 b u eb) (ne_of_none eb hHrH)
          have hLL9 : LL G9 p R0 (tws ++ [V.ref l]) (told ++ [FmC.addR c r]) := ⟨x9 _ _ hLL8.at_ nHR.symm, hLL8.len, fun j c e => by
            obtain ⟨b, e1, e2, e3, e4⟩ := hLL8.row j c e
            exact ⟨b, e1, x9 _ _ e2 (nHt8 j b e1), e3, e4⟩⟩
          have hq9 := x9 _ _ hq8 nqH
          have nR'0 : R' ≠ R0 := (ne_of_none hLL8.at_ hR').symm
          have hs := M.sum
          rw [FmC.addR_sum (by omega)] at hs
          have hc0 := M.cn.sum
          have al := FmC.meet_alone (fun a b ha hb => B.sm i a b hi ha hb) (fun a b ha hb => B.um i a b hi ha hb) hal (FmC.addR_nn hcn hrn) M
          refine ⟨_, _, _, R', tws ++ [.ref l], told ++ [FmC.addR c r], (fun k => if k = i + 1 then r' else Rs k), (fun k => if k = i then c' else Cs k), rfl, sH9, hq9, hLL9, inj8, fresh8, by rw [List.length_append, htl]; rfl, by dsimp only; rw [if_pos rfl]; exact hR9, nR'0, fun j e => ?_, by dsimp only; rw [if_pos rfl]; exact M.rl, by dsimp only; rw [if_pos rfl]; exact M.rn, ?_, by dsimp only; rw [if_neg (by omega)]; exact hR00, fun f hf => ?_⟩
          · obtain ⟨b', z1, z2, _⟩ := hLL8.row j _ (List.getElem?_eq_getElem (by rw [← hLL8.len]; exact (List.getElem?_eq_some_iff.mp e).1))
            rw [e] at z1
            cases z1
            rw [hR'] at z2
            cases z2
          · dsimp only
            rw [if_pos rfl]
            rw [e36] at hrs hcs ⊢
            omega
          · dsimp only
            by_cases hfi : f = i
            · subst hfi
              rw [if_neg (by omega), if_pos rfl, if_pos rfl, hRsi, hgd, List.getElem?_append_right (by omega), htl, Nat.sub_self]
              exact ⟨rfl, M.cl, M.cn, hc1, M.rl, M.rn, al⟩
            · obtain ⟨a1, a2⟩ := hall f (by omega)
              rw [if_neg (by omega), if_neg hfi, if_neg (by omega), List.getElem?_append_left (by omega)]
              exact ⟨a1, a2⟩
    · rintro σ G4 ⟨u4, u5, u6, Rr, tws, told, Rs, Cs, rfl, sH, hq4, hLL4, inj4, fresh4, htl, hRr, nRr, nRt, hrl, hrn, hrs, hR00, hall⟩
      rw [hhl] at htl hall
      walk_at "op"
      exact ⟨_, rfl, k R0 tws told G4 ⟨htl, Rs, Cs, hR00, hall⟩ hR0H hLL4 inj4 fresh4 (pne_of hp (Same.refl H) hR0H) sH⟩
end
end Fm
end FCMG
section FPUSH
set_option Elab.async false
set_option linter.all false
set_option maxRecDepth 100000
set_option maxHeartbeats 4000000
local macro_rules | `(tactic| walk_at "ne") => `(tactic| first | assumption | (apply Ne.symm; assumption) | exact L2.ne_of_none (by assumption) (by assumption) | exact Ne.symm (L2.ne_of_none (by assumption) (by assumption)))
local macro_rules | `(tactic| walk_at "hl") => `(tactic| first | assumption | exact L2.upd_same | (refine Eq.trans (L2.upd_ne (by walk_at "ne")) ?_; walk_at "hl"))
local macro_rules | `(tactic| walk_at "sd") => `(tactic| first | (with_reducible show (_ : Int) < _; omega) | (with_reducible show (_ : Int) ≤ _; omega) | assumption | decide | exact ⟨by assumption, by assumption⟩ | exact ⟨by decide, by decide⟩ | exact Or.inr ⟨by decide, by decide⟩ | exact Or.inl ⟨by omega, by omega⟩ | rfl)
local macro_rules | `(tactic| walk_at "st1") => `(tactic| first
  | refine ⟨_, rfl, ?_⟩
  | refine ⟨_, _, rfl, rfl, ?_⟩
  | refine ⟨_, _, rfl, ?_⟩
  | (refine ⟨_, _, _, _, rfl, rfl, L2.SqL.of (by walk_at "hl"), rfl, ?_⟩)
  | (refine ⟨_, _, _, _, rfl, rfl, L2.SqT.of (by walk_at "hl"), rfl, ?_⟩)
  | (refine ⟨_, _, _, _, rfl, rfl, (by walk_at "hl"), rfl, ?_⟩)
  | (refine And.intro (by walk_at "sd") ?_)
  )
local macro_rules | `(tactic| walk_at "st") => `(tactic| repeat walk_at "st1")
local macro_rules | `(tactic| walk_at "op") => `(tactic| try dsimp only [L2.tSeq, L2.tAsg, L2.tOp, L2.tVar, L2.tC, L2.gSub, L2.rI, L2.rI0, L2.rIxL, L2.rIxT, L2.rSetL, L2.tIfS, L2.tTest, L2.tRet, L2.gName, L2.tNext, L2.tAnd, L2.tOr, L2.tNot, L2.tAndV, L2.tOrV, L2.tNotV, L2.tB, L2.tCB, L2.tCons, L2.tNil, L2.tCall, L2.tTup, L2.tLst, L2.tChain, L2.tUn, L2.tPar, L2.tDrop, L2.tIf, L2.tBM, L2.tBM0, L2.rAppend, L2.rCat, L2.rIsi, L2.rIsiT, L2.gTup, L2.gCons, L2.gNil, Fm.tFor_eq, Fm.tLc_eq, Fm.tLc2_eq, L2.iTup, L2.iList, L2.iRng1, L2.iRng2, L2.tSl, L2.tPart, L2.tNoPart, L2.rSlL, L2.rEq, L2.rNe, L2.rU, L2.rEqD, L2.rNeD, Fm.tRevT, Fm.rLenS, Fm.rTupOf, Fm.rLstOf, L2.tDNewK, L2.tCallS, L2.WE, Fm.wKeep, Fm.rIsK, Fm.rIsKT, List.cons_append, List.nil_append, L2.tYes])
namespace Fm
open PySem PySem.Spec PyProof.Rows L2
abbrev s_law_pushed : Stmt := top 55
abbrev N_law_pushed : List Str := ["pair_here", "here", "number", "many", "stay", "up", "m", "steps", "k", "there", "goes", "one", "more", "twice", "some"]
theorem sc_law_pushed : FnScope N_law_pushed ["pair_here", "here", "number", "many"] (defScope s_law_pushed) := ⟨rfl, rfl, rfl, by decide +kernel, rfl, by decide +kernel, by decide +kernel⟩
section
variable {P : Program} {w : World} {K : PySem.W.Frag} {mg : Str → Option Value} {base : Heap}
/-! ### so many of a number, one after another -/
/-- what c of the number do to each -/
def RowsP (G : Hp) (D : Addr) (m : Nat) (S U : Nat → Nat → Nat) (i c : Nat) (ws : List V) : Prop := ∀ t, t < ws.length → ∃ (T L : Addr) (d : Nat) (g : List Int), ws[t]? = some (.ref T) ∧ G T = some (.tup [.int (d : Nat), .ref L]) ∧ G L = some (.lst (g.map V.int)) ∧ L ≠ D ∧ g.length = m ∧ FmC.NN g ∧ FmC.Pushed m S U t i c d (FmC.cnt g)
theorem RowsP.same {G G' : Hp} {D : Addr} {m i c : Nat} {S U : Nat → Nat → Nat} {ws : List V} (h : RowsP G D m S U i c ws) (s : Same G G') : RowsP G' D m S U i c ws := fun t ht => by
  obtain ⟨T, L, d, g, h1, h2, h3, h4⟩ := h t ht
  exact ⟨T, L, d, g, h1, s _ _ h2, s _ _ h3, h4⟩
theorem RowsP.nil (G : Hp) (D : Addr) (m : Nat) (S U : Nat → Nat → Nat) (i c : Nat) : RowsP G D m S U i c [] := fun t ht => absurd ht (Nat.not_lt_zero t)
theorem RowsP.snoc {G : Hp} {D T L : Addr} {m i c d : Nat} {S U : Nat → Nat → Nat} {ws : List V} {g : List Int} (hD : G D = some (.lst ws)) (h : RowsP G D m S U i c ws) (h2 : G T = some (.tup [.int (d : Nat), .ref L])) (h3 : G L = some (.lst (g.map V.int))) (h4 : L ≠ D) (h5 : g.length = m) (h6 : FmC.NN g) (h7 : FmC.Pushed m S U ws.length i c d (FmC.cnt g)) :
    RowsP (upd G D (.lst (ws ++ [.ref T]))) D m S U i c (ws ++ [.ref T]) := fun t ht => by
  have off : ∀ {x : Addr} {xs : List V}, G x = some (.tup xs) → x ≠ D := fun {x xs} hx z => by
    rw [z, hD] at hx
    cases hx
  by_cases hj : t < ws.length
  · obtain ⟨T', L', d', g', k1, k2, k3, k4, k5⟩ := h t hj
    exact ⟨T', L', d', g', by rw [List.getElem?_append_left hj]; exact k1, by rw [upd_ne (off k2)]; exact k2, by rw [upd_ne k4]; exact k3, k4, k5⟩
  · have e : t = ws.length := by
      rw [List.length_append, List.length_singleton] at ht
      omega
    subst e
    exact ⟨T, L, d, g, by rw [List.getElem?_append_right (Nat.le_refl _), Nat.sub_self]; rfl, by rw [upd_ne (off h2)]; exact h2, by rw [upd_ne h4]; exact h3, h4, h5, h6, h7⟩
def spPushed : Sp := fun vs H Q _ => ∃ (af t0 t1 p : Addr) (u : HO) (ss : List V) (m h i N : Nat) (S U : Nat → Nat → Nat), vs = [.ref af, .int (h : Nat), .int (i : Nat), .int (N : Nat)] ∧ H p = some u ∧ FloorAt H af m S U t0 t1 ∧ H t0 = some (.tup ss) ∧ ss.length = m ∧ 1 ≤ m ∧ m ≤ 6 ∧ h < m ∧ i < m ∧
  ∀ (T L : Addr) (h' : Nat) (g : List Int) H', H' T = some (.tup [.int (h' : Nat), .ref L]) → H' L = some (.lst (g.map V.int)) → g.length = m → FmC.NN g → FmC.Pushed m S U h i N h' (FmC.cnt g) → Same H H' → Q (.ref T) H'
theorem ok_law_pushed (D : Df K mg "_law_pushed" s_law_pushed ["pair_here", "here", "number", "many"]) (T : Nms mg) : CallOk P w K mg base CX0 1 "_law_pushed" ["pair_here", "here", "number", "many"] spPushed := by
  refine df_ok D sc_law_pushed (fun vs H Q E h => ?_) (fun f cdv A outer s H vs Q E hr h => ?_)
  · obtain ⟨af, t0, t1, p, u, ss, m, h, i, N, S, U, rfl, _⟩ := h
    rfl
  · obtain ⟨af, t0, t1, p, u, ss, m, h, i, N, S, U, rfl, hp, hF, hss, hsl, h1, h6, hh, hi, k⟩ := h
    have nd := sc_law_pushed.nd
    refine ⟨_, (pss_cons (ps_asg (pv 0) (pg_tup rfl (pgs_cons (pg_name (i := 4) nd rfl (Or.inr rfl)) (pgs_cons (pg_name (i := 5) nd rfl (Or.inr rfl)) pgs_nil))))
      (pss_cons (ps_set (i := 6) nd rfl (Or.inr rfl) (pe_callB (r := rLenS K) call_lenS (by rfl) T.n_len (by decide +kernel) (pa_cons (pv 4) pa_nil)))
      (pss_cons (ps_setLc (i := 7) (own := [("there", 9)]) (g := (gName 9)) (tt := tYes) (by rfl) nd rfl rfl (sw_true rfl rfl rfl (by decide +kernel)) (pi_range1 rfl T.n_range (pa_cons (pv 6) pa_nil)) (blkOk_by (own := [("there", 9)]) (N := N_law_pushed) (sc := defScope s_law_pushed) (by decide +kernel)) (fun _ _ _ _ _ => (pg_name (i := 9) nd rfl (Or.inr rfl))) (fun _ _ _ _ _ => pts_nil) (fun _ _ _ _ _ => (pe_tup (pa_cons (pe_ix (r := rIxT K) ix_tup (pe_ix (r := rIxT K) ix_tup (pv 4) (pv 9) (fun _ _ => rfl)) (pv 2) (fun _ _ => rfl)) (pa_cons (pe_lc (own := [("k", 8)]) (g := (gName 8)) (tt := tYes) (by rfl) nd (pi_range1 rfl T.n_range (pa_cons (pv 6) pa_nil)) (blkOk_by (own := [("k", 8)]) (N := N_law_pushed) (sc := relS _ (defScope s_law_pushed)) (by decide +kernel)) (fun _ _ _ _ _ => (pg_name (i := 8) nd rfl (Or.inl rfl))) (fun _ _ _ _ _ => pts_nil) (fun _ _ _ _ _ => (pe_callTy call_int1 (by rfl) T.n_int (by decide +kernel) (pa_cons (pe_cmpR op_eq (pe_ix (r := rIxT K) ix_tup (pe_ix (r := rIxT K) ix_tup (pv 5) (pv 9) (fun _ _ => rfl)) (pv 2) (fun _ _ => rfl)) (pv 8) (nomark _)) pa_nil)))) pa_nil)))))
      (pss_cons (ps_set (i := 10) nd rfl (Or.inl rfl) (pe_op op_rep (pe_lst (pa_cons pe_int pa_nil)) (pv 6)))
      (pss_cons (ps_while PassesOwn.never (pt_cmpR op_gt (pv 3) pe_int (nomark _)) (pss_cons (ps_if (pt_cmpR op_eq (pe_op op_mod (pv 3) pe_int) pe_int (nomark _)) (pss_cons (ps_setLc (i := 10) (own := [("one", 11), ("more", 12)]) (g := (gTup K 2 (gCons (gName 11) (gCons (gName 12) gNil)))) (tt := tYes) (by rfl) nd rfl rfl (sw_true rfl rfl rfl (by decide +kernel)) (RZ.pi_zipA (by rfl) T.n_zip (pa_cons (pv 10) (pa_cons (pe_ix (r := rIxT K) ix_tup (pe_ix (r := rIxL K) ix_list (pv 7) (pv 1) (fun _ _ => rfl)) pe_int (fun _ _ => rfl)) pa_nil))) (blkOk_by (own := [("one", 11), ("more", 12)]) (N := N_law_pushed) (sc := defScope s_law_pushed) (by decide +kernel)) (fun _ _ _ _ _ => (pg_tup rfl (pgs_cons (pg_name (i := 11) nd rfl (Or.inl rfl)) (pgs_cons (pg_name (i := 12) nd rfl (Or.inl rfl)) pgs_nil)))) (fun _ _ _ _ _ => pts_nil) (fun _ _ _ _ _ => (pe_op op_add (pv 11) (pv 12))))
      (pss_one (ps_set (i := 1) nd rfl (Or.inl rfl) (pe_ix (r := rIxT K) ix_tup (pe_ix (r := rIxL K) ix_list (pv 7) (pv 1) (fun _ _ => rfl)) pe_int (fun _ _ => rfl))))) pss_nil)
      (pss_cons (ps_set (i := 13) nd rfl (Or.inl rfl) (pe_lst pa_nil))
      (pss_cons (ps_for PassesOwn.never rfl (pi_list (pv 7)) (pg_tup rfl (pgs_cons (pg_name (i := 9) nd rfl (Or.inl rfl)) (pgs_cons (pg_name (i := 14) nd rfl (Or.inl rfl)) pgs_nil))) (pss_one (ps_expr (pe_bm PySem.F.plainAttrs_list PySem.F.slot_list_append PySem.F.type_list_append mt_append (pv 13) (pa_cons (pe_tup (pa_cons (pe_ix (r := rIxT K) ix_tup (pe_ix (r := rIxL K) ix_list (pv 7) (pv 9) (fun _ _ => rfl)) pe_int (fun _ _ => rfl)) (pa_cons (pe_lc (own := [("one", 11), ("more", 12)]) (g := (gTup K 2 (gCons (gName 11) (gCons (gName 12) gNil)))) (tt := tYes) (by rfl) nd (RZ.pi_zipA (by rfl) T.n_zip (pa_cons (pv 14) (pa_cons (pe_ix (r := rIxT K) ix_tup (pe_ix (r := rIxL K) ix_list (pv 7) (pv 9) (fun _ _ => rfl)) pe_int (fun _ _ => rfl)) pa_nil))) (blkOk_by (own := [("one", 11), ("more", 12)]) (N := N_law_pushed) (sc := defScope s_law_pushed) (by decide +kernel)) (fun _ _ _ _ _ => (pg_tup rfl (pgs_cons (pg_name (i := 11) nd rfl (Or.inl rfl)) (pgs_cons (pg_name (i := 12) nd rfl (Or.inl rfl)) pgs_nil)))) (fun _ _ _ _ _ => pts_nil) (fun _ _ _ _ _ => (pe_op op_add (pv 11) (pv 12)))) pa_nil))) pa_nil)))))
      (pss_cons (ps_set (i := 7) nd rfl (Or.inl rfl) (pv 13))
      (pss_one (ps_set (i := 3) nd rfl (Or.inl rfl) (pe_op op_fdivW (pv 3) pe_int))))))))
      (pss_one (ps_ret (pe_tup (pa_cons (pv 1) (pa_cons (pv 10) pa_nil)))))))))), ?_⟩
    walk_at "op"
    have hst : L2.start N_law_pushed [V.ref af, V.int (h : Nat), V.int (i : Nat), V.int (N : Nat)] = [some (V.ref af), some (V.int (h : Nat)), some (V.int (i : Nat)), some (V.int (N : Nat)), none, none, none, none, none, none, none, none, none, none, none] := rfl
    rw [hst]
    refine ⟨_, rfl, af, _, rfl, SqT.of hF.at_, rfl, _, _, rfl, _, _, rfl, rfl, ?_⟩
    try dsimp only [List.set]
    refine ⟨_, rfl, t0, ss, rfl, .inr (SqT.of hss), ?_⟩
    rw [hsl]
    try dsimp only [List.set]
    refine ⟨_, rfl, _, rfl, by omega, by omega, ?_⟩
    rw [Int.toNat_natCast]
    refine fun S0 hS0 => ?_
    refine lI walk_range (fun t G => Same H G ∧ ∃ ws, G S0 = some (.lst ws) ∧ ws.length = t ∧ RowsP G S0 m S U i 1 ws) ⟨same_new hS0, [], upd_same, rfl, RowsP.nil _ _ _ _ _ _ _⟩ (fun _ _ _ _ => True.intro) ?_ ?_
    · rintro t x _ G ht ⟨sG, ws, hw, hwl, hR⟩ ⟨rfl, rfl⟩
      obtain ⟨s1, ra1, w1, a1, a2, a3, a4, a5⟩ := hF.s _ _ ht hi
      obtain ⟨s2, ra2, w2, b1, b2, b3, b4, b5⟩ := hF.u _ _ ht hi
      walk_at "op"
      rw [Int.zero_add]
      refine ⟨rfl, ?_⟩
      refine iteT ?_
      refine ⟨_, rfl, _, rfl, t0, s1, _, _, rfl, rfl, SqT.of (sG _ _ a1), atI_nat a2, _, rfl, ra1, w1, _, _, rfl, rfl, SqT.of (sG _ _ a3), atI_nat a4, ?_⟩
      refine ⟨_, rfl, _, rfl, by omega, by omega, ?_⟩
      rw [Int.toNat_natCast]
      refine fun D1 hD1 => ?_
      have nSD : S0 ≠ D1 := ne_of_none hw hD1
      refine lI walk_range (fun j G2 => Same G G2 ∧ G2 D1 = some (.lst ((FmC.rowOf j (FmC.d1 (U t i))).map V.int))) ⟨same_new hD1, upd_same⟩ (fun _ _ _ _ => True.intro) ?_ ?_
      · rintro j x2 _ G2 hj ⟨s2', hj2⟩ ⟨rfl, rfl⟩
        walk_at "op"
        rw [Int.zero_add]
        refine ⟨rfl, ?_⟩
        refine iteT ?_
        refine ⟨_, rfl, _, rfl, t1, s2, _, _, rfl, rfl, SqT.of ((sG.trans s2') _ _ b1), atI_nat b2, _, rfl, ra2, w2, _, _, rfl, rfl, SqT.of ((sG.trans s2') _ _ b3), atI_nat b4, _, rfl, rfl, ?_⟩
        have ed : (if decide (V.int (U t i : Nat) = V.int (j : Nat)) = true then (1 : Int) else 0) = ((FmC.d1 (U t i) j : Nat) : Int) := by
          unfold FmC.d1
          by_cases z : j = U t i
          · rw [if_pos (decide_eq_true (by rw [z])), if_pos z]
            rfl
          · rw [if_neg (by rw [decide_eq_false (fun q => z (by injection q with q; exact (Int.ofNat.inj q).symm))]; decide), if_neg z]
            rfl
        refine .inr ⟨_, rfl, _, hj2, small1000 (by rw [List.length_map, FmC.rowOf_len]; omega), sameOff s2' hD1, ?_⟩
        rw [upd_same, ed]
        unfold FmC.rowOf
        rw [List.range_succ, List.map_append, List.map_append]
        rfl
      · rintro G2 ⟨s2', hj2⟩
        have sG2 := sG.trans s2'
        refine ⟨by show 2 ≤ sizeLine; decide, fun T1 hT1 => ?_⟩
        have sT := same_new (o := .tup [V.int ((S t i : Nat) : Int), V.ref D1]) hT1
        have hw2 := (s2'.trans sT) _ _ hw
        have P1 : FmC.Pushed m S U ws.length i 1 (S t i) (FmC.cnt (FmC.rowOf m (FmC.d1 (U t i)))) := by
          rw [FmC.rowOf_cnt fun x hx => by unfold FmC.d1; rw [if_neg (by omega)], hwl]
          exact FmC.Pushed.one a5 ht hi
        refine ⟨ws, hw2, small1000 (by omega), sameOff (sG2.trans sT) hS0, ws ++ [.ref T1], upd_same, by rw [List.length_append, hwl]; rfl, ?_⟩
        exact RowsP.snoc hw2 (hR.same (s2'.trans sT)) upd_same (sT _ _ hj2) nSD.symm (FmC.rowOf_len _ _) (FmC.rowOf_nn _ _) P1
    · rintro G ⟨sG, ws, hw, hwl, hR⟩
      walk_at "op"
      refine ⟨by show 1 ≤ sizeLine; decide, fun z0 hz0 => ?_⟩
      have sz := same_new (o := .lst [V.int 0]) hz0
      refine ⟨_, rfl, z0, _, _, rfl, rfl, upd_same, by omega, by omega, by rw [sizeLine_eq]; show 1 * _ ≤ _; omega, fun R1 hR1 => ?_⟩
      rw [rep_zero]
      have s1 := same_new (o := .lst ((List.replicate m (0 : Int)).map V.int)) hR1
      have hR1' : upd (upd G z0 (.lst [V.int 0])) R1 (.lst ((List.replicate m (0 : Int)).map V.int)) R1 = some (.lst ((List.replicate m (0 : Int)).map V.int)) := upd_same
      have s01 := sz.trans s1
      have hw1 := s01 _ _ hw
      have hR2 := hR.same s01
      have sG1 := sG.trans s01
      clear hw hR sz s1 s01 hz0 hR1 sG
      generalize upd (upd G z0 (.lst [V.int 0])) R1 (.lst ((List.replicate m (0 : Int)).map V.int)) = G1 at *
      have zl := FmC.zero_len m
      have zc : FmC.cnt (List.replicate m (0 : Int)) = fun _ => 0 := by
        rw [← FmC.rowOf_zero]
        exact FmC.rowOf_cnt fun _ _ => rfl
      refine ⟨fun μ σ G => ∃ (h' c done : Nat) (g : List Int) (Sx Lg : Addr) (ws : List V) (u9 u13 u14 : Option V), σ = [some (V.ref af), some (V.int (h' : Nat)), some (V.int (i : Nat)), some (V.int ((μ : Nat) : Int)), some (V.ref t0), some (V.ref t1), some (V.int (m : Nat)), some (V.ref Sx), none, u9, some (V.ref Lg), none, none, u13, u14] ∧ Same H G ∧ G Sx = some (.lst ws) ∧ ws.length = m ∧ RowsP G Sx m S U i c ws ∧
          G Lg = some (.lst (g.map V.int)) ∧ g.length = m ∧ FmC.NN g ∧ FmC.Pushed m S U h i done h' (FmC.cnt g) ∧ done + c * μ = N ∧ μ ≤ N,
        ⟨N, h, 1, 0, List.replicate m 0, S0, R1, ws, none, none, none, rfl, sG1, hw1, hwl, hR2, hR1', zl.1, zl.2, by rw [zc]; exact FmC.Pushed.zero i hh, by omega, Nat.le_refl _⟩, ?_⟩
      clear hR1' hR2 hw1 sG1 hwl zl zc
      rintro μ σ G ⟨h', c, done, g, Sx, Lg, ws, u9, u13, u14, rfl, sG, hw, hwl, hR, hg, hgl, hgn, hP, hdc, hμ⟩
      walk_at "op"
      refine ⟨_, rfl, _, _, rfl, rfl, ?_⟩
      refine ⟨decide (0 < ((μ : Nat) : Int)), rfl, ?_⟩
      by_cases hμ0 : 0 < μ
      · rw [if_pos (decide_eq_true (by omega))]
        refine ⟨_, fun σ' H' h => h, ?_⟩
        refine ⟨_, rfl, _, _, rfl, rfl, by decide, rfl, ?_⟩
        by_cases hm : μ % 2 = 1
        · refine ⟨true, by rw [decide_eq_true (by congr 1; omega)], ?_⟩
          rw [if_pos rfl]
          obtain ⟨T2, L2, d2, gs2, z1, z2, z3, z4, z5, z6, z7⟩ := hR h' (by rw [hwl]; exact hP.1)
          refine ⟨_, rfl, _, rfl, _, rfl, Sx, ws, h', _, rfl, rfl, SqL.of hw, atI_nat z1, T2, _, 1, _, rfl, rfl, SqT.of z2, rfl, ?_⟩
          refine ⟨Lg, L2, _, _, rfl, .inl ⟨SqL.of hg, SqL.of z3, fun D2 hD2 => ?_⟩⟩
          refine lI (walk_zip (n := m) (by rw [List.length_map, List.length_map, hgl, z5, Nat.min_self])) (fun j G6 => Same G G6 ∧ G6 D2 = some (.lst (((FmC.addR g gs2).take j).map V.int))) ⟨same_new hD2, upd_same⟩ (fun j G6 _ ⟨e, _⟩ => ⟨SqL.of (e _ _ hg), SqL.of (e _ _ z3)⟩) ?_ ?_
          · rintro j x G6 _ hj ⟨s6, hH6⟩ ⟨T2, w1, w2, rfl, hT2, rfl, k1, k2⟩
            dsimp only at k1 k2
            rw [getD_at (by omega)] at k1
            cases k1
            rw [getD_at (by omega)] at k2
            cases k2
            have nHT : D2 ≠ T2 := ne_of_none hH6 hT2
            have hga : (FmC.addR g gs2)[j]? = some (g.getD j 0 + gs2.getD j 0) := by
              have := FmC.addR_get (by omega : g.length = gs2.length) j
              rw [← this, List.getD_eq_getElem?_getD, List.getElem?_eq_getElem (by rw [FmC.addR_len hgl z5]; omega)]
              rfl
            walk_at "op"
            refine ⟨T2, _, rfl, SqT.of upd_same, rfl, _, _, rfl, _, _, rfl, rfl, ?_⟩
            refine ⟨rfl, ?_⟩
            refine iteT ?_
            refine ⟨_, rfl, _, rfl, _, _, rfl, rfl, _, by rw [upd_ne nHT]; exact hH6, by rw [List.length_map, List.length_take]; exact Nat.lt_of_le_of_lt (Nat.min_le_left _ _) (by rw [sizeLine_eq]; omega), sameOff (s6.trans (same_new hT2)) hD2, ?_⟩
            rw [upd_same, tk_snoc hga, List.map_append]
            rfl
          · rintro GB ⟨s8, hD8⟩
            have hglB := FmC.addR_len hgl z5
            rw [← hglB, List.take_length] at hD8
            have hgnB := FmC.addR_nn hgn z6
            have hPB : FmC.Pushed m S U h i (done + c) d2 (FmC.cnt (FmC.addR g gs2)) := by
              rw [FmC.cnt_add (by omega) hgn z6]
              exact hP.comp z7
            have sB := sG.trans s8
            have hwB := s8 _ _ hw
            have hRB := hR.same s8
            have hgB := hD8
            have hT2B := s8 _ _ z2
            try dsimp only [List.set]
            refine ⟨_, rfl, _, rfl, Sx, ws, h', _, rfl, rfl, SqL.of hwB, atI_nat z1, T2, _, 0, _, rfl, rfl, SqT.of hT2B, rfl, ?_⟩
            try dsimp only [List.set]
            clear z2 z3 hw hR hg hP
            refine ⟨Nat.zero_le _, fun Tw hTw => ?_⟩
            have sw := same_new (o := .lst []) hTw
            have hTw0 : upd GB Tw (.lst []) Tw = some (.lst []) := upd_same
            have hwT := sw _ _ hwB
            have nSw : Sx ≠ Tw := ne_of_none hwB hTw
            have hTwH := sameFree sB hTw
            refine ⟨_, rfl, Sx, rfl, ⟨_, SqL.of hwT⟩, ?_⟩
            refine fI walk_list (fun j σ G7 => ∃ (v9 v14 : Option V) (wt : List V), σ = [some (V.ref af), some (V.int (d2 : Nat)), some (V.int (i : Nat)), some (V.int ((μ : Nat) : Int)), some (V.ref t0), some (V.ref t1), some (V.int (m : Nat)), some (V.ref Sx), none, v9, some (V.ref D2), none, none, some (V.ref Tw), v14] ∧ Same GB G7 ∧ G7 Tw = some (.lst wt) ∧ wt.length = j ∧ RowsP G7 Tw m S U i (c + c) wt)
              ⟨_, _, [], rfl, sw, hTw0, rfl, RowsP.nil _ _ _ _ _ _ _⟩ (fun _ _ _ _ ⟨_, _, _, _, e, _⟩ => SqL.of (e _ _ hwB)) ?_ ?_
            · rintro j x σ _ G7 hj ⟨v9, v14, wt, rfl, s7, hTw7, hwtl, hR7⟩ ⟨rfl, hxj⟩
              rw [hwl] at hj
              obtain ⟨T2, L2, d2, gs2, z1, z2, z3, z4, z5, z6, z7⟩ := hRB j (by omega)
              rw [hxj] at z1
              cases z1
              obtain ⟨T3, L3, d3, gs3, y1, y2, y3, y4, y5, y6, y7⟩ := hRB d2 (by rw [hwl]; exact z7.1)
              walk_at "op"
              refine ⟨T2, _, rfl, SqT.of (s7 _ _ z2), rfl, _, _, rfl, _, _, rfl, rfl, ?_⟩
              try dsimp only [List.set]
              have h3 := s7 _ _ y3
              have h2' := s7 _ _ z3
              have hw7 := s7 _ _ hwB
              have hT37 := s7 _ _ y2
              refine ⟨_, rfl, .inl ⟨rfl, _, SqL.of hTw7⟩, ?_⟩
              refine ⟨_, rfl, _, rfl, Sx, ws, d2, _, rfl, rfl, SqL.of hw7, atI_nat y1, T3, _, 0, _, rfl, rfl, SqT.of hT37, rfl, ?_⟩
              refine ⟨_, rfl, _, rfl, _, rfl, Sx, ws, d2, _, rfl, rfl, SqL.of hw7, atI_nat y1, T3, _, 1, _, rfl, rfl, SqT.of hT37, rfl, ?_⟩
              refine ⟨L2, L3, _, _, rfl, .inl ⟨SqL.of h2', SqL.of h3, fun D2 hD2 => ?_⟩⟩
              have nD2T : D2 ≠ Tw := (ne_of_none hTw7 hD2).symm
              refine lI (walk_zip (n := m) (by rw [List.length_map, List.length_map, z5, y5, Nat.min_self])) (fun j G6 => Same G7 G6 ∧ G6 D2 = some (.lst (((FmC.addR gs2 gs3).take j).map V.int))) ⟨same_new hD2, upd_same⟩ (fun j G6 _ ⟨e, _⟩ => ⟨SqL.of (e _ _ h2'), SqL.of (e _ _ h3)⟩) ?_ ?_
              · rintro j x G6 _ hj ⟨s6, hH6⟩ ⟨T2, w1, w2, rfl, hT2, rfl, k1, k2⟩
                dsimp only at k1 k2
                rw [getD_at (by omega)] at k1
                cases k1
                rw [getD_at (by omega)] at k2
                cases k2
                have nHT : D2 ≠ T2 := ne_of_none hH6 hT2
                have hga : (FmC.addR gs2 gs3)[j]? = some (gs2.getD j 0 + gs3.getD j 0) := by
                  have := FmC.addR_get (by omega : gs2.length = gs3.length) j
                  rw [← this, List.getD_eq_getElem?_getD, List.getElem?_eq_getElem (by rw [FmC.addR_len z5 y5]; omega)]
                  rfl
                walk_at "op"
                refine ⟨T2, _, rfl, SqT.of upd_same, rfl, _, _, rfl, _, _, rfl, rfl, ?_⟩
                refine ⟨rfl, ?_⟩
                refine iteT ?_
                refine ⟨_, rfl, _, rfl, _, _, rfl, rfl, _, by rw [upd_ne nHT]; exact hH6, by rw [List.length_map, List.length_take]; exact Nat.lt_of_le_of_lt (Nat.min_le_left _ _) (by rw [sizeLine_eq]; omega), sameOff (s6.trans (same_new hT2)) hD2, ?_⟩
                rw [upd_same, tk_snoc hga, List.map_append]
                rfl
              · rintro G8 ⟨s8, hD8⟩
                have hal := FmC.addR_len z5 y5
                rw [← hal, List.take_length] at hD8
                refine ⟨by show 2 ≤ sizeLine; decide, fun t ht => ?_⟩
                have st := same_new (o := .tup [V.int (d3 : Nat), V.ref D2]) ht
                have hTw8 := (s8.trans st) _ _ hTw7
                have Pn : FmC.Pushed m S U wt.length i (c + c) d3 (FmC.cnt (FmC.addR gs2 gs3)) := by
                  rw [hwtl, FmC.cnt_add (by omega) z6 y6]
                  exact z7.comp y7
                refine ⟨Tw, wt, .ref t, rfl, rfl, hTw8, small1000 (by omega), ?_⟩
                refine ⟨_, _, wt ++ [.ref t], rfl, sameOff ((s7.trans s8).trans st) hTw, upd_same, by rw [List.length_append, hwtl]; rfl, ?_⟩
                exact RowsP.snoc hTw8 (hR7.same (s8.trans st)) upd_same (st _ _ hD8) nD2T hal (FmC.addR_nn z6 y6) Pn
            · rintro σ G7 ⟨v9, v14, wt, rfl, s7, hTw7, hwtl, hR7⟩
              rw [hwl] at hwtl
              walk_at "op"
              refine ⟨_, rfl, _, rfl, _, _, rfl, rfl, ⟨by decide, by decide⟩, ?_⟩
              refine ⟨μ / 2, by omega, d2, c + c, (done + c), (FmC.addR g gs2), Tw, D2, wt, v9, some (V.ref Tw), v14, ?_, sB.trans s7, hTw7, hwtl, hR7, s7 _ _ hgB, hglB, hgnB, hPB, ?_, by omega⟩
              · rw [show ((μ : Nat) : Int) / 2 = ((μ / 2 : Nat) : Int) by omega]
                rfl
              · have e2 : (c + c) * (μ / 2) = c * (2 * (μ / 2)) := by rw [← Nat.mul_assoc, Nat.mul_two]
                have e3 : μ = 2 * (μ / 2) + μ % 2 := (Nat.div_add_mod μ 2).symm
                have e4 : c * μ = c * (2 * (μ / 2)) + c * (μ % 2) := by
                  conv => lhs; rw [e3, Nat.mul_add]
                rw [e2]
                rw [hm] at e4
                omega
        · refine ⟨false, by rw [decide_eq_false (fun z => by injection z with z; omega)], ?_⟩
          rw [if_neg (by decide)]
          refine ⟨Nat.zero_le _, fun Tw hTw => ?_⟩
          have sw := same_new (o := .lst []) hTw
          have hTw0 : upd G Tw (.lst []) Tw = some (.lst []) := upd_same
          have hwT := sw _ _ hw
          have nSw : Sx ≠ Tw := ne_of_none hw hTw
          have hTwH := sameFree sG hTw
          refine ⟨_, rfl, Sx, rfl, ⟨_, SqL.of hwT⟩, ?_⟩
          refine fI walk_list (fun j σ G7 => ∃ (v9 v14 : Option V) (wt : List V), σ = [some (V.ref af), some (V.int (h' : Nat)), some (V.int (i : Nat)), some (V.int ((μ : Nat) : Int)), some (V.ref t0), some (V.ref t1), some (V.int (m : Nat)), some (V.ref Sx), none, v9, some (V.ref Lg), none, none, some (V.ref Tw), v14] ∧ Same G G7 ∧ G7 Tw = some (.lst wt) ∧ wt.length = j ∧ RowsP G7 Tw m S U i (c + c) wt)
            ⟨_, _, [], rfl, sw, hTw0, rfl, RowsP.nil _ _ _ _ _ _ _⟩ (fun _ _ _ _ ⟨_, _, _, _, e, _⟩ => SqL.of (e _ _ hw)) ?_ ?_
          · rintro j x σ _ G7 hj ⟨v9, v14, wt, rfl, s7, hTw7, hwtl, hR7⟩ ⟨rfl, hxj⟩
            rw [hwl] at hj
            obtain ⟨T2, L2, d2, gs2, z1, z2, z3, z4, z5, z6, z7⟩ := hR j (by omega)
            rw [hxj] at z1
            cases z1
            obtain ⟨T3, L3, d3, gs3, y1, y2, y3, y4, y5, y6, y7⟩ := hR d2 (by rw [hwl]; exact z7.1)
            walk_at "op"
            refine ⟨T2, _, rfl, SqT.of (s7 _ _ z2), rfl, _, _, rfl, _, _, rfl, rfl, ?_⟩
            try dsimp only [List.set]
            have h3 := s7 _ _ y3
            have h2' := s7 _ _ z3
            have hw7 := s7 _ _ hw
            have hT37 := s7 _ _ y2
            refine ⟨_, rfl, .inl ⟨rfl, _, SqL.of hTw7⟩, ?_⟩
            refine ⟨_, rfl, _, rfl, Sx, ws, d2, _, rfl, rfl, SqL.of hw7, atI_nat y1, T3, _, 0, _, rfl, rfl, SqT.of hT37, rfl, ?_⟩
            refine ⟨_, rfl, _, rfl, _, rfl, Sx, ws, d2, _, rfl, rfl, SqL.of hw7, atI_nat y1, T3, _, 1, _, rfl, rfl, SqT.of hT37, rfl, ?_⟩
            refine ⟨L2, L3, _, _, rfl, .inl ⟨SqL.of h2', SqL.of h3, fun D2 hD2 => ?_⟩⟩
            have nD2T : D2 ≠ Tw := (ne_of_none hTw7 hD2).symm
            refine lI (walk_zip (n := m) (by rw [List.length_map, List.length_map, z5, y5, Nat.min_self])) (fun j G6 => Same G7 G6 ∧ G6 D2 = some (.lst (((FmC.addR gs2 gs3).take j).map V.int))) ⟨same_new hD2, upd_same⟩ (fun j G6 _ ⟨e, _⟩ => ⟨SqL.of (e _ _ h2'), SqL.of (e _ _ h3)⟩) ?_ ?_
            · rintro j x G6 _ hj ⟨s6, hH6⟩ ⟨T2, w1, w2, rfl, hT2, rfl, k1, k2⟩
              dsimp only at k1 k2
              rw [getD_at (by omega)] at k1
              cases k1
              rw [getD_at (by omega)] at k2
              cases k2
              have nHT : D2 ≠ T2 := ne_of_none hH6 hT2
              have hga : (FmC.addR gs2 gs3)[j]? = some (gs2.getD j 0 + gs3.getD j 0) := by
                have := FmC.addR_get (by omega : gs2.length = gs3.length) j
                rw [← this, List.getD_eq_getElem?_getD, List.getElem?_eq_getElem (by rw [FmC.addR_len z5 y5]; omega)]
                rfl
              walk_at "op"
              refine ⟨T2, _, rfl, SqT.of upd_same, rfl, _, _, rfl, _, _, rfl, rfl, ?_⟩
              refine ⟨rfl, ?_⟩
              refine iteT ?_
              refine ⟨_, rfl, _, rfl, _, _, rfl, rfl, _, by rw [upd_ne nHT]; exact hH6, by rw [List.length_map, List.length_take]; exact Nat.lt_of_le_of_lt (Nat.min_le_left _ _) (by rw [sizeLine_eq]; omega), sameOff (s6.trans (same_new hT2)) hD2, ?_⟩
              rw [upd_same, tk_snoc hga, List.map_append]
              rfl
            · rintro G8 ⟨s8, hD8⟩
              have hal := FmC.addR_len z5 y5
              rw [← hal, List.take_length] at hD8
              refine ⟨by show 2 ≤ sizeLine; decide, fun t ht => ?_⟩
              have st := same_new (o := .tup [V.int (d3 : Nat), V.ref D2]) ht
              have hTw8 := (s8.trans st) _ _ hTw7
              have Pn : FmC.Pushed m S U wt.length i (c + c) d3 (FmC.cnt (FmC.addR gs2 gs3)) := by
                rw [hwtl, FmC.cnt_add (by omega) z6 y6]
                exact z7.comp y7
              refine ⟨Tw, wt, .ref t, rfl, rfl, hTw8, small1000 (by omega), ?_⟩
              refine ⟨_, _, wt ++ [.ref t], rfl, sameOff ((s7.trans s8).trans st) hTw, upd_same, by rw [List.length_append, hwtl]; rfl, ?_⟩
              exact RowsP.snoc hTw8 (hR7.same (s8.trans st)) upd_same (st _ _ hD8) nD2T hal (FmC.addR_nn z6 y6) Pn
          · rintro σ G7 ⟨v9, v14, wt, rfl, s7, hTw7, hwtl, hR7⟩
            rw [hwl] at hwtl
            walk_at "op"
            refine ⟨_, rfl, _, rfl, _, _, rfl, rfl, ⟨by decide, by decide⟩, ?_⟩
            refine ⟨μ / 2, by omega, h', c + c, done, g, Tw, Lg, wt, v9, some (V.ref Tw), v14, ?_, sG.trans s7, hTw7, hwtl, hR7, s7 _ _ hg, hgl, hgn, hP, ?_, by omega⟩
            · rw [show ((μ : Nat) : Int) / 2 = ((μ / 2 : Nat) : Int) by omega]
              rfl
            · have e2 : (c + c) * (μ / 2) = c * (2 * (μ / 2)) := by rw [← Nat.mul_assoc, Nat.mul_two]
              have e3 : μ = 2 * (μ / 2) + μ % 2 := (Nat.div_add_mod μ 2).symm
              have e4 : c * μ = c * (2 * (μ / 2)) + c * (μ % 2) := by
                conv => lhs; rw [e3, Nat.mul_add]
              rw [e2]
              rw [show μ % 2 = 0 by omega] at e4
              omega
      · rw [if_neg (by rw [decide_eq_true_eq]; omega)]
        have hμ0 : μ = 0 := by omega
        subst hμ0
        have hd : done = N := by omega
        subst hd
        refine ⟨_, rfl, _, rfl, by show 2 ≤ sizeLine; decide, fun T1 hT1 => ?_⟩
        have sT := same_new (o := .tup [V.int (h' : Nat), V.ref Lg]) hT1
        exact k T1 Lg h' g _ upd_same (sT _ _ hg) hgl hgn hP (sG.trans sT)
end
end Fm
end FPUSH
section FFDU
set_option Elab.async false
set_option linter.all false
set_option maxRecDepth 100000
set_option maxHeartbeats 4000000
local macro_rules | `(tactic| walk_at "ne") => `(tactic| first | assumption | (apply Ne.symm; assumption) | exact L2.ne_of_none (by assumption) (by assumption) | exact Ne.symm (L2.ne_of_none (by assumption) (by assumption)))
local macro_rules | `(tactic| walk_at "hl") => `(tactic| first | assumption | exact L2.upd_same | (refine Eq.trans (L2.upd_ne (by walk_at "ne")) ?_; walk_at "hl"))
local macro_rules | `(tactic| walk_at "sd") => `(tactic| first | (with_reducible show (_ : Int) < _; omega) | (with_reducible show (_ : Int) ≤ _; omega) | assumption | decide | exact ⟨by assumption, by assumption⟩ | exact ⟨by decide, by decide⟩ | exact Or.inr ⟨by decide, by decide⟩ | exact Or.inl ⟨by omega, by omega⟩ | rfl)
local macro_rules | `(tactic| walk_at "st1") => `(tactic| first
  | refine ⟨_, rfl, ?_⟩
  | refine ⟨_, _, rfl, rfl, ?_⟩
  | refine ⟨_, _, rfl, ?_⟩
  | (refine ⟨_, _, _, _, rfl, rfl, L2.SqL.of (by walk_at "hl"), rfl, ?_⟩)
  | (refine ⟨_, _, _, _, rfl, rfl, L2.SqT.of (by walk_at "hl"), rfl, ?_⟩)
  | (refine ⟨_, _, _, _, rfl, rfl, (by walk_at "hl"), rfl, ?_⟩)
  | (refine And.intro (by walk_at "sd") ?_)
  )
local macro_rules | `(tactic| walk_at "st") => `(tactic| repeat walk_at "st1")
local macro_rules | `(tactic| walk_at "op") => `(tactic| try dsimp only [L2.tSeq, L2.tAsg, L2.tOp, L2.tVar, L2.tC, L2.gSub, L2.rI, L2.rI0, L2.rIxL, L2.rIxT, L2.rSetL, L2.tIfS, L2.tTest, L2.tRet, L2.gName, L2.tNext, L2.tAnd, L2.tOr, L2.tNot, L2.tAndV, L2.tOrV, L2.tNotV, L2.tB, L2.tCB, L2.tCons, L2.tNil, L2.tCall, L2.tTup, L2.tLst, L2.tChain, L2.tUn, L2.tPar, L2.tDrop, L2.tIf, L2.tBM, L2.tBM0, L2.rAppend, L2.rCat, L2.rIsi, L2.rIsiT, L2.gTup, L2.gCons, L2.gNil, Fm.tFor_eq, Fm.tLc_eq, Fm.tLc2_eq, L2.iTup, L2.iList, L2.iRng1, L2.iRng2, L2.tSl, L2.tPart, L2.tNoPart, L2.rSlL, L2.rEq, L2.rNe, L2.rU, L2.rEqD, L2.rNeD, Fm.tRevT, Fm.rLenS, Fm.rTupOf, Fm.rLstOf, L2.tDNewK, L2.tCallS, L2.WE, Fm.wKeep, Fm.rIsK, Fm.rIsKT, List.cons_append, List.nil_append, L2.tYes])
namespace Fm
open PySem PySem.Spec PyProof.Rows L2
abbrev s_law_far_due : Stmt := top 56
abbrev N_law_far_due : List Str := ["house", "standing", "found", "goes", "pair_here", "counts", "came", "one", "more", "here", "number", "many", "left", "other"]
theorem sc_law_far_due : FnScope N_law_far_due ["house", "standing"] (defScope s_law_far_due) := ⟨rfl, rfl, rfl, by decide +kernel, rfl, by decide +kernel, by decide +kernel⟩
section
variable {P : Program} {w : World} {K : PySem.W.Frag} {mg : Str → Option Value} {base : Heap}
/-! ### who comes where, of far ones, as the law has it -/
theorem walk_zipLe {K : PySem.W.Frag} {a b : Addr} {xs ys : List V} (hn : xs.length ≤ ys.length) : Walk (RZ.ItzT K a b) xs.length (fun H => SqT K H a xs ∧ SqT K H b ys) (YPair (fun i => xs[i]?) (fun i => ys[i]?)) where
  goes := fun i _ hi q => ⟨xs, ys, xs[i], ys[i]'(by omega), q.1, q.2, List.getElem?_eq_getElem hi, List.getElem?_eq_getElem (by omega)⟩
  stops := fun _ q => ⟨xs, ys, q.1, q.2, .inl (Nat.le_refl _)⟩
  yields := fun i H v H' _ q y => by
    obtain ⟨T, x, z, h1, h2, h3, h4, h5⟩ := y
    exact ⟨T, x, z, h1, h2, h3, h4 xs q.1, h5 ys q.2⟩
def spFarDue : Sp := fun vs H Q _ => ∃ (p ph : Addr) (u : HO) (hv sv : V) (fs : List PyData) (m n : Nat) (rows : List (List Int)) (out : Int), vs = [hv, sv] ∧ H p = some u ∧ Dat H ph hv (.tuple fs) ∧ HouseN m n (.tuple fs) ∧ Dat H p sv (stD rows out) ∧ rows.length = n ∧ StOk m rows out ∧
  ∀ (L : Addr) (ws : List V) (told : List (List Int)) H', FmC.ComOf m n (goN fs 0) (goN fs 1) rows told → LL H' p L ws told → L ≠ p → Same H H' → Q (.ref L) H'
theorem ok_law_far_due (D : Df K mg "_law_far_due" s_law_far_due ["house", "standing"]) (T : Nms mg) (c_law_pushed : CallOk P w K mg base CX0 1 "_law_pushed" ["pair_here", "here", "number", "many"] spPushed) : CallOk P w K mg base CX0 2 "_law_far_due" ["house", "standing"] spFarDue := by
  refine df_ok D sc_law_far_due (fun vs H Q E h => ?_) (fun f cdv A outer s H vs Q E hr h => ?_)
  · obtain ⟨p, ph, u, hv, sv, fs, m, n, rows, out, rfl, _⟩ := h
    rfl
  · obtain ⟨p, ph, u, hv, sv, fs, m, n, rows, out, rfl, hp, hD, hN, sD, hl, ok, k⟩ := h
    have nd := sc_law_far_due.nd
    have hmn : 1 ≤ n ∧ n ≤ 4 ∧ 1 ≤ m ∧ m ≤ 6 := by
      obtain ⟨_, _, _, z1, z2, z3, z4, _⟩ := hN
      exact ⟨z1, z2, z3, z4⟩
    have B := tabs_of hN (goLt_of hD hN)
    obtain ⟨sa, xs, rfl, hsa, nsp, hx⟩ := st_parts sD
    obtain ⟨ah, hs, rfl, hah, _, hh⟩ := id hD.isTup
    have hhl : hs.length = n := by
      rw [hh.1]
      obtain ⟨_, e, z, _⟩ := hN
      cases e
      exact z
    have hxl : xs.length = n := by rw [hx.1, List.length_map, hl]
    have hr0 : rows[0]? = some (rows[0]'(by omega)) := List.getElem?_eq_getElem _
    obtain ⟨x0, hx0, hdx0⟩ := hx.back (i := 0) (d := rowD (rows[0]'(by omega))) (by rw [List.getElem?_map, hr0]; rfl)
    obtain ⟨c0, rfl, hc0, _⟩ := row_parts hdx0
    have hl0 : (rows[0]'(by omega)).length = m := ok.len _ (List.getElem_mem _)
    refine ⟨_, (pss_cons (ps_set (i := 2) nd rfl (Or.inl rfl) (pe_lst pa_nil))
      (pss_cons (ps_set (i := 3) nd rfl (Or.inl rfl) (pe_op op_rep (pe_lst (pa_cons pe_int pa_nil)) (pe_callB (r := rLenS K) call_lenS (by rfl) T.n_len (by decide +kernel) (pa_cons (pe_ix (r := rIxT K) ix_tup (pv 1) pe_int (fun _ _ => rfl)) pa_nil))))
      (pss_cons (ps_for PassesOwn.never rfl (RZ.pi_zipA (by rfl) T.n_zip (pa_cons (pv 0) (pa_cons (pv 1) pa_nil))) (pg_tup rfl (pgs_cons (pg_name (i := 4) nd rfl (Or.inl rfl)) (pgs_cons (pg_name (i := 5) nd rfl (Or.inl rfl)) pgs_nil))) (pss_cons (ps_setLc (i := 6) (own := [("one", 7), ("more", 8)]) (g := (gTup K 2 (gCons (gName 7) (gCons (gName 8) gNil)))) (tt := tYes) (by rfl) nd rfl rfl (sw_true rfl rfl rfl (by decide +kernel)) (pi_zipTM (by rfl) T.n_zip (pa_cons (pv 5) (pa_cons (pv 3) pa_nil))) (blkOk_by (own := [("one", 7), ("more", 8)]) (N := N_law_far_due) (sc := defScope s_law_far_due) (by decide +kernel)) (fun _ _ _ _ _ => (pg_tup rfl (pgs_cons (pg_name (i := 7) nd rfl (Or.inl rfl)) (pgs_cons (pg_name (i := 8) nd rfl (Or.inl rfl)) pgs_nil)))) (fun _ _ _ _ _ => pts_nil) (fun _ _ _ _ _ => (pe_op op_add (pv 7) (pv 8))))
      (pss_cons (ps_expr (pe_bm PySem.F.plainAttrs_list PySem.F.slot_list_append PySem.F.type_list_append mt_append (pv 2) (pa_cons (pv 6) pa_nil)))
      (pss_cons (ps_par (i := 9) (j := 3) (by rfl) nd rfl rfl (by decide) rfl rfl (pa_cons pe_non (pa_cons (pe_op op_rep (pe_lst (pa_cons pe_int pa_nil)) (pe_callB (r := rLenS K) call_lenS (by rfl) T.n_len (by decide +kernel) (pa_cons (pv 6) pa_nil))) pa_nil)) (by rfl))
      (pss_one (ps_for PassesOwn.never rfl (pi_enum (by rfl) T.n_enumerate (pa_cons (pv 6) pa_nil)) (pg_tup rfl (pgs_cons (pg_name (i := 10) nd rfl (Or.inl rfl)) (pgs_cons (pg_name (i := 11) nd rfl (Or.inl rfl)) pgs_nil))) (pss_cons (ps_set (i := 12) nd rfl (Or.inl rfl) (pe_op op_sub (pv 11) (pe_callTy call_int1 (by rfl) T.n_int (by decide +kernel) (pa_cons (pe_and (pe_cmpR op_isN (pv 9) pe_non (nomark _)) (pe_one (pe_cmpR op_gt (pv 11) pe_int (nomark _)))) pa_nil))))
      (pss_cons (ps_set (i := 9) nd rfl (Or.inl rfl) (pe_ifExp (PW.pt (pw_and (pt_cmpR op_isN (pv 9) pe_non (nomark _)) (pw_and1 (pt_cmpR op_gt (pv 11) pe_int (nomark _))))) (pv 10) (pv 9)))
      (pss_one (ps_if (pt_cmpR op_gt (pv 12) pe_int (nomark _)) (pss_cons (ps_asg (pe_cc c_law_pushed (hr.mono (by omega)) (pa_cons (pv 4) (pa_cons (pv 9) (pa_cons (pv 10) (pa_cons (pv 12) pa_nil))))) (pg_tup rfl (pgs_cons (pg_name (i := 9) nd rfl (Or.inl rfl)) (pgs_cons (pg_name (i := 8) nd rfl (Or.inl rfl)) pgs_nil))))
      (pss_one (ps_setLc (i := 3) (own := [("one", 7), ("other", 13)]) (g := (gTup K 2 (gCons (gName 7) (gCons (gName 13) gNil)))) (tt := tYes) (by rfl) nd rfl rfl (sw_true rfl rfl rfl (by decide +kernel)) (RZ.pi_zipA (by rfl) T.n_zip (pa_cons (pv 3) (pa_cons (pv 8) pa_nil))) (blkOk_by (own := [("one", 7), ("other", 13)]) (N := N_law_far_due) (sc := defScope s_law_far_due) (by decide +kernel)) (fun _ _ _ _ _ => (pg_tup rfl (pgs_cons (pg_name (i := 7) nd rfl (Or.inl rfl)) (pgs_cons (pg_name (i := 13) nd rfl (Or.inl rfl)) pgs_nil)))) (fun _ _ _ _ _ => pts_nil) (fun _ _ _ _ _ => (pe_op op_add (pv 7) (pv 13)))))) pss_nil))))))))))
      (pss_one (ps_ret (pv 2)))))), ?_⟩
    walk_at "op"
    have hst : L2.start N_law_far_due [V.ref ah, V.ref sa] = [some (V.ref ah), some (V.ref sa), none, none, none, none, none, none, none, none, none, none, none, none] := rfl
    rw [hst]
    refine ⟨Nat.zero_le _, fun R0 hR0 => ?_⟩
    refine ⟨by show 1 ≤ sizeLine; decide, fun z0 hz0 => ?_⟩
    have s2 : Same H (upd (upd H R0 (.lst [])) z0 (.lst [V.int 0])) := (same_new hR0).trans (same_new hz0)
    have nR0z : R0 ≠ z0 := ne_of_none upd_same hz0
    try dsimp only [List.set]
    refine ⟨_, rfl, sa, xs ++ [.int out], 0, .ref c0, rfl, rfl, SqT.of (s2 _ _ hsa), atI_nat (j := 0) (by rw [List.getElem?_append_left (by omega)]; exact hx0), c0, _, rfl, .inr (SqT.of (s2 _ _ hc0)), z0, _, _, rfl, rfl, upd_same, by omega, by rw [List.length_map, hl0]; omega, by rw [sizeLine_eq, List.length_map, hl0]; show 1 * _ ≤ _; omega, fun R1 hR1 => ?_⟩
    rw [List.length_map, hl0, rep_zero]
    have nR01 : R0 ≠ R1 := ne_of_none (by rw [upd_ne nR0z]; exact upd_same) hR1
    have s3 := s2.trans (same_new (o := .lst ((List.replicate m (0 : Int)).map V.int)) hR1)
    have hRR0 : upd (upd (upd H R0 (.lst [])) z0 (.lst [V.int 0])) R1 (.lst ((List.replicate m (0 : Int)).map V.int)) R0 = some (.lst []) := by rw [upd_ne nR01, upd_ne nR0z]; exact upd_same
    have hRR1 : upd (upd (upd H R0 (.lst [])) z0 (.lst [V.int 0])) R1 (.lst ((List.replicate m (0 : Int)).map V.int)) R1 = some (.lst ((List.replicate m (0 : Int)).map V.int)) := upd_same
    generalize upd (upd (upd H R0 (.lst [])) z0 (.lst [V.int 0])) R1 (.lst ((List.replicate m (0 : Int)).map V.int)) = G2 at *
    have zl := FmC.zero_len m
    have zc : FmC.cnt (List.replicate m (0 : Int)) = fun _ => 0 := by
      rw [← FmC.rowOf_zero]
      exact FmC.rowOf_cnt fun _ _ => rfl
    try dsimp only [List.set]
    walk_at "op"
    refine ⟨_, rfl, _, rfl, ah, sa, hs, xs ++ [.int out], rfl, .inr ⟨SqT.of (s3 _ _ hah), SqT.of (s3 _ _ hsa), ?_⟩⟩
    refine fI (walk_zipLe (by rw [List.length_append, hhl, hxl]; omega)) (fun i σ G => ∃ (u4 u5 u6 u8 u9 u10 u11 u12 : Option V) (Rr : Addr) (tws : List V) (told : List (List Int)) (R C : Nat → List Int), σ = [some (.ref ah), some (.ref sa), some (.ref R0), some (.ref Rr), u4, u5, u6, none, u8, u9, u10, u11, u12, none] ∧ Same H G ∧ LL G p R0 tws told ∧ told.length = i ∧ G Rr = some (.lst ((R i).map V.int)) ∧ Rr ≠ R0 ∧ (R i).length = m ∧ FmC.NN (R i) ∧
        R 0 = List.replicate m 0 ∧ ∀ f, f < i → told[f]? = some (FmC.addR (rows.getD f []) (R f)) ∧ (C f).length = m ∧ FmC.NN (C f) ∧ (C f).sum ≤ 1 ∧ (R (f + 1)).length = m ∧ FmC.NN (R (f + 1)) ∧ FmC.RunA m (goN fs 0) (goN fs 1) f (FmC.pairS (FmC.cnt (FmC.addR (rows.getD f []) (R f))) fun _ => 0) (FmC.pairS (FmC.cnt (C f)) (FmC.cnt (R (f + 1)))))
      ⟨none, none, none, none, none, none, none, none, R1, [], [], fun _ => List.replicate m 0, fun _ => [], rfl, s3, LL.nil hRR0, rfl, hRR1, nR01.symm, zl.1, zl.2, rfl, fun f hf => absurd hf (Nat.not_lt_zero f)⟩
      (fun i σ G _ ⟨_, _, _, _, _, _, _, _, _, _, _, _, _, _, e, _⟩ => ⟨SqT.of (e _ _ hah), SqT.of (e _ _ hsa)⟩) ?_ ?_
    · rintro i x σ G4 _ hi ⟨u4, u5, u6, u8, u9, u10, u11, u12, Rr, tws, told, Rs, Cs, rfl, sH, hLL4, htl, hRr, nRr, hrl, hrn, hR00, hall⟩ ⟨T1, y1, y2, rfl, hT1, rfl, g1, g2⟩
      dsimp only at g1 g2
      rw [hhl] at hi
      obtain ⟨ah', af, hs', t0, t1, e', gg1, gg2, gg3, hF⟩ := floor_at hD hN hi
      cases e'
      rw [hah] at gg1
      cases gg1
      rw [gg3] at g1
      cases g1
      obtain ⟨ss, hss, hsl⟩ := stay_len hD hN hi hah gg3 hF
      have hri : rows[i]? = some (rows[i]'(by omega)) := List.getElem?_eq_getElem _
      rw [List.getElem?_append_left (by omega)] at g2
      obtain ⟨d, hd1, hd2⟩ := hx.at g2
      rw [List.getElem?_map, hri] at hd1
      cases hd1
      obtain ⟨cb, rfl, hcb, _⟩ := row_parts hd2
      have hcm : rows[i]'(by omega) ∈ rows := List.getElem_mem _
      have hcl := ok.len _ hcm
      have hcn : FmC.NN (rows[i]'(by omega)) := ok.pos _ hcm
      have hgd : rows.getD i [] = rows[i]'(by omega) := by rw [List.getD_eq_getElem?_getD, hri]; rfl
      generalize rows[i]'(by omega) = c at *
      generalize hRsi : Rs i = r at *
      have sT := same_new (o := .tup [V.ref af, .ref cb]) hT1
      walk_at "op"
      refine ⟨T1, _, rfl, SqT.of upd_same, rfl, _, _, rfl, _, _, rfl, rfl, ?_⟩
      have sHT := sH.trans sT
      have hRr5 := sT _ _ hRr
      have hLL5 := hLL4.same sT
      generalize upd G4 T1 (.tup [V.ref af, .ref cb]) = G5 at *
      have hlen : (c.map V.int).length = (r.map V.int).length := by rw [List.length_map, List.length_map, hcl, hrl]
      have hal := FmC.addR_len hcl hrl
      try dsimp only [List.set]
      refine ⟨_, rfl, _, rfl, cb, Rr, c.map V.int, r.map V.int, rfl, SqT.of (sHT _ _ hcb), SqL.of hRr5, fun Hr hHr => ?_⟩
      refine lI (walk_zipTM hlen) (fun j G6 => Same G5 G6 ∧ G6 Hr = some (.lst (((FmC.addR c r).take j).map V.int))) ⟨same_new hHr, upd_same⟩ (fun j G6 _ ⟨e, _⟩ => ⟨SqT.of (e _ _ (sHT _ _ hcb)), SqL.of (e _ _ hRr5)⟩) ?_ ?_
      · rintro j x G6 _ hj ⟨s6, hH6⟩ ⟨T2, w1, w2, rfl, hT2, rfl, k1, k2⟩
        dsimp only at k1 k2
        rw [List.length_map] at hj
        rw [getD_at (by omega)] at k1
        cases k1
        rw [getD_at (by omega)] at k2
        cases k2
        have nHT : Hr ≠ T2 := ne_of_none hH6 hT2
        have hga : (FmC.addR c r)[j]? = some (c.getD j 0 + r.getD j 0) := by
          have := FmC.addR_get (by omega : c.length = r.length) j
          rw [← this, List.getD_eq_getElem?_getD, List.getElem?_eq_getElem (by rw [FmC.addR_len hcl hrl]; omega)]
          rfl
        walk_at "op"
        refine ⟨T2, _, rfl, SqT.of upd_same, rfl, _, _, rfl, _, _, rfl, rfl, ?_⟩
        refine ⟨rfl, ?_⟩
        refine iteT ?_
        refine ⟨_, rfl, _, rfl, _, _, rfl, rfl, _, by rw [upd_ne nHT]; exact hH6, by rw [List.length_map, List.length_take]; exact Nat.lt_of_le_of_lt (Nat.min_le_left _ _) (by rw [sizeLine_eq]; omega), sameOff (s6.trans (same_new hT2)) hHr, ?_⟩
        rw [upd_same, tk_snoc hga, List.map_append]
        rfl
      · rintro G6 ⟨s6, hH6⟩
        rw [List.length_map, hcl, ← hal, List.take_length] at hH6
        have sH6 := sHT.trans s6
        have hLL6 := hLL5.same s6
        have hlt : tws.length ≤ 4 := by
          rw [hLL4.len]
          omega
        have nHR : Hr ≠ R0 := (ne_of_none hLL5.at_ hHr).symm
        have nHp : Hr ≠ p := pne_of hp sHT hHr
        walk_at "op"
        refine ⟨_, rfl, .inl ⟨rfl, _, SqL.of hLL6.at_⟩, _, rfl, R0, tws, .ref Hr, rfl, rfl, hLL6.at_, small1000 (by omega), by show 1 ≤ sizeLine; decide, fun z1 hz1 => ?_⟩
        have hR0H := hR0
        have hLL8 := hLL6.snoc hH6 nHR nHp
        have sH8 : Same H (upd G6 R0 (.lst (tws ++ [V.ref Hr]))) := sameOff sH6 hR0H
        have hH8 : upd G6 R0 (.lst (tws ++ [V.ref Hr])) Hr = some (.lst ((FmC.addR c r).map V.int)) := by
          rw [upd_ne nHR]
          exact hH6
        clear hLL6 hLL5 hLL4
        generalize upd G6 R0 (.lst (tws ++ [V.ref Hr])) = G8 at *
        have sz := same_new (o := .lst [V.int 0]) hz1
        refine ⟨_, rfl, Hr, _, rfl, .inl (SqL.of (sz _ _ hH8)), z1, _, _, rfl, rfl, upd_same, by omega, by rw [List.length_map, hal]; omega, by rw [sizeLine_eq, List.length_map, hal]; show 1 * _ ≤ _; omega, fun Lg hLg => ?_⟩
        rw [List.length_map, hal, rep_zero]
        have s9 := sz.trans (same_new (o := .lst ((List.replicate m (0 : Int)).map V.int)) hLg)
        have hLg9 : upd (upd G8 z1 (.lst [V.int 0])) Lg (.lst ((List.replicate m (0 : Int)).map V.int)) Lg = some (.lst ((List.replicate m (0 : Int)).map V.int)) := upd_same
        have nLg : Lg ≠ R0 := (ne_of_none (sz _ _ hLL8.at_) hLg).symm
        generalize upd (upd G8 z1 (.lst [V.int 0])) Lg (.lst ((List.replicate m (0 : Int)).map V.int)) = G9 at *
        have hLL9 := hLL8.same s9
        have hH9 := s9 _ _ hH8
        have sH9 := sH8.trans s9
        clear hLL8 hH8 sH8 sH6 hH6 s6 sz s9 hz1 hHr hT1 sHT sT hRr5 hRr sH hLg
        refine ⟨_, _, rfl, ?_⟩
        refine ⟨_, rfl, Hr, _, rfl, SqL.of hH9, ?_⟩
        have hcn' := FmC.addR_nn hcn hrn
        generalize hcmE : FmC.addR c r = cm at *
        refine fI walk_enum (fun a σ G => ∃ (v8 v10 v11 v12 : Option V) (Lx : Addr) (o : Option Nat) (g : List Int), σ = [some (V.ref ah), some (V.ref sa), some (V.ref R0), some (V.ref Lx), some (V.ref af), some (V.ref cb), some (V.ref Hr), none, v8, some (optV o), v10, v11, v12, none] ∧ Same G9 G ∧ G Lx = some (.lst (g.map V.int)) ∧ Lx ≠ R0 ∧ g.length = m ∧ FmC.NN g ∧ (∀ h, o = some h → h < m) ∧ FmC.FoldI m (goN fs 0 i) (goN fs 1 i) cm a (FmC.optC o) (FmC.cnt g))
          ⟨u8, u10, u11, u12, Lg, none, List.replicate m 0, rfl, Same.refl _, hLg9, nLg, zl.1, zl.2, fun h e => (by cases e), by rw [zc, FmC.optC_none]; exact FmC.FoldI.nil cm⟩ (fun _ _ _ _ ⟨_, _, _, _, _, _, _, _, e, _⟩ => SqL.of (e _ _ hH9)) ?_ ?_
        · rintro a x σ G _ ha ⟨v8, v10, v11, v12, Lx, o, g, rfl, sG, hLx, nLx, hgl, hgn, hom, hfo⟩ ⟨T2, w1, w2, rfl, hT2, rfl, k1, k2⟩
          dsimp only at k1 k2
          cases k1
          rw [List.length_map, hal] at ha
          have hra : cm[a]? = some (cm[a]'(by omega)) := List.getElem?_eq_getElem (by omega)
          rw [List.getElem?_map, hra] at k2
          cases k2
          obtain ⟨N, hN'⟩ : ∃ N : Nat, cm[a]'(by omega) = (N : Int) := ⟨(cm[a]'(by omega)).toNat, by have := hcn' _ (List.getElem_mem (by omega : a < cm.length)); omega⟩
          rw [hN'] at hra ⊢
          walk_at "op"
          refine ⟨T2, _, rfl, SqT.of upd_same, rfl, _, _, rfl, _, _, rfl, rfl, ?_⟩
          have sG2 := sG.trans (same_new (o := .tup [V.int (a : Nat), V.int (N : Nat)]) hT2)
          have hLx2 := (same_new (o := .tup [V.int (a : Nat), V.int (N : Nat)]) hT2) _ _ hLx
          generalize upd G T2 (.tup [V.int (a : Nat), V.int (N : Nat)]) = G10 at *
          try dsimp only [List.set]
          cases o with
          | some h1 =>
            refine ⟨_, rfl, _, rfl, rfl, false, by rw [decide_eq_false (fun z => by cases z)], ?_⟩
            rw [if_neg (by decide)]
            refine .inr ⟨false, rfl, _, _, rfl, rfl, ?_⟩
            have el : ((N : Nat) : Int) - (if false = true then 1 else 0) = ((N : Nat) : Int) := by rw [if_neg (by decide)]; omega
            rw [el]
            try dsimp only [List.set]
            refine ⟨_, rfl, rfl, false, by rw [decide_eq_false (fun z => by cases z)], ?_⟩
            rw [if_neg (by decide), if_neg (by decide)]
            have hHH := hom h1 rfl
            rw [FmC.optC_some] at hfo
            have hFo := FmC.FoldI.one hcn' hra hfo
            rw [Int.toNat_natCast] at hFo
            refine ⟨_, rfl, ?_⟩
            try dsimp only [List.set]
            refine ⟨_, rfl, _, _, rfl, rfl, ?_⟩
            refine ⟨decide (0 < ((N : Nat) : Int)), rfl, ?_⟩
            by_cases hl0 : 0 < N
            · rw [if_pos (decide_eq_true (by omega))]
              have s10H := sH9.trans sG2
              refine ⟨_, rfl, _, rfl, _, rfl, _, rfl, af, t0, t1, p, u, ss, m, h1, a, N, goN fs 0 i, goN fs 1 i, rfl, s10H _ _ hp, hF.same s10H, s10H _ _ hss, hsl, hmn.2.2.1, hmn.2.2.2, hHH, ha, fun Tp Lp h' gp G11 hTp hLp hgpl hgpn hPp s11 => ?_⟩
              refine ⟨Tp, _, rfl, SqT.of hTp, rfl, _, _, rfl, _, _, rfl, rfl, ?_⟩
              try dsimp only [List.set]
              have hLx11 := s11 _ _ hLx2
              have hfp := hFo.push hPp
              have ecn : (fun x => FmC.cnt g x + FmC.cnt gp x) = FmC.cnt (FmC.addR g gp) := (FmC.cnt_add (by omega) hgn hgpn).symm
              rw [ecn] at hfp
              refine ⟨_, rfl, _, rfl, Lx, Lp, _, _, rfl, .inl ⟨SqL.of hLx11, SqL.of hLp, fun Ln hLn => ?_⟩⟩
              have nLn : Ln ≠ R0 := (ne_of_none ((sG2.trans s11) _ _ hLL9.at_) hLn).symm
              refine lI (walk_zip (n := m) (by rw [List.length_map, List.length_map, hgl, hgpl, Nat.min_self])) (fun j G6 => Same G11 G6 ∧ G6 Ln = some (.lst (((FmC.addR g gp).take j).map V.int))) ⟨same_new hLn, upd_same⟩ (fun j G6 _ ⟨e, _⟩ => ⟨SqL.of (e _ _ hLx11), SqL.of (e _ _ hLp)⟩) ?_ ?_
              · rintro j x G6 _ hj ⟨s6, hH6⟩ ⟨T2, w1, w2, rfl, hT2, rfl, k1, k2⟩
                dsimp only at k1 k2
                rw [getD_at (by omega)] at k1
                cases k1
                rw [getD_at (by omega)] at k2
                cases k2
                have nHT : Ln ≠ T2 := ne_of_none hH6 hT2
                have hga : (FmC.addR g gp)[j]? = some (g.getD j 0 + gp.getD j 0) := by
                  have := FmC.addR_get (by omega : g.length = gp.length) j
                  rw [← this, List.getD_eq_getElem?_getD, List.getElem?_eq_getElem (by rw [FmC.addR_len hgl hgpl]; omega)]
                  rfl
                walk_at "op"
                refine ⟨T2, _, rfl, SqT.of upd_same, rfl, _, _, rfl, _, _, rfl, rfl, ?_⟩
                refine ⟨rfl, ?_⟩
                refine iteT ?_
                refine ⟨_, rfl, _, rfl, _, _, rfl, rfl, _, by rw [upd_ne nHT]; exact hH6, by rw [List.length_map, List.length_take]; exact Nat.lt_of_le_of_lt (Nat.min_le_left _ _) (by rw [sizeLine_eq]; omega), sameOff (s6.trans (same_new hT2)) hLn, ?_⟩
                rw [upd_same, tk_snoc hga, List.map_append]
                rfl
              · rintro G12 ⟨s12, hLn12⟩
                have hgs := FmC.addR_len hgl hgpl
                rw [← hgs, List.take_length] at hLn12
                exact ⟨_, _, _, _, Ln, some h', FmC.addR g gp, rfl, (sG2.trans s11).trans s12, hLn12, nLn, hgs, FmC.addR_nn hgn hgpn, fun h e => (by cases e; exact hPp.1), by rw [FmC.optC_some]; exact hfp⟩
            · rw [if_neg (by rw [decide_eq_true_eq]; omega)]
              have e0 : N = 0 := by omega
              rw [e0, FmC.push_none] at hFo
              exact ⟨_, _, _, _, Lx, some h1, g, rfl, sG2, hLx2, nLx, hgl, hgn, fun h e => (by cases e; exact hHH), by rw [FmC.optC_some]; exact hFo⟩
          | none =>
            rw [FmC.optC_none] at hfo
            by_cases hN0 : 0 < N
            · refine ⟨_, rfl, _, rfl, rfl, true, by rw [decide_eq_true (show optV none = V.non from rfl)], ?_⟩
              rw [if_pos rfl]
              refine ⟨_, rfl, _, _, rfl, rfl, .inr ⟨true, by rw [decide_eq_true (by omega)], _, _, rfl, rfl, ?_⟩⟩
              have el : ((N : Nat) : Int) - (if true = true then 1 else 0) = ((N - 1 : Nat) : Int) := by rw [if_pos rfl]; omega
              rw [el]
              try dsimp only [List.set]
              refine ⟨_, rfl, rfl, true, by rw [decide_eq_true (show optV none = V.non from rfl)], ?_⟩
              rw [if_pos rfl]
              refine ⟨_, rfl, _, _, rfl, rfl, true, by rw [decide_eq_true (by omega)], ?_⟩
              rw [if_pos rfl]
              have hHH : a < m := ha
              have hFo := FmC.FoldI.first hcn' hra (by omega) hfo
              rw [show (((N : Nat) : Int) - 1).toNat = N - 1 by omega] at hFo
              refine ⟨_, rfl, ?_⟩
              try dsimp only [List.set]
              refine ⟨_, rfl, _, _, rfl, rfl, ?_⟩
              refine ⟨decide (0 < (((N - 1) : Nat) : Int)), rfl, ?_⟩
              by_cases hl0 : 0 < (N - 1)
              · rw [if_pos (decide_eq_true (by omega))]
                have s10H := sH9.trans sG2
                refine ⟨_, rfl, _, rfl, _, rfl, _, rfl, af, t0, t1, p, u, ss, m, a, a, (N - 1), goN fs 0 i, goN fs 1 i, rfl, s10H _ _ hp, hF.same s10H, s10H _ _ hss, hsl, hmn.2.2.1, hmn.2.2.2, hHH, ha, fun Tp Lp h' gp G11 hTp hLp hgpl hgpn hPp s11 => ?_⟩
                refine ⟨Tp, _, rfl, SqT.of hTp, rfl, _, _, rfl, _, _, rfl, rfl, ?_⟩
                try dsimp only [List.set]
                have hLx11 := s11 _ _ hLx2
                have hfp := hFo.push hPp
                have ecn : (fun x => FmC.cnt g x + FmC.cnt gp x) = FmC.cnt (FmC.addR g gp) := (FmC.cnt_add (by omega) hgn hgpn).symm
                rw [ecn] at hfp
                refine ⟨_, rfl, _, rfl, Lx, Lp, _, _, rfl, .inl ⟨SqL.of hLx11, SqL.of hLp, fun Ln hLn => ?_⟩⟩
                have nLn : Ln ≠ R0 := (ne_of_none ((sG2.trans s11) _ _ hLL9.at_) hLn).symm
                refine lI (walk_zip (n := m) (by rw [List.length_map, List.length_map, hgl, hgpl, Nat.min_self])) (fun j G6 => Same G11 G6 ∧ G6 Ln = some (.lst (((FmC.addR g gp).take j).map V.int))) ⟨same_new hLn, upd_same⟩ (fun j G6 _ ⟨e, _⟩ => ⟨SqL.of (e _ _ hLx11), SqL.of (e _ _ hLp)⟩) ?_ ?_
                · rintro j x G6 _ hj ⟨s6, hH6⟩ ⟨T2, w1, w2, rfl, hT2, rfl, k1, k2⟩
                  dsimp only at k1 k2
                  rw [getD_at (by omega)] at k1
                  cases k1
                  rw [getD_at (by omega)] at k2
                  cases k2
                  have nHT : Ln ≠ T2 := ne_of_none hH6 hT2
                  have hga : (FmC.addR g gp)[j]? = some (g.getD j 0 + gp.getD j 0) := by
                    have := FmC.addR_get (by omega : g.length = gp.length) j
                    rw [← this, List.getD_eq_getElem?_getD, List.getElem?_eq_getElem (by rw [FmC.addR_len hgl hgpl]; omega)]
                    rfl
                  walk_at "op"
                  refine ⟨T2, _, rfl, SqT.of upd_same, rfl, _, _, rfl, _, _, rfl, rfl, ?_⟩
                  refine ⟨rfl, ?_⟩
                  refine iteT ?_
                  refine ⟨_, rfl, _, rfl, _, _, rfl, rfl, _, by rw [upd_ne nHT]; exact hH6, by rw [List.length_map, List.length_take]; exact Nat.lt_of_le_of_lt (Nat.min_le_left _ _) (by rw [sizeLine_eq]; omega), sameOff (s6.trans (same_new hT2)) hLn, ?_⟩
                  rw [upd_same, tk_snoc hga, List.map_append]
                  rfl
                · rintro G12 ⟨s12, hLn12⟩
                  have hgs := FmC.addR_len hgl hgpl
                  rw [← hgs, List.take_length] at hLn12
                  exact ⟨_, _, _, _, Ln, some h', FmC.addR g gp, rfl, (sG2.trans s11).trans s12, hLn12, nLn, hgs, FmC.addR_nn hgn hgpn, fun h e => (by cases e; exact hPp.1), by rw [FmC.optC_some]; exact hfp⟩
              · rw [if_neg (by rw [decide_eq_true_eq]; omega)]
                have e0 : (N - 1) = 0 := by omega
                rw [e0, FmC.push_none] at hFo
                exact ⟨_, _, _, _, Lx, some a, g, rfl, sG2, hLx2, nLx, hgl, hgn, fun h e => (by cases e; exact hHH), by rw [FmC.optC_some]; exact hFo⟩
            · have hNz : N = 0 := by omega
              subst hNz
              refine ⟨_, rfl, _, rfl, rfl, true, by rw [decide_eq_true (show optV none = V.non from rfl)], ?_⟩
              rw [if_pos rfl]
              refine ⟨_, rfl, _, _, rfl, rfl, .inr ⟨false, by rw [decide_eq_false (by omega)], _, _, rfl, rfl, ?_⟩⟩
              have el : ((0 : Nat) : Int) - (if false = true then 1 else 0) = 0 := by rw [if_neg (by decide)]; rfl
              rw [el]
              try dsimp only [List.set]
              refine ⟨_, rfl, rfl, true, by rw [decide_eq_true (show optV none = V.non from rfl)], ?_⟩
              rw [if_pos rfl]
              refine ⟨_, rfl, _, _, rfl, rfl, false, by rw [decide_eq_false (by omega)], ?_⟩
              rw [if_neg (by decide)]
              refine ⟨_, rfl, ?_⟩
              try dsimp only [List.set]
              refine ⟨_, rfl, _, _, rfl, rfl, ?_⟩
              refine ⟨false, by rw [decide_eq_false (by omega)], ?_⟩
              rw [if_neg (by decide)]
              exact ⟨_, _, _, _, Lx, none, g, rfl, sG2, hLx2, nLx, hgl, hgn, fun h e => (by cases e), by rw [FmC.optC_none]; exact hfo.zero hcn' hra⟩
        · rintro σ G ⟨v8, v10, v11, v12, Lx, o, g, rfl, sG, hLx, nLx, hgl, hgn, hom, hfo⟩
          rw [List.length_map, hal] at hfo
          have hLL10 := hLL9.same sG
          have etk : cm.take m = cm := List.take_of_length_le (by omega)
          have hor : FmC.cnt (FmC.rowOf m (FmC.optC o)) = FmC.optC o := FmC.rowOf_cnt fun x hx => by
            unfold FmC.optC
            rw [if_neg fun z => by have := hom x z; omega]
          have hos : (FmC.rowOf m (FmC.optC o)).sum ≤ 1 := by
            have q := FmC.sum_cnt_eq (FmC.rowOf_len m (FmC.optC o)) (FmC.rowOf_nn m (FmC.optC o))
            rw [hor] at q
            have : FmC.sumTo m (FmC.optC o) ≤ 1 := by
              cases o with
              | none => rw [FmC.optC_none, FmC.sumTo_zero]; omega
              | some h => rw [FmC.optC_some]; unfold FmC.d1; rw [FmC.sumTo_at (hom h rfl)]; omega
            omega
          refine ⟨_, _, _, _, _, _, _, _, Lx, tws ++ [.ref Hr], told ++ [cm], (fun k => if k = i + 1 then g else Rs k), (fun k => if k = i then FmC.rowOf m (FmC.optC o) else Cs k), rfl, sH9.trans sG, hLL10, by rw [List.length_append, htl]; rfl, by dsimp only; rw [if_pos rfl]; exact hLx, nLx, by dsimp only; rw [if_pos rfl]; exact hgl, by dsimp only; rw [if_pos rfl]; exact hgn, by dsimp only; rw [if_neg (by omega)]; exact hR00, fun f hf => ?_⟩
          dsimp only
          by_cases hfi : f = i
          · subst hfi
            rw [if_neg (by omega), if_pos rfl, if_pos rfl, hRsi, hgd, List.getElem?_append_right (by omega), htl, Nat.sub_self, hor]
            unfold FmC.FoldI at hfo
            rw [etk] at hfo
            rw [hcmE]
            exact ⟨rfl, FmC.rowOf_len _ _, FmC.rowOf_nn _ _, hos, hgl, hgn, hfo⟩
          · obtain ⟨a1, a2⟩ := hall f (by omega)
            rw [if_neg (by omega), if_neg hfi, if_neg (by omega), List.getElem?_append_left (by omega)]
            exact ⟨a1, a2⟩
    · rintro σ G4 ⟨u4, u5, u6, u8, u9, u10, u11, u12, Rr, tws, told, Rs, Cs, rfl, sH, hLL4, htl, hRr, nRr, hrl, hrn, hR00, hall⟩
      rw [hhl] at htl hall
      walk_at "op"
      exact ⟨_, rfl, k R0 tws told G4 ⟨htl, Rs, Cs, hR00, hall⟩ hLL4 (pne_of hp (Same.refl H) hR0) sH⟩
end
end Fm
end FFDU
section FFmCallG
set_option Elab.async false
set_option linter.all false
set_option maxRecDepth 100000
set_option maxHeartbeats 2000000
namespace Fm
open PySem PySem.Spec PyProof.Rows L2
/-- a def that makes texts of nested data: its promise, where no text is being made of anything around it -/
def CallG (P : Program) (w : World) (K : PySem.W.Frag) (mg : Str → Option Value) (base : Heap) (k : Nat) (x : Str) (ps : List Str) (sp : Sp) : Prop :=
  ∃ f fd, RunG P w K mg base k f fd ps sp ∧ (∀ vs H Q E, sp vs H Q E → vs.length = ps.length) ∧ mg x = some (.ref f) ∧ PySem.W.keepIn K (.ref f) = true ∧ Binds K fd ps []
section
variable {P : Program} {w : World} {K : PySem.W.Frag} {mg : Str → Option Value} {base : Heap}
theorem df_okG {x : Str} {st : Stmt} {N ps : List Str} {k : Nat} {sp : Sp} (D : Df K mg x st ps) (S : FnScope N ps (defScope st)) (hl : ∀ vs H Q E, sp vs H Q E → vs.length = ps.length)
    (b : ∀ (f : Addr) (cdv : Value) (A : Around) (outer : List Env) (s : Shared) (H : Hp) (vs : List V) (Q : VK), (A.deeper (envOfC x (defScope st) s.heap.objs.size f cdv)).guards = some [] → Room k (A.deeper (envOfC x (defScope st) s.heap.objs.size f cdv)) → sp vs H Q E0 →
      ∃ t, PSs (cxOf CX0 P w K mg base N x (defScope st) f cdv A outer s H E0).nox (defBody st) t ∧ t { nx := fun _ H' => Q .non H', rt := Q } (start N vs) H) :
    CallG P w K mg base (k + 1) x ps sp := by
  obtain ⟨f, fd, F, hm, hb⟩ := D.ex
  exact ⟨f, fd, run_g F S (b f), hl, hm, F.kp, hb⟩
end
section
variable {X : Cx} {k : Nat} {x : Str} {ps : List Str} {sp : Sp} {p pos : Pos} {e : Expr} {es : List Expr} {t : TA}
theorem pe_cg (c : CallG X.prog X.w X.K X.mg X.base k x ps sp) (hgd : X.A.guards = some []) (hr : Room k X.A) (ha : PA X (e :: es) t) (hg : Gl X x := by rfl) (hd : (x == ("__debug__" : Str)) = false := by decide)
    (he : starEach (e :: es) X.env = (false, eval e X.env) :: starEach es X.env := by rfl) (hp : (backTo pos (starEach es X.env)).any (·.1) = false := by rfl) :
    PE X (.Call (.Name x p) (e :: es) [] pos) (tCall sp [] E0 t) := by
  obtain ⟨f, fd, F, hl, hm, hk, hb⟩ := c
  refine ⟨fun pins s σ H Q I h => ?_⟩
  refine wpAny_Call_Name_kw (ld_glob I hg hm ?_ hd)
  refine PySem.W.callWith_K (h₀ := X.base) I.ok.mod.kin hk (thn (ha.run pos pins s σ H _ I h) fun us s1 ⟨vs, H1, I1, r, q⟩ => ⟨I1.kIn, ?_⟩) he hp
  have q' : sp vs H1 Q E0 := by
    have : sp (vs ++ []) H1 Q E0 := q
    rw [List.append_nil] at this
    exact this
  have hlen := hl _ _ _ _ q'
  have hb' : BindsTo s1 fd ⟨us, []⟩ (ps.zip us) := by
    have := hb s1 us I1.kIn (by rw [List.append_nil, ← r.length]; exact hlen)
    rw [List.append_nil] at this
    exact this
  refine wpAny_call (codeAny_mono (F X.A X.stack s1 H1 ⟨us, []⟩ us vs Q hgd hr I1.env0 hb' r hlen q') fun r s' hq => ?_)
  obtain ⟨u, rfl, hq⟩ := hq
  exact I1.after hq
end
end Fm
end FFmCallG
section FFmZipM
set_option Elab.async false
set_option linter.all false
set_option maxRecDepth 100000
set_option maxHeartbeats 4000000
namespace Fm
open PySem PySem.Spec PyProof.Rows L2
/-! ### zip(a list, a tuple) -/
def ItzM (K : PySem.W.Frag) (a b : Addr) : It :=
  ⟨fun i H => ∃ (xs ys : List V) (x y : V), SqL K H a xs ∧ SqT K H b ys ∧ xs[i]? = some x ∧ ys[i]? = some y,
    fun i H v H' => ∃ (T : Addr) (x y : V), v = .ref T ∧ H T = none ∧ H' = upd H T (.tup [x, y]) ∧ (∀ xs, SqL K H a xs → xs[i]? = some x) ∧ ∀ ys, SqT K H b ys → ys[i]? = some y,
    fun i H => ∃ xs ys : List V, SqL K H a xs ∧ SqT K H b ys ∧ i ≤ xs.length ∧ i ≤ ys.length ∧ (i = xs.length ∨ i = ys.length)⟩
abbrev h1M (h : Heap) (a : Addr) : Heap := h.push { cls := .type "list_iterator", data := .fields #[.ref a, .int 0 0] }
abbrev h2M (h : Heap) (a b : Addr) : Heap := (h1M h a).push { cls := .type "tuple_iterator", data := .fields #[.ref b, .int 0 0] }
abbrev h3M (h : Heap) (a b : Addr) : Heap := (h2M h a b).push { cls := .type "tuple", data := .seq #[.ref h.objs.size, .ref (h1M h a).objs.size] }
abbrev h4M (h : Heap) (a b : Addr) : Heap := (h3M h a b).push { cls := .type "tuple", data := .seq #[.none, .none] }
abbrev h5M (h : Heap) (a b : Addr) : Heap := (h4M h a b).push { cls := .type "zip", data := .fields #[.none, .bool false, .bool false, .ref (h2M h a b).objs.size, .ref (h3M h a b).objs.size] }
theorem meetsM (a b : Addr) (xs ys : Array Value) : Meets (Builtin.«zip.__new__» ⟨[.type "zip", .ref a, .ref b], []⟩) (fun _ R s => s.heap.IsList a xs ∧ s.heap.IsTuple b ys ∧ R (.ok (.ret (.ref (h4M s.heap a b).objs.size))) { s with heap := h5M s.heap a b }) :=
  .of_wp fun prog w A R s h => by
    obtain ⟨hp, g, d, tk, os⟩ := s
    obtain ⟨ha, hb, h⟩ := h
    have sz := sub_zip
    have hA : Heap.IsList (Shared.heap ⟨hp, g, d, tk, os⟩) a xs := ha
    have hB : Heap.IsTuple (Shared.heap ⟨hp.push { cls := .type "list_iterator", data := .fields #[.ref a, .int 0 0] }, g, d, tk, os⟩) b ys := Heap.IsTuple.push hb _
    wp_walk using wpAny_pyIter_list hA, wpAny_pyIter_tuple hB
    exact ⟨_, rfl, h⟩
theorem callM {prog : Program} {w : World} {A : Around} {E : Value → Shared → Prop} {s : Shared} {a b : Addr} {xs ys : Array Value} {Q : Value → Shared → Prop} (ha : s.heap.IsList a xs) (hb : s.heap.IsTuple b ys)
    (h : ∀ h', IsZip h' (s.heap.objs.size + 4) (s.heap.objs.size + 2) (s.heap.objs.size + 3) .none → IsPair h' (s.heap.objs.size + 2) (.ref s.heap.objs.size) (.ref (s.heap.objs.size + 1)) → IsPair h' (s.heap.objs.size + 3) .none .none →
      h'.IsListIter s.heap.objs.size a 0 → h'.IsTupleIter (s.heap.objs.size + 1) b 0 → (∀ c o, s.heap.get? c = some o → h'.get? c = some o) → Q (.ref (s.heap.objs.size + 4)) { s with heap := h' }) : wpAny (model prog w) A (call (.type "zip") [.ref a, .ref b]) Q E s := by
  refine callType_new F.called_zip (by decide) (F.typeCall_zip_2 _ _) (F.newCall_zip_2 _ _) (fun obj => F.args_object_init_3 obj _ _) F.entry_zip_new (meetsM a b xs ys) ⟨ha, hb, ?_⟩
  have e1 : (h1M s.heap a).objs.size = s.heap.objs.size + 1 := Heap.size_push ..
  have e2 : (h2M s.heap a b).objs.size = s.heap.objs.size + 2 := by rw [Heap.size_push, e1]
  have e3 : (h3M s.heap a b).objs.size = s.heap.objs.size + 3 := by rw [Heap.size_push, e2]
  have e4 : (h4M s.heap a b).objs.size = s.heap.objs.size + 4 := by rw [Heap.size_push, e3]
  have f5 : (h5M s.heap a b).get? (h4M s.heap a b).objs.size = some _ := Heap.get?_push_size _ rfl
  have f4 : (h5M s.heap a b).get? (h3M s.heap a b).objs.size = some _ := Heap.get?_push_of_some _ (Heap.get?_push_size _ rfl)
  have f3 : (h5M s.heap a b).get? (h2M s.heap a b).objs.size = some _ := Heap.get?_push_of_some _ (Heap.get?_push_of_some _ (Heap.get?_push_size _ rfl))
  have f2 : (h5M s.heap a b).get? (h1M s.heap a).objs.size = some _ := Heap.get?_push_of_some _ (Heap.get?_push_of_some _ (Heap.get?_push_of_some _ (Heap.get?_push_size _ rfl)))
  have f1 : (h5M s.heap a b).get? s.heap.objs.size = some _ := Heap.get?_push_of_some _ (Heap.get?_push_of_some _ (Heap.get?_push_of_some _ (Heap.get?_push_of_some _ (Heap.get?_push_size _ rfl))))
  rw [e2, e3, e4] at f5
  rw [e3] at f4
  rw [e1, e2] at f3
  rw [e1] at f2
  show _ ∧ _
  rw [e4]
  exact ⟨⟨_, f5, rfl⟩, h _ f5 f3 f4 ⟨_, f1, rfl, rfl⟩ ⟨_, f2, rfl, rfl⟩ fun c o x => Heap.get?_push_of_some _ (Heap.get?_push_of_some _ (Heap.get?_push_of_some _ (Heap.get?_push_of_some _ (Heap.get?_push_of_some _ x))))⟩
theorem turn_zipM {P : Program} {w : World} {K : PySem.W.Frag} {elts : List Expr} {kk : Nat} {tpos : Pos} {a b z TI TO i1 i2 : Addr} (D : ZipApart z TI TO i1 i2 a b) :
    Turn P w K (.Tuple elts kk tpos) (ItzM K a b) [z, TI, TO, i1, i2] z (fun i h => IsZip h z TI TO .none ∧ IsPair h TI (.ref i1) (.ref i2) ∧ (∃ x y, IsPair h TO x y) ∧ h.IsListIter i1 a i ∧ h.IsTupleIter i2 b i) := by
  have Sp : ZipSep2 z TI TO i1 i2 [i1, a] [i2, b] := ⟨D.TIz, D.TOz, D.TITO, D.TIi1, by simp, by simp [D.i1z.symm, D.l1z.symm], by simp [D.TOi1, D.l1TO.symm], D.TIi2, by simp, by simp [D.i2z.symm, D.l2z.symm], by simp [D.TOi2, D.l2TO.symm], by simp [D.i12, D.l2i1.symm], by simp [D.i12.symm, D.l1i2.symm]⟩
  exact {
    mem := by simp
    obj := fun i h st c hc => by
      obtain ⟨hz, hTI, ⟨x, y, hTO⟩, ⟨o1, e1, _, d1⟩, ⟨o2, e2, _, d2⟩⟩ := st
      simp only [List.mem_cons, List.not_mem_nil, or_false] at hc
      rcases hc with rfl | rfl | rfl | rfl | rfl
      · exact ⟨_, hz, fun v q => nomatch q⟩
      · exact ⟨_, hTI, fun v q => nomatch q⟩
      · exact ⟨_, hTO, fun v q => nomatch q⟩
      · exact ⟨o1, e1, fun v q => by rw [d1] at q; cases q⟩
      · exact ⟨o2, e2, fun v q => by rw [d2] at q; cases q⟩
    keep := fun i h h' st k => by
      obtain ⟨hz, hTI, ⟨x, y, hTO⟩, h1, h2⟩ := st
      exact ⟨k z (by simp) _ hz, k TI (by simp) _ hTI, ⟨x, y, k TO (by simp) _ hTO⟩, h1.at fun o q => k i1 (by simp) o q, h2.at fun o q => k i2 (by simp) o q⟩
    item := by
      intro X hP hw hK hc i pins s σ H E I hf st hg
      subst hP hw hK
      obtain ⟨hz, hTI, ⟨x0, y0, hTO⟩, h1, h2⟩ := st
      obtain ⟨xs, ys, x, y, qx, qy, hx, hy⟩ := hg
      obtain ⟨its, rv, pl, _⟩ := I.list qx
      obtain ⟨its2, rv2, ⟨o2, ho2, hc2, n2, hd2⟩, _⟩ := I.tuple qy
      have ht : s.heap.IsTuple b its2.toArray := ⟨o2, ho2, hc2, n2, hd2⟩
      obtain ⟨u, hu, ru⟩ := rv.get hx
      obtain ⟨u2, hu2, ru2⟩ := rv2.get hy
      have lt1 : i < its.toArray.size := by
        rw [List.size_toArray, ← rv.length]
        exact (List.getElem?_eq_some_iff.mp hx).1
      have lt2 : i < its2.toArray.size := by
        rw [List.size_toArray, ← rv2.length]
        exact (List.getElem?_eq_some_iff.mp hy).1
      have hzl : z < s.heap.objs.size := Heap.lt_size hz
      refine wpAny_pyNext_zipD2_item Sp (Draws.list (prog := X.prog) (w := X.w) (A := X.A.in1) (show X.A.in1.handled = none from I.ok.hd hc) i1 a D.l1i1 its.toArray) (Draws.tuple (prog := X.prog) (w := X.w) (A := X.A.in1) (show X.A.in1.handled = none from I.ok.hd hc) i2 b D.l2i2 its2.toArray)
        hz hTI hTO ⟨h1, pl.isList⟩ ⟨h2, ht⟩ lt1 lt2 fun v1 v2 h' tk e1 e2 hz' hTO' st1 st2 hnew hsz hk => ?_
      have ev1 : v1 = u := by
        have q : its.toArray[i]? = some u := by simpa using hu
        exact (Option.some.inj (q.symm.trans e1)).symm
      have ev2 : v2 = u2 := by
        have q : its2.toArray[i]? = some u2 := by simpa using hu2
        exact (Option.some.inj (q.symm.trans e2)).symm
      subst ev1 ev2
      refine ⟨_, rfl, wpAny_letOwnedTupleGo_zip (s := { s with heap := h', toks := tk }) hz' fun h3 hz3 sb => ?_⟩
      have hT3 : h3.get? s.heap.objs.size = some { cls := .type "tuple", data := .seq #[v1, v2] } := (sb.2 _ (Nat.ne_of_gt hzl)).trans hnew
      have new : ObjOk X.prog X.w (upd H s.heap.objs.size (.tup [x, y])) h3 s.heap.objs.size (.tup [x, y]) := ⟨show 2 ≤ sizeLine by decide, [v1, v2], .cons ru (.cons ru2 .nil), _, hT3, rfl, _, rfl⟩
      have old : ∀ c ob, c ∉ [z, TI, TO, i1, i2] → s.heap.get? c = some ob → h3.get? c = some ob := fun c ob hb q => by
        simp only [List.mem_cons, List.not_mem_nil, or_false, not_or] at hb
        exact (sb.2 c hb.1).trans (hk c ob hb.1 hb.2.2.1 hb.2.2.2.1 hb.2.2.2.2 q)
      have I1 := I.turnedNew (t' := tk) (ch := [z, TI, TO, i1, i2]) old hf (Nat.le_refl _) new
      refine ⟨.ref s.heap.objs.size, _, I1, rfl, ⟨_, x, y, rfl, I.hok.fresh (Nat.le_refl _), rfl, fun l hl => by rw [I.list_inj hl qx]; exact hx, fun l hl => by rw [I.tuple_inj hl qy]; exact hy⟩, ⟨hz3, ?_, ⟨_, _, (sb.2 _ D.TOz).trans hTO'⟩, st1.1.at fun ob q => (sb.2 i1 D.i1z).trans q, st2.1.at fun ob q => (sb.2 i2 D.i2z).trans q⟩, fun c hcm => ?_⟩
      · exact (sb.2 _ D.TIz).trans (hk _ _ D.TIz D.TITO D.TIi1 D.TIi2 hTI)
      · have lt : c < s.heap.objs.size := by
          have q := hcm
          simp only [List.mem_cons, List.not_mem_nil, or_false] at q
          rcases q with rfl | rfl | rfl | rfl | rfl
          · exact hzl
          · exact Heap.lt_size hTI
          · exact Heap.lt_size hTO
          · obtain ⟨_, q, _⟩ := h1; exact Heap.lt_size q
          · obtain ⟨_, q, _⟩ := h2; exact Heap.lt_size q
        rw [upd_ne (Nat.ne_of_lt lt)]
        exact (hf c hcm).1
    done := by
      intro X hP hw hK hc i pins s σ H E I hf st hg
      subst hP hw hK
      obtain ⟨hz, hTI, ⟨x0, y0, hTO⟩, h1, h2⟩ := st
      obtain ⟨xs, ys, qx, qy, l1, l2, hend⟩ := hg
      obtain ⟨its, rv, pl, _⟩ := I.list qx
      obtain ⟨its2, rv2, ⟨o2, ho2, hc2, n2, hd2⟩, _⟩ := I.tuple qy
      have ht : s.heap.IsTuple b its2.toArray := ⟨o2, ho2, hc2, n2, hd2⟩
      have z1 : its.toArray.size = xs.length := by rw [List.size_toArray, rv.length]
      have z2 : its2.toArray.size = ys.length := by rw [List.size_toArray, rv2.length]
      refine wpAny_pyNext_zipD2_end Sp (Draws.list (prog := X.prog) (w := X.w) (A := X.A.in1) (show X.A.in1.handled = none from I.ok.hd hc) i1 a D.l1i1 its.toArray) (Draws.tuple (prog := X.prog) (w := X.w) (A := X.A.in1) (show X.A.in1.handled = none from I.ok.hd hc) i2 b D.l2i2 its2.toArray)
        hz hTI hTO ⟨h1, pl.isList⟩ ⟨h2, ht⟩ (by omega) (by omega) (by omega) fun h' tk hk => ⟨rfl, I.turnedL (t' := tk) (ch := [z, TI, TO, i1, i2]) (fun c o hb q => ?_) hf⟩
      simp only [List.mem_cons, List.not_mem_nil, or_false, not_or] at hb
      exact hk c o hb.1 hb.2.2.1 hb.2.2.2.1 hb.2.2.2.2 q
    self := fun A i s Q E st h => wpAny_pyIter_zip st.1 h }
def iZipM (K : PySem.W.Frag) (ta : TA) : TI := fun σ H R => ta σ H fun vs H1 => ∃ (a b : Addr) (xs ys : List V), vs = [.ref a, .ref b] ∧ SqL K H1 a xs ∧ SqT K H1 b ys ∧ R (ItzM K a b) H1
theorem pi_zipM {X : Cx} {e e2 : Expr} {ta : TA} {p pos tpos : Pos} {elts : List Expr} {kk : Nat} (hg : Gl X "zip") (hm : X.mg "zip" = none) (ha : PA X [e, e2] ta)
    (hs : starEach [e, e2] X.env = (false, eval e X.env) :: starEach [e2] X.env := by rfl) (hpl : (backTo pos (starEach [e2] X.env)).any (·.1) = false := by rfl) : PI X (.Tuple elts kk tpos) (.Call (.Name "zip" p) [e, e2] [] pos) (iZipM X.K ta) := by
  refine ⟨fun pins s σ H R I h => Call_ (ld_blt I hg hm PyProof.Rows.boot_zip (PyProof.Rows.callWith_type1 (thn (ha.run pos pins s σ H _ I h) fun us s1 ⟨vs, H1, I1, r1, a, b, xs, ys, ex, qx, qy, q⟩ => ?_) hs hpl))⟩
  subst ex
  obtain ⟨w1, w2, rfl, ra, rb⟩ := vals2 r1
  cases ra
  cases rb
  obtain ⟨its, rv, pl, _⟩ := I1.list qx
  obtain ⟨its2, rv2, ⟨o2, ho2, hc2, n2, hd2⟩, _⟩ := I1.tuple qy
  have ht : s1.heap.IsTuple b its2.toArray := ⟨o2, ho2, hc2, n2, hd2⟩
  refine callM pl.isList ht fun h' hz hTI hTO h1 h2 hk => wpAny_pyIter_zip hz ?_
  have I2 : Inv X pins σ H1 { s1 with heap := h' } := I1.kept (t' := s1.toks) hk
  refine ⟨s1.heap.objs.size + 4, [s1.heap.objs.size + 4, s1.heap.objs.size + 2, s1.heap.objs.size + 3, s1.heap.objs.size, s1.heap.objs.size + 1], _, _, H1, rfl, I2, turn_zipM (PySem.W.ktu_apart s1.heap.objs.size a b pl.lt (Heap.lt_size ho2)), ⟨hz, hTI, ⟨_, _, hTO⟩, h1, h2⟩, fun c hc => ?_, q⟩
  have le : s1.heap.objs.size ≤ c := by
    simp only [List.mem_cons, List.not_mem_nil, or_false] at hc
    rcases hc with rfl | rfl | rfl | rfl | rfl
    · exact Nat.le_add_right _ _
    · exact Nat.le_add_right _ _
    · exact Nat.le_add_right _ _
    · exact Nat.le_refl _
    · exact Nat.le_add_right _ _
  exact I1.fpOk le (I1.hok.fresh le)
theorem walk_zipM {K : PySem.W.Frag} {a b : Addr} {xs ys : List V} (hl : xs.length = ys.length) : Walk (ItzM K a b) xs.length (fun H => SqL K H a xs ∧ SqT K H b ys) (YPair (fun i => xs[i]?) (fun i => ys[i]?)) := by
  refine ⟨fun i H hi q => ⟨xs, ys, xs[i], ys[i]'(by omega), q.1, q.2, List.getElem?_eq_getElem hi, List.getElem?_eq_getElem _⟩, fun H q => ⟨xs, ys, q.1, q.2, Nat.le_refl _, by omega, .inl rfl⟩, fun i H v H' hi q y => ?_⟩
  obtain ⟨T, x, y, h1, h2, h3, h4, h5⟩ := y
  exact ⟨T, x, y, h1, h2, h3, h4 xs q.1, h5 ys q.2⟩
end Fm
end FFmZipM
section FFRI
set_option Elab.async false
set_option linter.all false
set_option maxRecDepth 100000
set_option maxHeartbeats 4000000
local macro_rules | `(tactic| walk_at "ne") => `(tactic| first | assumption | (apply Ne.symm; assumption) | exact L2.ne_of_none (by assumption) (by assumption) | exact Ne.symm (L2.ne_of_none (by assumption) (by assumption)))
local macro_rules | `(tactic| walk_at "hl") => `(tactic| first | assumption | exact L2.upd_same | (refine Eq.trans (L2.upd_ne (by walk_at "ne")) ?_; walk_at "hl"))
local macro_rules | `(tactic| walk_at "sd") => `(tactic| first | (with_reducible show (_ : Int) < _; omega) | (with_reducible show (_ : Int) ≤ _; omega) | assumption | decide | exact ⟨by assumption, by assumption⟩ | exact ⟨by decide, by decide⟩ | exact Or.inr ⟨by decide, by decide⟩ | exact Or.inl ⟨by omega, by omega⟩ | rfl)
local macro_rules | `(tactic| walk_at "st1") => `(tactic| first
  | refine ⟨_, rfl, ?_⟩
  | refine ⟨_, _, rfl, rfl, ?_⟩
  | refine ⟨_, _, rfl, ?_⟩
  | (refine ⟨_, _, _, _, rfl, rfl, L2.SqL.of (by walk_at "hl"), rfl, ?_⟩)
  | (refine ⟨_, _, _, _, rfl, rfl, L2.SqT.of (by walk_at "hl"), rfl, ?_⟩)
  | (refine ⟨_, _, _, _, rfl, rfl, (by walk_at "hl"), rfl, ?_⟩)
  | (refine And.intro (by walk_at "sd") ?_)
  )
local macro_rules | `(tactic| walk_at "st") => `(tactic| repeat walk_at "st1")
local macro_rules | `(tactic| walk_at "op") => `(tactic| try dsimp only [L2.tSeq, L2.tAsg, L2.tOp, L2.tVar, L2.tC, L2.gSub, L2.rI, L2.rI0, L2.rIxL, L2.rIxT, L2.rSetL, L2.tIfS, L2.tTest, L2.tRet, L2.gName, L2.tNext, L2.tAnd, L2.tOr, L2.tNot, L2.tAndV, L2.tOrV, L2.tNotV, L2.tB, L2.tCB, L2.tCons, L2.tNil, L2.tCall, L2.tTup, L2.tLst, L2.tChain, L2.tUn, L2.tPar, L2.tDrop, L2.tIf, L2.tBM, L2.tBM0, L2.rAppend, L2.rCat, L2.rIsi, L2.rIsiT, L2.gTup, L2.gCons, L2.gNil, Fm.tFor_eq, Fm.tLc_eq, Fm.tLc2_eq, L2.iTup, L2.iList, L2.iRng1, L2.iRng2, L2.tSl, L2.tPart, L2.tNoPart, L2.rSlL, L2.rEq, L2.rNe, L2.rU, L2.rEqD, L2.rNeD, Fm.tRevT, Fm.rLenS, Fm.rTupOf, Fm.rLstOf, L2.tDNewK, L2.tCallS, L2.WE, Fm.wKeep, Fm.rIsK, Fm.rIsKT, List.cons_append, List.nil_append, L2.tYes])
namespace Fm
open PySem PySem.Spec PyProof.Rows L2
abbrev s_law_far_right : Stmt := top 57
abbrev N_law_far_right : List Str := ["house", "standing", "told", "ahead", "floor", "counts", "mine", "own"]
theorem sc_law_far_right : FnScope N_law_far_right ["house", "standing"] (defScope s_law_far_right) := ⟨rfl, rfl, rfl, by decide +kernel, rfl, by decide +kernel, by decide +kernel⟩
section
variable {P : Program} {w : World} {K : PySem.W.Frag} {mg : Str → Option Value} {base : Heap}
/-! ### far ones: how many come to each floor -/
theorem fit_rowL {r : List Int} (h : r.length ≤ 6) (hc : ∀ c ∈ r, c.natAbs < 10 ^ 40) : Fit 261 1 (rowL r) := by
  have q := fit_lst (n := 41) (k := 0) (ds := r.map PyData.int) (fun d hd => by obtain ⟨c, hm, rfl⟩ := List.mem_map.mp hd; exact fit_int (hc c hm)) (fun d hd => by obtain ⟨c, _, rfl⟩ := List.mem_map.mp hd; simp only [PyData.hasDict])
  rw [List.length_map] at q
  exact q.mono (by omega) (Nat.le_refl _)
theorem rowL_dict (r : List Int) : (rowL r).hasDict = false := by
  unfold rowL
  simp only [PyData.hasDict]
  exact hasDict_all fun d hd => by obtain ⟨c, _, rfl⟩ := List.mem_map.mp hd; simp only [PyData.hasDict]
theorem fit_told {rows : List (List Int)} (hn : rows.length ≤ 4) (h : ∀ r ∈ rows, r.length ≤ 6 ∧ ∀ c ∈ r, c.natAbs < 10 ^ 40) : Fit 1400 2 (.list (rows.map rowL)) := by
  have q := fit_lst (n := 261) (k := 1) (ds := rows.map rowL) (fun d hd => by
    obtain ⟨r, hr, rfl⟩ := List.mem_map.mp hd
    exact fit_rowL (h r hr).1 (h r hr).2) (fun d hd => by
    obtain ⟨r, _, rfl⟩ := List.mem_map.mp hd
    exact rowL_dict r)
  rw [List.length_map] at q
  exact q.mono (by omega) (Nat.le_refl _)
theorem nn_leS : ∀ {r : List Int}, FmC.NN r → ∀ c ∈ r, c ≤ r.sum
  | x :: r, h, c, hc => by
    have h1 := h x List.mem_cons_self
    have hr : FmC.NN r := fun y hy => h y (List.mem_cons_of_mem _ hy)
    have h2 := hr.sum
    rw [List.sum_cons]
    rcases List.mem_cons.mp hc with rfl | hc
    · omega
    · have := nn_leS hr c hc
      omega
/-- the rows told, for the texts -/
theorem com_fit {fs : List PyData} {m n : Nat} {rows told : List (List Int)} (B : FmC.Tabs n m (goN fs 0) (goN fs 1)) (hn : n ≤ 4) (hm : m ≤ 6) (hl : rows.length = n) (hk : ∀ r ∈ rows, r.length = m ∧ FmC.NN r) (hb : ∀ r ∈ rows, r.sum < 10 ^ 36) (h : FmC.ComOf m n (goN fs 0) (goN fs 1) rows told) : Fit 1400 2 (.list (told.map rowL)) := by
  have F := FmC.com_facts B.sm B.um hl hk h
  have key : ∀ f, f < n → ∀ t, told[f]? = some t → t.length = m ∧ FmC.NN t ∧ t.sum ≤ (f + 1) * 10 ^ 36 := fun f => by
    induction f with
    | zero =>
      intro hf t ht
      obtain ⟨t', r, q1, q2, q3, q4, q5, _⟩ := F 0 hf
      rw [ht] at q1
      cases q1
      have hbr := hb _ (List.mem_of_getElem? q2)
      have e : FmC.aheadF told 0 = 0 := rfl
      rw [e] at q5
      rw [e36] at hbr ⊢
      exact ⟨q3, q4, by omega⟩
    | succ f ih =>
      intro hf t ht
      obtain ⟨t', r, q1, q2, q3, q4, q5, _⟩ := F (f + 1) hf
      rw [ht] at q1
      cases q1
      have hbr := hb _ (List.mem_of_getElem? q2)
      obtain ⟨t0, _, p1, _⟩ := F f (by omega)
      obtain ⟨_, _, i3⟩ := ih (by omega) t0 p1
      have e : FmC.aheadF told (f + 1) = t0.sum := by
        unfold FmC.aheadF
        rw [if_neg (by omega), Nat.add_sub_cancel, List.getD_eq_getElem?_getD, p1]
        rfl
      rw [e] at q5
      rw [e36] at hbr i3 ⊢
      exact ⟨q3, q4, by omega⟩
  have e40' : (10 : Nat) ^ 40 = 10000000000000000000000000000000000000000 := by decide
  refine fit_told (by rw [h.len]; exact hn) fun r hr => ?_
  obtain ⟨f, hf⟩ := List.mem_iff_getElem?.mp hr
  have hfn : f < n := by rw [← h.len]; exact (List.getElem?_eq_some_iff.mp hf).1
  obtain ⟨k1, k2, k3⟩ := key f hfn r hf
  refine ⟨by omega, fun c hc => ?_⟩
  have h1 := nn_leS k2 c hc
  have h2 := k2 c hc
  rw [e36] at k3
  have : f + 1 ≤ 4 := by omega
  omega
def spFarRight : Sp := fun vs H Q _ => ∃ (p ph : Addr) (u : HO) (hv sv : V) (fs : List PyData) (m n : Nat) (rows : List (List Int)) (out : Int), vs = [hv, sv] ∧ H p = some u ∧ Dat H ph hv (.tuple fs) ∧ HouseN m n (.tuple fs) ∧ FairH fs m n ∧ SureH fs m n ∧ Dat H p sv (stD rows out) ∧ rows.length = n ∧ StOk m rows out ∧ (∀ r ∈ rows, r.sum < 10 ^ 36) ∧
  ∀ H', Same H H' → Q (.bl true) H'
theorem ok_law_far_right (D : Df K mg "_law_far_right" s_law_far_right ["house", "standing"]) (T : Nms mg) (c_comings : CallOk P w K mg base CX0 10 "comings" ["house", "standing"] spComings) (c_law_far_due : CallOk P w K mg base CX0 2 "_law_far_due" ["house", "standing"] spFarDue)
    (c_end_of : CallOk P w K mg base CX0 9 "end_of" ["house", "standing"] spEndOf) : CallG P w K mg base 11 "_law_far_right" ["house", "standing"] spFarRight := by
  refine df_okG D sc_law_far_right (fun vs H Q E h => ?_) (fun f cdv A outer s H vs Q hg hr h => ?_)
  · obtain ⟨p, ph, u, hv, sv, fs, m, n, rows, out, rfl, _⟩ := h
    rfl
  · obtain ⟨p, ph, u, hv, sv, fs, m, n, rows, out, rfl, hp, hD, hN, hT, hSu, sD, hl, ok, hbig, k⟩ := h
    have nd := sc_law_far_right.nd
    have hmn : 1 ≤ n ∧ n ≤ 4 ∧ 1 ≤ m ∧ m ≤ 6 := by
      obtain ⟨_, _, _, z1, z2, z3, z4, _⟩ := hN
      exact ⟨z1, z2, z3, z4⟩
    have B := tabs_of hN (goLt_of hD hN)
    have B1 : ∀ f, f < n → FmC.Tables 1 m (fun _ => goN fs 0 f) (fun _ => goN fs 1 f) := fun f hf => ⟨fun _ a b _ ha hb => B.sc f a b hf ha hb, fun _ a b _ ha hb => B.uc f a b hf ha hb, fun _ a b _ ha hb => B.sm f a b hf ha hb, fun _ a b _ ha hb => B.um f a b hf ha hb⟩
    have T1 : ∀ f, f < n → FmC.Three 1 m (fun _ => goN fs 0 f) (fun _ => goN fs 1 f) := fun f hf => FmC.three_alone (fun a b ha hb => B.sm f a b hf ha hb) fun x y z hx hy hz => ⟨(hT f x y z hf hx hy hz).1, hSu f hf x y z hx hy hz⟩
    have hk : ∀ r ∈ rows, r.length = m ∧ FmC.NN r := fun r hr => ⟨ok.len r hr, ok.pos r hr⟩
    obtain ⟨sa, xs, rfl, hsa, nsp, hx⟩ := st_parts sD
    have hxl : xs.length = n := by rw [hx.1, List.length_map, hl]
    refine ⟨_, (pss_cons (ps_set (i := 2) nd rfl (Or.inl rfl) (pe_cc c_comings (hr.mono (by omega)) (pa_cons (pv 0) (pa_cons (pv 1) pa_nil))))
      (pss_cons (ps_if (pt_cmpR op_ne (pe_callB (call_repr hg hr.units) (by rfl) T.n_repr (by decide +kernel) (pa_cons (pv 2) pa_nil)) (pe_callB (call_repr hg hr.units) (by rfl) T.n_repr (by decide +kernel) (pa_cons (pe_cc c_law_far_due (hr.mono (by omega)) (pa_cons (pv 0) (pa_cons (pv 1) pa_nil))) pa_nil)) (nomark _)) (pss_one (ps_ret pe_bl)) pss_nil)
      (pss_cons (ps_set (i := 3) nd rfl (Or.inl rfl) pe_int)
      (pss_cons (ps_for PassesOwn.never rfl (pi_enum (by rfl) T.n_enumerate (pa_cons (pv 2) pa_nil)) (pg_tup rfl (pgs_cons (pg_name (i := 4) nd rfl (Or.inl rfl)) (pgs_cons (pg_name (i := 5) nd rfl (Or.inl rfl)) pgs_nil))) (pss_cons (ps_if (PW.pt (pw_or (pt_cmpR op_ne (pe_callB (r := rSumI K) (cr_sumI rfl) (by rfl) T.n_sum (by decide +kernel) (pa_cons (pv 5) pa_nil)) (pe_op op_add (pe_callB (r := rSumI K) (cr_sumI rfl) (by rfl) T.n_sum (by decide +kernel) (pa_cons (pe_ix (r := rIxT K) ix_tup (pv 1) (pv 4) (fun _ _ => rfl)) pa_nil)) (pe_callB (call_max2 rfl) (by rfl) T.n_max (by decide +kernel) (pa_cons pe_int (pa_cons (pe_op op_sub (pv 3) pe_int) pa_nil)))) (nomark _)) (pw_or1 (pt_cmpR op_lt (pe_callB (cr_min rfl) (by rfl) T.n_min (by decide +kernel) (pa_cons (pv 5) pa_nil)) pe_int (nomark _))))) (pss_one (ps_ret pe_bl)) pss_nil)
      (pss_cons (ps_if (pt_cmpR (r := rNeD K) (op_neD hr.units) (pe_lc (own := [("mine", 6), ("own", 7)]) (g := (gTup K 2 (gCons (gName 6) (gCons (gName 7) gNil)))) (by rfl) nd (pi_zipM (by rfl) T.n_zip (pa_cons (pv 5) (pa_cons (pe_ix (r := rIxT K) ix_tup (pv 1) (pv 4) (fun _ _ => rfl)) pa_nil))) (blkOk_by (own := [("mine", 6), ("own", 7)]) (N := N_law_far_right) (sc := defScope s_law_far_right) (by decide +kernel)) (fun _ _ _ _ _ => (pg_tup rfl (pgs_cons (pg_name (i := 6) nd rfl (Or.inl rfl)) (pgs_cons (pg_name (i := 7) nd rfl (Or.inl rfl)) pgs_nil)))) (fun _ _ _ _ _ => (pts_one (pt_cmpR op_lt (pv 6) (pv 7) (nomark _)))) (fun _ _ _ _ _ => pe_int)) (pe_lst pa_nil) (nomark _)) (pss_one (ps_ret pe_bl)) pss_nil)
      (pss_one (ps_set (i := 3) nd rfl (Or.inl rfl) (pe_callB (r := rSumI K) (cr_sumI rfl) (by rfl) T.n_sum (by decide +kernel) (pa_cons (pv 5) pa_nil)))))))
      (pss_one (ps_ret (pe_cmpR op_eq (pe_op op_add (pe_callB (call_max2 rfl) (by rfl) T.n_max (by decide +kernel) (pa_cons pe_int (pa_cons (pe_op op_sub (pv 3) pe_int) pa_nil))) (pe_ix (r := rIxT K) ix_tup (pv 1) (pe_un un_neg pe_int) (fun _ _ => rfl))) (pe_ix (r := rIxT K) ix_tup (pe_cc c_end_of (hr.mono (by omega)) (pa_cons (pv 0) (pa_cons (pv 1) pa_nil))) (pe_un un_neg pe_int) (fun _ _ => rfl)) (nomark _)))))))), ?_⟩
    walk_at "op"
    have hst : L2.start N_law_far_right [hv, V.ref sa] = [some hv, some (V.ref sa), none, none, none, none, none, none] := rfl
    rw [hst]
    refine ⟨_, rfl, _, rfl, hv, .ref sa, p, ph, u, fs, m, n, rows, out, rfl, hp, hD, hN, hT, hSu, sD, hl, ok, hbig, fun L ws told G1 hcom _ hLL _ _ nLp s1 => ?_⟩
    have hfit := com_fit B hmn.2.1 hmn.2.2.2 hl hk hbig hcom
    have F := FmC.com_facts B.sm B.um hl hk hcom
    try dsimp only [List.set]
    refine ⟨_, rfl, .ref L, p, _, _, _, rfl, hLL.dat nLp, hfit, by decide, by decide, ?_⟩
    refine ⟨_, rfl, _, rfl, p, ph, u, hv, .ref sa, fs, m, n, rows, out, rfl, s1 _ _ hp, hD.same s1, hN, sD.same s1, hl, ok, fun L2' ws2 told2 G2 hcom2 hLL2 nL2 s2 => ?_⟩
    obtain rfl := FmC.com_one B1 T1 hcom hcom2
    refine ⟨.ref L2', p, _, _, _, rfl, hLL2.dat nL2, hfit, by decide, by decide, ?_⟩
    refine ⟨rfl, ?_⟩
    rw [decide_eq_true rfl]
    refine ⟨false, rfl, ?_⟩
    rw [if_neg (by decide)]
    have s02 := s1.trans s2
    have hLLb := hLL.same s2
    clear hLL hLL2 hcom2 hfit
    refine ⟨_, rfl, L, _, rfl, SqL.of hLLb.at_, ?_⟩
    have hwl : ws.length = n := by rw [hLLb.len, hcom.len]
    refine fI walk_enum (fun i σ G => ∃ (u4 u5 : Option V), σ = [some hv, some (V.ref sa), some (V.ref L), some (.int (FmC.aheadF told i)), u4, u5, none, none] ∧ Same G2 G) ⟨_, _, rfl, Same.refl _⟩ (fun _ _ _ _ ⟨_, _, _, e⟩ => SqL.of (e _ _ hLLb.at_)) ?_ ?_
    · rintro i x σ G _ hi ⟨u4, u5, rfl, sG⟩ ⟨T2, w1, w2, rfl, hT2, rfl, k1, k2⟩
      dsimp only at k1 k2
      cases k1
      rw [hwl] at hi
      obtain ⟨t, r, f1, f2, f3, f4, f5, f6⟩ := F i hi
      obtain ⟨b, e1, hb, _⟩ := hLLb.row i t f1
      rw [k2] at e1
      cases e1
      obtain ⟨xb, hxb, hdb⟩ := hx.back (i := i) (d := rowD r) (by rw [List.getElem?_map, f2]; rfl)
      obtain ⟨cb, rfl, hcb, _⟩ := row_parts hdb
      have hrl := (hk r (List.mem_of_getElem? f2)).1
      walk_at "op"
      refine ⟨T2, _, rfl, SqT.of upd_same, rfl, _, _, rfl, _, _, rfl, rfl, ?_⟩
      have sG2 := sG.trans (same_new (o := .tup [V.int (i : Nat), V.ref b]) hT2)
      generalize upd G T2 (.tup [V.int (i : Nat), V.ref b]) = G10 at *
      try dsimp only [List.set]
      have hb10 := sG2 _ _ hb
      have hsa10 := sG2 _ _ (s02 _ _ hsa)
      have hcb10 := sG2 _ _ (s02 _ _ hcb)
      have hxi : (xs ++ [V.int out])[i]? = some (V.ref cb) := by rw [List.getElem?_append_left (by omega)]; exact hxb
      refine ⟨_, rfl, .inl ⟨b, t, rfl, SqL.of hb10, ?_⟩⟩
      refine ⟨_, rfl, _, rfl, sa, _, _, _, rfl, rfl, SqT.of hsa10, atI_nat hxi, .inr ⟨cb, r, rfl, SqT.of hcb10, ?_⟩⟩
      refine ⟨_, rfl, _, _, rfl, rfl, _, _, rfl, ?_⟩
      have em : (if FmC.aheadF told i - 1 > 0 then FmC.aheadF told i - 1 else 0) = max 0 (FmC.aheadF told i - 1) := by split <;> omega
      rw [em]
      refine ⟨_, _, rfl, rfl, rfl, false, by rw [← f5, decide_eq_true rfl]; rfl, ?_⟩
      rw [if_neg (by decide)]
      refine ⟨_, rfl, b, t, rfl, SqL.of hb10, by omega, fun mn hmn _ => ?_⟩
      refine ⟨_, _, rfl, rfl, false, by rw [decide_eq_false (by have := f4 mn hmn; omega)], ?_⟩
      rw [if_neg (by decide)]
      refine ⟨_, rfl, _, rfl, _, rfl, sa, _, _, _, rfl, rfl, SqT.of hsa10, atI_nat hxi, ?_⟩
      refine ⟨b, cb, _, _, rfl, SqL.of hb10, SqT.of hcb10, fun D3 hD3 => ?_⟩
      refine lI (walk_zipM (by rw [List.length_map, List.length_map, f3, hrl])) (fun j G3 => Same G10 G3 ∧ G3 D3 = some (.lst [])) ⟨same_new hD3, upd_same⟩ (fun _ _ _ ⟨e, _⟩ => ⟨SqL.of (e _ _ hb10), SqT.of (e _ _ hcb10)⟩) ?_ ?_
      · rintro j x2 G3 _ hj ⟨s3, hD3'⟩ ⟨T3, w3, w4, rfl, hT3, rfl, k3, k4⟩
        dsimp only at k3 k4
        rw [List.length_map] at hj
        rw [getD_at (by omega)] at k3
        cases k3
        rw [getD_at (by omega)] at k4
        cases k4
        walk_at "op"
        refine ⟨T3, _, rfl, SqT.of upd_same, rfl, _, _, rfl, _, _, rfl, rfl, ?_⟩
        refine ⟨rfl, ?_⟩
        refine ⟨_, rfl, _, rfl, _, _, rfl, rfl, false, by rw [decide_eq_false (by have := f6 j (by omega); omega)], ?_⟩
        rw [if_neg (by decide)]
        exact ⟨s3.trans (same_new hT3), (same_new hT3) _ _ hD3'⟩
      · rintro G3 ⟨s3, hD3'⟩
        refine ⟨Nat.zero_le _, fun D4 hD4 => ?_⟩
        have s4 := same_new (o := .lst []) hD4
        refine ⟨.list [], .list [], .lst (SqL.of (s4 _ _ hD3')) .nil, .lst (SqL.of upd_same) .nil, by decide, by decide, false, by rw [eqv_nil]; rfl, ?_⟩
        rw [if_neg (by decide)]
        refine ⟨_, rfl, .inl ⟨b, t, rfl, SqL.of ((s3.trans s4) _ _ hb10), ?_⟩⟩
        have ea : FmC.aheadF told (i + 1) = t.sum := by
          unfold FmC.aheadF
          rw [if_neg (by omega), Nat.add_sub_cancel, List.getD_eq_getElem?_getD, f1]
          rfl
        rw [ea]
        exact ⟨_, _, rfl, (sG2.trans s3).trans s4⟩
    · rintro σ G ⟨u4, u5, rfl, sG⟩
      rw [hwl]
      walk_at "op"
      have s0G := s02.trans sG
      refine ⟨_, rfl, _, _, rfl, rfl, _, _, rfl, _, rfl, 1, rfl, sa, _, _, _, rfl, rfl, SqT.of (s0G _ _ hsa), atI_last (by omega), _, _, rfl, rfl, ?_⟩
      refine ⟨_, rfl, _, rfl, hv, .ref sa, p, ph, u, fs, m, n, rows, out, rfl, s0G _ _ hp, hD.same s0G, hN, hT, sD.same s0G, hl, ok, hbig, fun v H3 rows' out' hE hv3 s3 => ?_⟩
      have em : (if FmC.aheadF told n - 1 > 0 then FmC.aheadF told n - 1 else 0) = max 0 (FmC.aheadF told n - 1) := by split <;> omega
      rw [em]
      have ho := FmC.com_out B hl hk hcom ok.out hE.pos hE.len hE.row hE.run
      obtain ⟨ea, ys, rfl, hea, _, hy⟩ := st_parts hv3
      refine ⟨1, rfl, ea, _, _, _, rfl, rfl, SqT.of hea, atI_last (by have := hy.1; rw [List.length_map, hE.len] at this; omega), rfl, ?_⟩
      rw [← ho, decide_eq_true rfl]
      exact k _ (s0G.trans s3)
end
end Fm
end FFRI
section FYF
set_option Elab.async false
set_option linter.all false
set_option maxRecDepth 100000
set_option maxHeartbeats 4000000
local macro_rules | `(tactic| walk_at "ne") => `(tactic| first | assumption | (apply Ne.symm; assumption) | exact L2.ne_of_none (by assumption) (by assumption) | exact Ne.symm (L2.ne_of_none (by assumption) (by assumption)))
local macro_rules | `(tactic| walk_at "hl") => `(tactic| first | assumption | exact L2.upd_same | (refine Eq.trans (L2.upd_ne (by walk_at "ne")) ?_; walk_at "hl"))
local macro_rules | `(tactic| walk_at "sd") => `(tactic| first | (with_reducible show (_ : Int) < _; omega) | (with_reducible show (_ : Int) ≤ _; omega) | assumption | decide | exact ⟨by assumption, by assumption⟩ | exact ⟨by decide, by decide⟩ | exact Or.inr ⟨by decide, by decide⟩ | exact Or.inl ⟨by omega, by omega⟩ | rfl)
local macro_rules | `(tactic| walk_at "st1") => `(tactic| first
  | refine ⟨_, rfl, ?_⟩
  | refine ⟨_, _, rfl, rfl, ?_⟩
  | refine ⟨_, _, rfl, ?_⟩
  | (refine ⟨_, _, _, _, rfl, rfl, L2.SqL.of (by walk_at "hl"), rfl, ?_⟩)
  | (refine ⟨_, _, _, _, rfl, rfl, L2.SqT.of (by walk_at "hl"), rfl, ?_⟩)
  | (refine ⟨_, _, _, _, rfl, rfl, (by walk_at "hl"), rfl, ?_⟩)
  | (refine And.intro (by walk_at "sd") ?_)
  )
local macro_rules | `(tactic| walk_at "st") => `(tactic| repeat walk_at "st1")
local macro_rules | `(tactic| walk_at "op") => `(tactic| try dsimp only [L2.tSeq, L2.tAsg, L2.tOp, L2.tVar, L2.tC, L2.gSub, L2.rI, L2.rI0, L2.rIxL, L2.rIxT, L2.rSetL, L2.tIfS, L2.tTest, L2.tRet, L2.gName, L2.tNext, L2.tAnd, L2.tOr, L2.tNot, L2.tAndV, L2.tOrV, L2.tNotV, L2.tB, L2.tCB, L2.tCons, L2.tNil, L2.tCall, L2.tTup, L2.tLst, L2.tChain, L2.tUn, L2.tPar, L2.tDrop, L2.tIf, L2.tBM, L2.tBM0, L2.rAppend, L2.rCat, L2.rIsi, L2.rIsiT, L2.gTup, L2.gCons, L2.gNil, Fm.tFor_eq, Fm.tLc_eq, Fm.tLc2_eq, L2.iTup, L2.iList, L2.iRng1, L2.iRng2, L2.tSl, L2.tPart, L2.tNoPart, L2.rSlL, L2.rEq, L2.rNe, L2.rU, L2.rEqD, L2.rNeD, Fm.tRevT, Fm.rLenS, Fm.rTupOf, Fm.rLstOf, L2.tDNewK, L2.tCallS, L2.WE, Fm.wKeep, Fm.rIsK, Fm.rIsKT, List.cons_append, List.nil_append, L2.tYes])
namespace Fm
open PySem PySem.Spec PyProof.Rows L2
section
variable {P : Program} {w : World} {K : PySem.W.Frag} {mg : Str → Option Value} {base : Heap}
theorem row_fit {m : Nat} {d : PyData} (hm : m ≤ 6) (h : RowD m d) : Fit 300 1 d ∧ noList d = true ∧ d.hasDict = false := by
  obtain ⟨ds, rfl, hl, hd⟩ := h
  have h1 : ∀ e ∈ ds, Fit 41 0 e := fun e he => by
    obtain ⟨i, rfl, h0, hi⟩ := hd e he
    refine fit_int ?_
    have : i.natAbs < 10 := by omega
    exact Nat.lt_of_lt_of_le this (by decide)
  have h2 : ∀ e ∈ ds, noList e = true := fun e he => by
    obtain ⟨i, rfl, _⟩ := hd e he
    unfold noList
    rfl
  have h3 : ∀ e ∈ ds, e.hasDict = false := fun e he => by
    obtain ⟨i, rfl, _⟩ := hd e he
    simp only [PyData.hasDict]
  exact ⟨(fit_tup h1 h2).mono (by rw [hl]; omega) (by omega), noList_of h2, by simp only [PyData.hasDict]; exact hasDict_all h3⟩
theorem tab_fit {m : Nat} {d : PyData} (hm : m ≤ 6) (h : TabD m d) : Fit 2000 2 d ∧ noList d = true ∧ d.hasDict = false := by
  obtain ⟨ds, rfl, hl, hd, _⟩ := h
  have h1 := fun e he => row_fit hm (hd e he)
  exact ⟨(fit_tup (fun e he => (h1 e he).1) fun e he => (h1 e he).2.1).mono (by rw [hl]; omega) (by omega), noList_of fun e he => (h1 e he).2.1, by simp only [PyData.hasDict]; exact hasDict_all fun e he => (h1 e he).2.2⟩
theorem floor_fit {m : Nat} {d : PyData} (hm : m ≤ 6) (h : FloorD m d) : Fit 5000 3 d ∧ noList d = true ∧ d.hasDict = false := by
  obtain ⟨s, u, rfl, hs, hu⟩ := h
  have h1 : ∀ e ∈ [s, u], Fit 2000 2 e ∧ noList e = true ∧ e.hasDict = false := fun e he => by
    simp only [List.mem_cons, List.not_mem_nil, or_false] at he
    rcases he with rfl | rfl
    · exact tab_fit hm hs
    · exact tab_fit hm hu
  exact ⟨(fit_tup (fun e he => (h1 e he).1) fun e he => (h1 e he).2.1).mono (by show _ * 2 + 3 ≤ _; omega) (by omega), noList_of fun e he => (h1 e he).2.1, by simp only [PyData.hasDict]; exact hasDict_all fun e he => (h1 e he).2.2⟩
theorem house_fit {m n : Nat} {d : PyData} (h : HouseN m n d) : Fit 30000 4 d ∧ noList d = true ∧ d.hasDict = false := by
  obtain ⟨ds, rfl, hl, h1, h4, _, hm, hd⟩ := h
  have h1 := fun e he => floor_fit hm (hd e he)
  exact ⟨(fit_tup (fun e he => (h1 e he).1) fun e he => (h1 e he).2.1).mono (by rw [hl]; omega) (by omega), noList_of fun e he => (h1 e he).2.1, by simp only [PyData.hasDict]; exact hasDict_all fun e he => (h1 e he).2.2⟩
theorem std_no (rows : List (List Int)) (x : Int) : ∀ d ∈ rows.map rowD ++ [PyData.int x], noList d = true := fun d hd => by
  rcases List.mem_append.mp hd with hd | hd
  · obtain ⟨r, _, rfl⟩ := List.mem_map.mp hd
    exact noList_ints' r
  · rw [List.mem_singleton.mp hd]
    unfold noList
    rfl
theorem std_nod (rows : List (List Int)) (x : Int) : (stD rows x).hasDict = false := by
  unfold stD
  simp only [PyData.hasDict]
  refine hasDict_all fun d hd => ?_
  rcases List.mem_append.mp hd with hd | hd
  · obtain ⟨r, _, rfl⟩ := List.mem_map.mp hd
    exact (rowD_shaped r).2.1
  · rw [List.mem_singleton.mp hd]
    simp only [PyData.hasDict]
/-! ### how long the texts are -/
theorem fit_rowD {r : List Int} (h : r.length ≤ 6) (hc : ∀ c ∈ r, c.natAbs < 10 ^ 40) : Fit 261 1 (rowD r) := by
  have q := fit_tup (n := 41) (k := 0) (ds := r.map PyData.int) (fun d hd => by obtain ⟨c, hm, rfl⟩ := List.mem_map.mp hd; exact fit_int (hc c hm)) (fun d hd => by obtain ⟨c, _, rfl⟩ := List.mem_map.mp hd; unfold noList; rfl)
  rw [List.length_map] at q
  exact q.mono (by omega) (Nat.le_refl _)
theorem fit_std {rows : List (List Int)} {out : Int} (hn : rows.length ≤ 4) (h : ∀ r ∈ rows, r.length ≤ 6 ∧ ∀ c ∈ r, c.natAbs < 10 ^ 40) (ho : out.natAbs < 10 ^ 40) : Fit 1400 2 (stD rows out) := by
  have q := fit_tup (n := 261) (k := 1) (ds := rows.map rowD ++ [.int out]) (fun d hd => by
    rcases List.mem_append.mp hd with hd | hd
    · obtain ⟨r, hr, rfl⟩ := List.mem_map.mp hd
      exact fit_rowD (h r hr).1 (h r hr).2
    · rw [List.mem_singleton.mp hd]
      exact (fit_int ho).mono (by omega) (by omega)) (std_no rows out)
  rw [List.length_append, List.length_map, List.length_singleton] at q
  exact q.mono (by omega) (Nat.le_refl _)
theorem fit_pairL {m n : Nat} {fs : List PyData} {rows : List (List Int)} {out : Int} (h : HouseN m n (.tuple fs)) (hs : Fit 1400 2 (stD rows out)) : Fit 70000 5 (.list [.tuple fs, stD rows out]) := by
  have q := fit_lst (n := 30000) (k := 4) (ds := [.tuple fs, stD rows out]) (fun d hd => by
    simp only [List.mem_cons, List.not_mem_nil, or_false] at hd
    rcases hd with rfl | rfl
    · exact (house_fit h).1
    · exact hs.mono (by omega) (by omega)) (fun d hd => by
    simp only [List.mem_cons, List.not_mem_nil, or_false] at hd
    rcases hd with rfl | rfl
    · exact (house_fit h).2.2
    · exact std_nod rows out)
  exact q.mono (by simp) (Nat.le_refl _)
theorem un65 {k : Nat} {A : Around} (r : Room k A) : A.units + 65 < cLine := by have := r.un; omega
theorem cast_back {h : List Int} (e : ∀ x ∈ h, 0 ≤ x) : castL (h.map Int.toNat) = h := by
  unfold castL
  rw [List.map_map]
  refine (List.map_congr_left fun x hx => ?_).trans (List.map_id h)
  have := e x hx
  show ((x.toNat : Nat) : Int) = x
  omega
theorem sum_most {k : Int} : ∀ {r : List Int}, (∀ c ∈ r, c ≤ k) → r.sum ≤ k * (r.length : Int)
  | [], _ => by show (0 : Int) ≤ k * ((0 : Nat) : Int); omega
  | x :: r, h => by
    have h1 := h x List.mem_cons_self
    have h2 := sum_most (r := r) fun c hc => h c (List.mem_cons_of_mem _ hc)
    rw [List.sum_cons, List.length_cons, Int.natCast_add, Int.mul_add]
    omega
theorem nn_le : ∀ {r : List Int}, FmC.NN r → ∀ c ∈ r, c ≤ r.sum
  | x :: r, h, c, hc => by
    have h1 := h x List.mem_cons_self
    have hr : FmC.NN r := fun y hy => h y (List.mem_cons_of_mem _ hy)
    have h2 := hr.sum
    rw [List.sum_cons]
    rcases List.mem_cons.mp hc with rfl | hc
    · omega
    · have := nn_le hr c hc
      omega
/-- the law's standing -/
theorem law_st {m n : Nat} {hs0 : List (List Nat)} {out : Nat} (hn : n ≤ 4) (hm : m ≤ 6) (h0 : hs0.length = n) (hk : ∀ h ∈ hs0, h.length ≤ 60 ∧ ∀ x ∈ h, x < m) (ho : out ≤ 10) :
    StOk m ((hs0.map castL).map (countR m)) (out : Nat) ∧ ((hs0.map castL).map (countR m)).length = n ∧ (∀ r ∈ (hs0.map castL).map (countR m), r.sum < 10 ^ 36) ∧ Fit 1400 2 (stD ((hs0.map castL).map (countR m)) (out : Nat)) := by
  have e40 : (10 : Nat) ^ 40 = 10000000000000000000000000000000000000000 := by decide
  have row : ∀ r ∈ (hs0.map castL).map (countR m), r.length = m ∧ ∀ c ∈ r, 0 ≤ c ∧ c ≤ 60 := fun r hr => by
    obtain ⟨h, hh, rfl⟩ := List.mem_map.mp hr
    obtain ⟨h', hh', rfl⟩ := List.mem_map.mp hh
    refine ⟨by unfold countR; rw [List.length_map, List.length_range], fun c hc => ?_⟩
    unfold countR at hc
    obtain ⟨k, _, rfl⟩ := List.mem_map.mp hc
    have := List.count_le_length (a := (k : Int)) (l := castL h')
    have q := (hk h' hh').1
    unfold castL at this
    rw [List.length_map] at this
    unfold castL
    omega
  have hl : ((hs0.map castL).map (countR m)).length = n := by rw [List.length_map, List.length_map]; exact h0
  refine ⟨⟨fun r hr => (row r hr).1, fun r hr c hc => ((row r hr).2 c hc).1, by omega⟩, hl, fun r hr => ?_, fit_std (by omega) (fun r hr => ⟨by rw [(row r hr).1]; exact hm, fun c hc => by have := (row r hr).2 c hc; omega⟩) (by omega)⟩
  have h1 := sum_most fun c hc => ((row r hr).2 c hc).2
  rw [(row r hr).1] at h1
  rw [e36]
  omega
structure Ok (m n : Nat) (A : List (List Int)) (o k : Int) : Prop where
  st : StOk m A o
  len : A.length = n
  sum : ∀ r ∈ A, r.sum ≤ k
theorem addR_nn' {a b : List Int} (ha : ∀ c ∈ a, 0 ≤ c) (hb : ∀ c ∈ b, 0 ≤ c) : ∀ c ∈ FmC.addR a b, 0 ≤ c := FmC.addR_nn ha hb
theorem Ok.add {m n : Nat} {A B : List (List Int)} {oA oB k k' : Int} (h : Ok m n A oA k) (h' : Ok m n B oB k') : Ok m n (addRows A B) (oA + oB) (k + k') := by
  have key : ∀ r ∈ addRows A B, r.length = m ∧ (∀ c ∈ r, 0 ≤ c) ∧ r.sum ≤ k + k' := fun r hr => by
    obtain ⟨i, hi⟩ := List.getElem?_of_mem hr
    unfold addRows at hi
    rw [List.getElem?_zipWith] at hi
    cases e1 : A[i]? with
    | none => rw [e1] at hi; cases hi
    | some a =>
      cases e2 : B[i]? with
      | none => rw [e1, e2] at hi; cases hi
      | some b =>
        rw [e1, e2] at hi
        cases hi
        have ma := List.mem_of_getElem? e1
        have mb := List.mem_of_getElem? e2
        have la := h.st.len a ma
        have lb := h'.st.len b mb
        refine ⟨FmC.addR_len la lb, FmC.addR_nn (h.st.pos a ma) (h'.st.pos b mb), ?_⟩
        have := FmC.addR_sum (c := a) (r := b) (by omega)
        have h1 := h.sum a ma
        have h2 := h'.sum b mb
        show (FmC.addR a b).sum ≤ _
        omega
  refine ⟨⟨fun r hr => (key r hr).1, fun r hr => (key r hr).2.1, ?_⟩, ?_, fun r hr => (key r hr).2.2⟩
  · have := h.st.out
    have := h'.st.out
    omega
  · unfold addRows
    rw [List.length_zipWith, h.len, h'.len, Nat.min_self]
theorem EndOf.ok {fs : List PyData} {m n : Nat} {A r : List (List Int)} {oA o : Int} (e : EndOf fs m n A oA r o) : Ok m n r o 1 := ⟨⟨fun x hx => (e.row x hx).1, fun x hx => (e.row x hx).2.1, e.pos⟩, e.len, fun x hx => (e.row x hx).2.2⟩
theorem Ok.lt {m n : Nat} {A : List (List Int)} {o k : Int} (h : Ok m n A o k) (hk : k < 10 ^ 36) : ∀ r ∈ A, r.sum < 10 ^ 36 := fun r hr => Int.lt_of_le_of_lt (h.sum r hr) hk
theorem some_ok {m n : Nat} {A : List (List Int)} {o : Int} (h : StOk m A o) (hl : A.length = n) (hm : m ≤ 6) (hk : ∀ r ∈ A, ∀ c ∈ r, c ≤ 10 ^ 18) : Ok m n A o (10 ^ 19) := by
  refine ⟨h, hl, fun r hr => ?_⟩
  have e18 : (10 : Int) ^ 18 = 1000000000000000000 := by decide
  have e19 : (10 : Int) ^ 19 = 10000000000000000000 := by decide
  have h1 := sum_most (hk r hr)
  rw [h.len r hr, e18] at h1
  rw [e19]
  have : 1000000000000000000 * (m : Int) ≤ 6000000000000000000 := by omega
  omega
theorem count_cast (h : List Nat) (a : Nat) : (castL h).count (a : Int) = h.count a := by
  unfold castL
  induction h with
  | nil => rfl
  | cons x l ih =>
    rw [List.map_cons, List.count_cons, List.count_cons, ih]
    congr 1
    by_cases z : x = a
    · rw [if_pos (by rw [z]; exact beq_self_eq_true _), if_pos (by rw [z]; exact beq_self_eq_true _)]
    · rw [if_neg (by rw [beq_iff_eq]; omega), if_neg (by rw [beq_iff_eq]; omega)]
theorem countR_row (m : Nat) (h : List Nat) : countR m (castL h) = FmC.rowOf m fun x => h.count x := by
  unfold countR FmC.rowOf
  refine List.map_congr_left fun k _ => ?_
  rw [count_cast]
theorem sl_tail {K : PySem.W.Frag} {H : Hp} {Q : VK} {a : Addr} {xs : List V} (h : SqT K H a xs) (h1 : 1 ≤ xs.length) (q : ∀ p, H p = none → Q (.ref p) (upd H p (.tup (xs.drop 1)))) : rSlA K (.ref a) (some 1) none H Q := by
  have e1 : HT.sIx xs.length 0 (some 1) = 1 := by
    rw [show (some (1 : Int)) = some ((1 : Nat) : Int) from rfl, HT.sIx_nat]
    omega
  have e2 : HT.sIx xs.length xs.length none = xs.length := rfl
  refine ⟨a, _, rfl, h, fun z => ?_, fun _ p hp => ?_⟩
  · rw [e1] at z
    exact absurd z.1 (by decide)
  · have e3 : cutV xs (some 1) none = xs.drop 1 := by
      unfold cutV
      rw [e1, e2]
      exact List.take_of_length_le (by rw [List.length_drop]; omega)
    rw [e3]
    exact q p hp
/-- who came, told by the law's counts -/
theorem came_told {fs : List PyData} {m n : Nat} {hs0 hs cs : List (List Nat)} {out : Nat} (B : FmC.Tabs n m (goN fs 0) (goN fs 1)) (h0 : hs0.length = n) (hm0 : ∀ h ∈ hs0, ∀ x ∈ h, x < m) (hc : cs.length = n + 1) (h1 : ∀ f, f < n → (hs.getD f []).length ≤ 1) (I : FmC.CameI n m (goN fs 0) (goN fs 1) (hs0 ++ [[]]) hs cs out) :
    FmC.ComOf m n (goN fs 0) (goN fs 1) ((hs0.map castL).map (countR m)) (((cs.take n).map castL).map (countR m)) := by
  have e0 : ∀ f, f < n → (hs0 ++ [[]]).getD f [] = hs0.getD f [] := fun f hf => by
    rw [List.getD_eq_getElem?_getD, List.getElem?_append_left (by omega), List.getD_eq_getElem?_getD]
  refine I.com B.sm B.um (fun f hf x hx => ?_) h1 (fun f hf => ?_) (by rw [List.length_map, List.length_map, List.length_take]; omega) fun f hf => ?_
  · rw [e0 f hf, List.getD_eq_getElem?_getD, List.getElem?_eq_getElem (by omega)] at hx
    exact hm0 _ (List.getElem_mem (by omega)) x hx
  · rw [e0 f hf, List.getD_eq_getElem?_getD, List.getD_eq_getElem?_getD, List.getElem?_map, List.getElem?_map, List.getElem?_eq_getElem (by omega)]
    exact countR_row m _
  · rw [List.getElem?_map, List.getElem?_map, List.getElem?_take, if_pos hf, List.getD_eq_getElem?_getD, List.getElem?_eq_getElem (by omega)]
    exact congrArg some (countR_row m _)
theorem law_60 {m : Nat} {hs0 : List (List Nat)} (hk : ∀ h ∈ hs0, h.length ≤ 60 ∧ ∀ x ∈ h, x < m) : ∀ r ∈ (hs0.map castL).map (countR m), ∀ c ∈ r, c ≤ 60 := fun r hr c hc => by
  obtain ⟨h, hh, rfl⟩ := List.mem_map.mp hr
  obtain ⟨h', hh', rfl⟩ := List.mem_map.mp hh
  unfold countR at hc
  obtain ⟨k, _, rfl⟩ := List.mem_map.mp hc
  have := List.count_le_length (a := (k : Int)) (l := castL h')
  have q := (hk h' hh').1
  unfold castL at this
  rw [List.length_map] at this
  unfold castL
  omega
def spLaw (K : PySem.W.Frag) : Sp := fun vs H Q _ => ∃ (a : Addr) (ns : List Int), vs = [.ref a] ∧ ns.length + 1 ≤ sizeLine ∧ SqL K H a (ns.map V.int) ∧ ∀ H', Q (.bl true) H'
end
end Fm
end FYF
section FLWB
set_option Elab.async false
set_option linter.all false
set_option maxRecDepth 100000
set_option maxHeartbeats 4000000
local macro_rules | `(tactic| walk_at "ne") => `(tactic| first | assumption | (apply Ne.symm; assumption) | exact L2.ne_of_none (by assumption) (by assumption) | exact Ne.symm (L2.ne_of_none (by assumption) (by assumption)))
local macro_rules | `(tactic| walk_at "hl") => `(tactic| first | assumption | exact L2.upd_same | (refine Eq.trans (L2.upd_ne (by walk_at "ne")) ?_; walk_at "hl"))
local macro_rules | `(tactic| walk_at "sd") => `(tactic| first | (with_reducible show (_ : Int) < _; omega) | (with_reducible show (_ : Int) ≤ _; omega) | assumption | decide | exact ⟨by assumption, by assumption⟩ | exact ⟨by decide, by decide⟩ | exact Or.inr ⟨by decide, by decide⟩ | exact Or.inl ⟨by omega, by omega⟩ | rfl)
local macro_rules | `(tactic| walk_at "st1") => `(tactic| first
  | refine ⟨_, rfl, ?_⟩
  | refine ⟨_, _, rfl, rfl, ?_⟩
  | refine ⟨_, _, rfl, ?_⟩
  | (refine ⟨_, _, _, _, rfl, rfl, L2.SqL.of (by walk_at "hl"), rfl, ?_⟩)
  | (refine ⟨_, _, _, _, rfl, rfl, L2.SqT.of (by walk_at "hl"), rfl, ?_⟩)
  | (refine ⟨_, _, _, _, rfl, rfl, (by walk_at "hl"), rfl, ?_⟩)
  | (refine And.intro (by walk_at "sd") ?_)
  )
local macro_rules | `(tactic| walk_at "st") => `(tactic| repeat walk_at "st1")
local macro_rules | `(tactic| walk_at "op") => `(tactic| try dsimp only [L2.tSeq, L2.tAsg, L2.tOp, L2.tVar, L2.tC, L2.gSub, L2.rI, L2.rI0, L2.rIxL, L2.rIxT, L2.rSetL, L2.tIfS, L2.tTest, L2.tRet, L2.gName, L2.tNext, L2.tAnd, L2.tOr, L2.tNot, L2.tAndV, L2.tOrV, L2.tNotV, L2.tB, L2.tCB, L2.tCons, L2.tNil, L2.tCall, L2.tTup, L2.tLst, L2.tChain, L2.tUn, L2.tPar, L2.tDrop, L2.tIf, L2.tBM, L2.tBM0, L2.rAppend, L2.rCat, L2.rIsi, L2.rIsiT, L2.gTup, L2.gCons, L2.gNil, Fm.tFor_eq, Fm.tLc_eq, Fm.tLc2_eq, L2.iTup, L2.iList, L2.iRng1, L2.iRng2, L2.tSl, L2.tPart, L2.tNoPart, L2.rSlL, L2.rEq, L2.rNe, L2.rU, L2.rEqD, L2.rNeD, Fm.tRevT, Fm.rLenS, Fm.rTupOf, Fm.rLstOf, L2.tDNewK, L2.tCallS, L2.WE, Fm.wKeep, Fm.rIsK, Fm.rIsKT, List.cons_append, List.nil_append, L2.tYes])
namespace Fm
open PySem PySem.Spec PyProof.Rows L2
abbrev s_law : Stmt := top 58
abbrev N_law : List Str := ["script", "cell", "jar", "house", "m", "turn", "heaps", "out", "standing", "kept", "again", "came", "due", "number", "heap", "found", "row", "many", "far"]
theorem sc_law : FnScope N_law ["script"] (defScope s_law) := ⟨rfl, rfl, rfl, by decide +kernel, rfl, by decide +kernel, by decide +kernel⟩
section
variable {P : Program} {w : World} {K : PySem.W.Frag} {mg : Str → Option Value} {base : Heap}
/-! ### the law -/
theorem ok_law {f : Addr} {fd : FuncData} (F : Fun K "law" "law" s_law f fd) (T : Nms mg) (c_law_jar : CallOk P w K mg base CX0 1 "_law_jar" ["cell"] spJar) (c_law_dip : CallOk P w K mg base CX0 1 "_law_dip" ["jar", "many"] spDip)
    (c_law_sure_house : CallOk P w K mg base CX0 4 "_law_sure_house" ["jar", "most", "floors"] spSureHouse) (c_law_people : CallOk P w K mg base CX0 2 "_law_people" ["jar", "house", "most"] spPeople) (c_law_standing : CallOk P w K mg base CX0 1 "_law_standing" ["house", "heaps", "out"] spStandL)
    (c_law_any_order : CallOk P w K mg base CX0 2 "_law_any_order" ["jar", "house", "heaps", "out"] spAny) (c_comings : CallOk P w K mg base CX0 10 "comings" ["house", "standing"] spComings) (c_law_far_right : CallG P w K mg base 11 "_law_far_right" ["house", "standing"] spFarRight)
    (c_together : CallOk P w K mg base (L2.CX P w) 7 "together" ["house", "one", "other"] spTogether) :
    RunG P w K mg base 12 f fd ["script"] (spLaw K) := by
    refine run_g F sc_law fun cdv A outer s H vs Q hg hr h => ?_
    obtain ⟨a, ns, rfl, hn, hS, k⟩ := h
    have nd := sc_law.nd
    refine ⟨_, (pss_cons (ps_for PassesOwn.never rfl (pi_list (pe_op op_cat (pe_slice (r := rSlL K) sl_list (pv 0) po_none (po_some pe_int)) (pe_lst (pa_cons pe_int pa_nil)))) (pg_name (i := 1) nd rfl (Or.inl rfl)) (pss_cons (ps_set (i := 2) nd rfl (Or.inr rfl) (pe_cc c_law_jar (hr.mono (by omega)) (pa_cons (pv 1) pa_nil)))
      (pss_cons (ps_set (i := 3) nd rfl (Or.inl rfl) (pe_cc c_law_sure_house (hr.mono (by omega)) (pa_cons (pv 2) (pa_cons pe_int (pa_cons pe_int pa_nil)))))
      (pss_cons (ps_set (i := 4) nd rfl (Or.inr rfl) (pe_callB (r := rLenS K) call_lenS (by rfl) T.n_len (by decide +kernel) (pa_cons (pe_ix (r := rIxT K) ix_tup (pe_ix (r := rIxT K) ix_tup (pv 3) pe_int (fun _ _ => rfl)) pe_int (fun _ _ => rfl)) pa_nil)))
      (pss_one (ps_for PassesOwn.never rfl (pi_range1 rfl T.n_range (pa_cons pe_int pa_nil)) (pg_name (i := 5) nd rfl (Or.inl rfl)) (pss_cons (ps_par (i := 6) (j := 7) (by rfl) nd rfl rfl (by decide) rfl rfl (pa_cons (pe_cc c_law_people (hr.mono (by omega)) (pa_cons (pv 2) (pa_cons (pv 3) (pa_cons (pe_ix (r := rIxL K) ix_list (pe_lst (pa_cons pe_int (pa_cons pe_int pa_nil))) (pe_cc c_law_dip (hr.mono (by omega)) (pa_cons (pv 2) (pa_cons pe_int pa_nil))) (fun _ _ => rfl)) pa_nil)))) (pa_cons (pe_cc c_law_dip (hr.mono (by omega)) (pa_cons (pv 2) (pa_cons pe_int pa_nil))) pa_nil)) (by rfl))
      (pss_cons (ps_set (i := 8) nd rfl (Or.inl rfl) (pe_cc c_law_standing (hr.mono (by omega)) (pa_cons (pv 3) (pa_cons (pv 6) (pa_cons (pv 7) pa_nil)))))
      (pss_cons (ps_set (i := 9) nd rfl (Or.inl rfl) (pe_callB (call_repr hg hr.units) (by rfl) T.n_repr (by decide +kernel) (pa_cons (pe_lst (pa_cons (pv 3) (pa_cons (pv 8) pa_nil))) pa_nil)))
      (pss_cons (ps_for PassesOwn.never rfl (pi_range1 rfl T.n_range (pa_cons pe_int pa_nil)) (pg_name (i := 10) nd rfl (Or.inl rfl)) (pss_cons (ps_set (i := 11) nd rfl (Or.inl rfl) (pe_ix (r := rIxL K) ix_list (pe_cc c_law_any_order (hr.mono (by omega)) (pa_cons (pv 2) (pa_cons (pv 3) (pa_cons (pv 6) (pa_cons (pv 7) pa_nil))))) pe_int (fun _ _ => rfl)))
      (pss_cons (ps_setLc (i := 12) (own := [("heap", 14)]) (g := (gName 14)) (tt := tYes) (by rfl) nd rfl rfl (sw_true rfl rfl rfl (by decide +kernel)) (pi_list (pv 11)) (blkOk_by (own := [("heap", 14)]) (N := N_law) (sc := defScope s_law) (by decide +kernel)) (fun _ _ _ _ _ => (pg_name (i := 14) nd rfl (Or.inr rfl))) (fun _ _ _ _ _ => pts_nil) (fun _ _ _ _ _ => (pe_lc (own := [("number", 13)]) (g := (gName 13)) (tt := tYes) (by rfl) nd (pi_range1 rfl T.n_range (pa_cons (pv 4) pa_nil)) (blkOk_by (own := [("number", 13)]) (N := N_law) (sc := relS _ (defScope s_law)) (by decide +kernel)) (fun _ _ _ _ _ => (pg_name (i := 13) nd rfl (Or.inl rfl))) (fun _ _ _ _ _ => pts_nil) (fun _ _ _ _ _ => (pe_bmK (K := K) (r := rCountI K) rfl PySem.F.plainAttrs_list PySem.F.slot_list_count PySem.F.type_list_count mt_countI (pv 14) (pa_cons (pv 13) pa_nil))))))
      (pss_cons (ps_set (i := 15) nd rfl (Or.inl rfl) (pe_cc c_comings (hr.mono (by omega)) (pa_cons (pv 3) (pa_cons (pv 8) pa_nil))))
      (pss_cons (ps_if (PW.pt (pw_or (pt_cmpR op_ne (pe_callB (call_repr hg hr.units) (by rfl) T.n_repr (by decide +kernel) (pa_cons (pv 15) pa_nil)) (pe_callB (call_repr hg hr.units) (by rfl) T.n_repr (by decide +kernel) (pa_cons (pv 12) pa_nil)) (nomark _)) (pw_or1 (pt_cmpR op_ne (pe_callB (call_repr hg hr.units) (by rfl) T.n_repr (by decide +kernel) (pa_cons (pe_lst (pa_cons (pv 3) (pa_cons (pv 8) pa_nil))) pa_nil)) (pv 9) (nomark _))))) (pss_one (ps_ret pe_bl)) pss_nil)
      (pss_cons (ps_for PassesOwn.never rfl (pi_list (pv 15)) (pg_name (i := 16) nd rfl (Or.inl rfl)) (pss_one (ps_expr (pe_bm PySem.F.plainAttrs_list PySem.F.slot_list_append PySem.F.type_list_append mt_append (pv 16) (pa_cons pe_int pa_nil)))))
      (pss_cons (ps_if (pt_cmpR (r := rNeD K) (op_neD hr.units) (pe_lc (own := [("row", 16)]) (g := (gName 16)) (by rfl) nd (pi_list (pv 15)) (blkOk_by (own := [("row", 16)]) (N := N_law) (sc := defScope s_law) (by decide +kernel)) (fun _ _ _ _ _ => (pg_name (i := 16) nd rfl (Or.inl rfl))) (fun _ _ _ _ _ => (pts_one (pt_cmpR op_ne (pe_callB (r := rLenS K) call_lenS (by rfl) T.n_len (by decide +kernel) (pa_cons (pv 16) pa_nil)) (pe_op op_add (pv 4) pe_int) (nomark _)))) (fun _ _ _ _ _ => pe_int)) (pe_lst pa_nil) (nomark _)) (pss_one (ps_ret pe_bl)) pss_nil)
      (pss_one (ps_expr (pe_bm PySem.F.plainAttrs_list PySem.F.slot_list_append PySem.F.type_list_append mt_append (pv 15) (pa_cons (pe_lst pa_nil) pa_nil)))))))))))
      (pss_cons (ps_set (i := 17) nd rfl (Or.inl rfl) (pe_callTy (r := rTupOf K) call_tupOf (by rfl) T.n_tuple (by decide +kernel) (pa_cons (pe_lc (own := [("number", 13)]) (g := (gName 13)) (tt := tYes) (by rfl) nd (pi_range1 rfl T.n_range (pa_cons (pv 4) pa_nil)) (blkOk_by (own := [("number", 13)]) (N := N_law) (sc := defScope s_law) (by decide +kernel)) (fun _ _ _ _ _ => (pg_name (i := 13) nd rfl (Or.inl rfl))) (fun _ _ _ _ _ => pts_nil) (fun _ _ _ _ _ => (pe_cc c_law_dip (hr.mono (by omega)) (pa_cons (pv 2) (pa_cons (pe_ix (r := rIxL K) ix_list (pe_lst (pa_cons pe_int (pa_cons (pe_op op_pow pe_int pe_int) pa_nil))) (pe_cc c_law_dip (hr.mono (by omega)) (pa_cons (pv 2) (pa_cons pe_int pa_nil))) (fun _ _ => rfl)) pa_nil))))) pa_nil)))
      (pss_cons (ps_set (i := 18) nd rfl (Or.inl rfl) (pe_op (r := rCatA K) op_catA (pe_tup (pa_cons (pv 17) pa_nil)) (pe_slice (r := rSlA K) sl_tupA (pv 8) (po_some pe_int) po_none)))
      (pss_one (ps_if (PW.pt (pw_or (pt_not (pt_val (pe_cg c_law_far_right hg (hr.mono (by omega)) (pa_cons (pv 3) (pa_cons (pv 18) pa_nil))))) (pw_or1 (pt_not (pt_val (pe_cg c_law_far_right hg (hr.mono (by omega)) (pa_cons (pv 3) (pa_cons (pe_cx c_together (hr.mono (by omega)) (pa_cons (pv 3) (pa_cons (pv 18) (pa_cons (pv 18) pa_nil)))) pa_nil)))))))) (pss_one (ps_ret pe_bl)) pss_nil))))))))))))))
      (pss_one (ps_ret pe_bl))), ?_⟩
    walk_at "op"
    refine ⟨_, rfl, _, rfl, a, _, rfl, hS, fun S1 h1 => ?_⟩
    refine ⟨by show 1 ≤ sizeLine; decide, fun S2 h2 => ?_⟩
    have S12 : S1 ≠ S2 := ne_of_none upd_same h2
    have lz : (cutV (ns.map V.int) none (some 8)).length + [V.int 0].length ≤ sizeLine := by
      unfold cutV
      rw [List.length_take, List.length_drop, List.length_map]
      show _ + 1 ≤ _
      omega
    have cells : ∀ x ∈ cutV (ns.map V.int) none (some 8) ++ [V.int 0], ∃ c, x = V.int c := fun x hx => by
      rcases List.mem_append.mp hx with hx | hx
      · obtain ⟨c, _, rfl⟩ := List.mem_map.mp (List.mem_of_mem_drop (List.mem_of_mem_take hx))
        exact ⟨c, rfl⟩
      · simp only [List.mem_cons, List.not_mem_nil, or_false] at hx
        exact ⟨0, hx⟩
    refine ⟨_, _, _, _, rfl, rfl, by rw [upd_ne S12]; exact upd_same, upd_same, lz, fun S h3 => ?_⟩
    generalize cutV (ns.map V.int) none (some 8) ++ [V.int 0] = zs at cells ⊢
    have hS3 : upd (upd (upd H S1 (.lst (cutV (ns.map V.int) none (some 8)))) S2 (.lst [.int 0])) S (.lst zs) S = some (.lst zs) := upd_same
    generalize upd (upd (upd H S1 (.lst (cutV (ns.map V.int) none (some 8)))) S2 (.lst [.int 0])) S (.lst zs) = H3 at hS3 ⊢
    refine ⟨S, rfl, ⟨_, SqL.of hS3⟩, ?_⟩
    clear h1 h2 h3 lz
    refine fL (fun i σ H4 => H4 S = some (.lst zs) ∧ ∃ u1 u2 u3 u4 u5 u6 u7 u8 u9 u10 u11 u12 u15 u16 u17 u18, σ = [some (.ref a), u1, u2, u3, u4, u5, u6, u7, u8, u9, u10, u11, u12, none, none, u15, u16, u17, u18]) ⟨hS3, _, _, _, _, _, _, _, _, _, _, _, _, _, _, _, _, rfl⟩ (fun i σ H4 _ hp => SqL.of hp.1) ?_ ?_
    · rintro i x σ H4 hi ⟨hS4, u1, u2, u3, u4, u5, u6, u7, u8, u9, u10, u11, u12, u15, u16, u17, u18, rfl⟩
      obtain ⟨c, rfl⟩ := cells x (List.mem_of_getElem? hi)
      clear hi
      walk_at "op"
      refine ⟨_, rfl, c, rfl, fun p H5 hp hJ5 s5 => ?_⟩
      have Sp0 : S ≠ p := ne_of_none hS4 hp
      have hS5 := s5 _ _ hS4
      refine ⟨_, rfl, p, 6, 0, rfl, by decide, by decide, by decide, hJ5, fun hv H7 fs m n hD7 hN hF hSu hJ7 x7 => ?_⟩
      have hS7 := x7 _ _ hS5 Sp0
      have hgo := goLt_of hD7 hN
      have hmn : 1 ≤ n ∧ n ≤ 4 ∧ 1 ≤ m ∧ m ≤ 6 := by
        obtain ⟨_, _, _, z1, z2, z3, z4, _⟩ := hN
        exact ⟨z1, z2, z3, z4⟩
      have B := tabs_of hN hgo
      have B1 : ∀ f, f < n → FmC.Tables 1 m (fun _ => goN fs 0 f) (fun _ => goN fs 1 f) := fun f hf => ⟨fun _ a b _ ha hb => B.sc f a b hf ha hb, fun _ a b _ ha hb => B.uc f a b hf ha hb, fun _ a b _ ha hb => B.sm f a b hf ha hb, fun _ a b _ ha hb => B.um f a b hf ha hb⟩
      have T1 : ∀ f, f < n → FmC.Three 1 m (fun _ => goN fs 0 f) (fun _ => goN fs 1 f) := fun f hf => FmC.three_alone (fun a b ha hb => B.sm f a b hf ha hb) fun x y z hx hy hz => ⟨(hF f x y z hf hx hy hz).1, hSu f hf x y z hx hy hz⟩
      obtain ⟨ah, af, hs, t0, t1, rfl, g1, g2, g3, hFl⟩ := floor_at hD7 hN (f := 0) (by omega)
      obtain ⟨ss, hss, hsl⟩ := stay_len hD7 hN (by omega) g1 g3 hFl
      refine ⟨_, rfl, ah, hs, 0, _, rfl, rfl, SqT.of g1, atI_nat (j := 0) g3, af, _, 0, _, rfl, rfl, SqT.of hFl.at_, rfl, t0, ss, rfl, .inr (SqT.of hss), ?_⟩
      rw [hsl]
      refine ⟨3, rfl, by decide, by decide, ?_⟩
      clear hS4 hS5 x7 s5 hp hJ5 hss hFl g1 g2 g3 hsl
      have e18 : (10 : Int) ^ (18 : Int).toNat = 10 ^ 18 := rfl
      have E18 : (10 : Int) ^ 18 = 1000000000000000000 := by decide
      generalize hvE : V.ref ah = hv at *
      refine fR (fun i σ G => G S = some (.lst zs) ∧ Jar G p (1000 + i * 9000) ∧ Dat G p hv (.tuple fs) ∧ ∃ u5 u6 u7 u8 u9 u10 u11 u12 u15 u16 u17 u18, σ = [some (.ref a), some (.int c), some (.ref p), some hv, some (.int (m : Nat)), u5, u6, u7, u8, u9, u10, u11, u12, none, none, u15, u16, u17, u18])
        ⟨hS7, hJ7.le (by omega), hD7, _, _, _, _, _, _, _, _, _, _, _, _, rfl⟩ ?_ ?_
      · rintro i σ G hi ⟨hSG, hJG, hHG, v5, v6, v7, v8, v9, v10, v11, v12, v15, v16, v17, v18, rfl⟩
        clear hS7 hJ7 hD7
        walk_at "op"
        refine ⟨_, rfl, _, rfl, by show 2 ≤ sizeLine; decide, fun W0 hW0 => ?_⟩
        have nW : p ≠ W0 := hJG.ne hW0
        have s1 := same_new (o := .lst [V.int 9, V.int 60]) hW0
        have hW1 : upd G W0 (.lst [V.int 9, V.int 60]) W0 = some (.lst [V.int 9, V.int 60]) := upd_same
        have hJ1 := hJG.same s1
        have hH1 := hHG.same s1
        have hS1 := s1 _ _ hSG
        clear hSG hJG hHG hW0
        generalize upd G W0 (.lst [V.int 9, V.int 60]) = G1 at *
        refine ⟨_, rfl, p, 2, 1000 + i * 9000, rfl, by decide, by decide, by omega, hJ1, fun dd G2 d0 d1 hJ2 x2 => ?_⟩
        obtain ⟨dn, rfl⟩ : ∃ dn : Nat, dd = (dn : Int) := ⟨dd.toNat, by omega⟩
        obtain ⟨most, hmost, hm60⟩ : ∃ most : Nat, ([V.int 9, V.int 60] : List V)[dn]? = some (.int (most : Nat)) ∧ most ≤ 60 := by
          have : dn = 0 ∨ dn = 1 := by omega
          rcases this with rfl | rfl
          · exact ⟨9, rfl, by decide⟩
          · exact ⟨60, rfl, by decide⟩
        refine ⟨W0, _, _, _, rfl, rfl, SqL.of (x2 _ _ hW1 nW.symm), atI_nat hmost, ?_⟩
        have hH2 := hH1.ext x2
        have hS2 := x2 _ _ hS1 Sp0
        refine ⟨p, p, hv, fs, m, n, most, 1000 + i * 9000 + 1, rfl, hm60, by omega, hJ2, hH2, hN, rfl, fun q ws heaps G3 hq hLL3 hhl hok3 hJ3 x3 => ?_⟩
        have nqp : q ≠ p := (hJ2.ne hq).symm
        obtain ⟨hs0, ehs, h0l, h0k⟩ : ∃ hs0 : List (List Nat), heaps = hs0.map castL ∧ hs0.length = n ∧ ∀ h ∈ hs0, h.length ≤ 60 ∧ ∀ x ∈ h, x < m := by
          refine ⟨heaps.map fun h => h.map Int.toNat, ?_, by rw [List.length_map]; exact hhl, fun h hh => ?_⟩
          · rw [List.map_map]
            refine ((List.map_congr_left fun h hh => ?_).trans (List.map_id heaps)).symm
            exact cast_back fun x hx => ((hok3 h hh).2 x hx).1
          · obtain ⟨h', hh', rfl⟩ := List.mem_map.mp hh
            refine ⟨by rw [List.length_map]; exact (hok3 h' hh').1, fun x hx => ?_⟩
            obtain ⟨y, hy, rfl⟩ := List.mem_map.mp hx
            have := (hok3 h' hh').2 y hy
            omega
        subst ehs
        have hH3 := hH2.ext x3
        have hS3' := x3 _ _ hS2 Sp0
        clear hok3 hhl hW1 hJ1 hH1 hS1 hH2 hS2 hq s1
        refine ⟨_, rfl, p, 5, 1000 + i * 9000 + 1 + 200, rfl, by decide, by decide, by omega, hJ3, fun oo G4 o0 o1 hJ4 x4 => ?_⟩
        obtain ⟨out, rfl⟩ : ∃ out : Nat, oo = (out : Int) := ⟨oo.toNat, by omega⟩
        have hH4 := hH3.ext x4
        have hS4 := x4 _ _ hS3' Sp0
        have hLL4 := hLL3.ext x4 nqp
        obtain ⟨u4, hu4⟩ := hJ4.here
        obtain ⟨stok, stl, st36, stfit⟩ := law_st (out := out) hmn.2.1 hmn.2.2.2 h0l h0k (by omega)
        refine ⟨_, _, rfl, ?_⟩
        refine ⟨_, rfl, _, rfl, _, rfl, p, p, q, u4, hv, fs, m, n, ws, hs0.map castL, out, rfl, hu4, hH4, hN, hLL4, by rw [List.length_map]; exact h0l, fun sv G5 hD5 s5 => ?_⟩
        clear hS3' hH3 hJ3 hLL3 x2 x3 x4
        have hH5 := hH4.same s5
        have hS5 := s5 _ _ hS4
        have hLL5 := hLL4.same s5
        have hJ5 := hJ4.same s5
        clear hH4 hS4 hLL4 hu4 hJ4 s5
        generalize hrows : (hs0.map castL).map (countR m) = rows at *
        refine ⟨_, rfl, _, rfl, by show 2 ≤ sizeLine; decide, fun t1 ht1 => ?_⟩
        have st1 := same_new (o := .lst [hv, sv]) ht1
        have hpair : Dat (upd G5 t1 (.lst [hv, sv])) p (.ref t1) (.list [.tuple fs, stD rows (out : Nat)]) := Dat.newL ht1 (hJ5.ne ht1).symm (Dats.cons hH5 (Dats.cons hD5 Dats.nil))
        have hH6 := hH5.same st1
        have hD6 := hD5.same st1
        have hS6 := st1 _ _ hS5
        have hLL6 := hLL5.same st1
        have hJ6 := hJ5.same st1
        clear hH5 hD5 hS5 hLL5 hJ5 st1
        generalize upd G5 t1 (.lst [hv, sv]) = G6 at *
        refine ⟨.ref t1, p, _, _, _, rfl, hpair, fit_pairL hN stfit, by decide, by decide, ?_⟩
        generalize hkp : (PyData.list [.tuple fs, stD rows (out : Nat)]).shown = kp
        clear hpair ht1
        refine ⟨2, rfl, by decide, by decide, ?_⟩
        have h60 : ∀ r ∈ rows, ∀ c ∈ r, c ≤ 60 := by
          rw [← hrows]
          exact law_60 h0k
        have hkr : ∀ r ∈ rows, r.length = m ∧ FmC.NN r := fun r hr => ⟨stok.len r hr, stok.pos r hr⟩
        refine fR (fun j σ G => G S = some (.lst zs) ∧ Jar G p (1000 + i * 9000 + 1 + 200 + 1 + j * 2000) ∧ Dat G p hv (.tuple fs) ∧ LL G p q ws (hs0.map castL) ∧ Dat G p sv (stD rows (out : Nat)) ∧
            ∃ u10 u11 u12 u15 u16, σ = [some (.ref a), some (.int c), some (.ref p), some hv, some (.int (m : Nat)), some (.int (0 + (i : Nat))), some (.ref q), some (.int (out : Nat)), some sv, some (.str kp), u10, u11, u12, none, none, u15, u16, v17, v18])
          ⟨hS6, hJ6.le (by omega), hH6, hLL6, hD6, _, _, _, _, _, rfl⟩ ?_ ?_
        · rintro j σ G hj ⟨hSG, hJG, hHG, hLLG, hDG, u10, u11, u12, u15, u16, rfl⟩
          clear hS6 hJ6 hH6 hLL6 hD6
          walk_at "op"
          refine ⟨_, rfl, _, rfl, _, rfl, _, rfl, p, q, hv, fs, m, n, 1000 + i * 9000 + 1 + 200 + 1 + j * 2000, out, ws, hs0, rfl, by omega, hJG, hHG, hN, hLLG, h0l, h0k, fun L1 Vc w1 wd hs cs G1 hL1 hLLc hcl hcb hcap hci hJ1 x1 nVp => ?_⟩
          have hcd := came_told B h0l (fun h hh => (h0k h hh).2) hcl hcap hci
          rw [hrows] at hcd
          have hH1 := hHG.ext x1
          have hS1 := x1 _ _ hSG Sp0
          have hLL1 := hLLG.ext x1 nqp
          have hD1 := hDG.ext x1
          obtain ⟨uj, huj⟩ := hJ1.here
          have hcasts : ((cs.take n).map castL).length = n := by rw [List.length_map, List.length_take]; omega
          clear hcap hci hSG hJG hHG hLLG hDG x1 hcb
          refine ⟨L1, _, 1, .ref Vc, rfl, rfl, SqL.of hL1, rfl, ?_⟩
          generalize (cs.take n).map castL = cl at *
          refine ⟨_, rfl, Vc, rfl, ⟨_, SqL.of hLLc.at_⟩, fun E1 hE1 => ?_⟩
          refine lI walk_list (fun k G2 => Same G1 G2 ∧ ∃ wu, LL G2 p E1 wu ((cl.take k).map (countR m))) ⟨same_new hE1, [], LL.nil upd_same⟩ (fun _ _ _ ⟨e, _⟩ => SqL.of (e _ _ hLLc.at_)) ?_ ?_
          · rintro k' x _ G2 hk ⟨s2, wu, hLu⟩ ⟨rfl, hxk⟩
            have hkc : k' < cl.length := by rw [← hLLc.len]; exact hk
            have hgk : cl[k']? = some cl[k'] := List.getElem?_eq_getElem hkc
            obtain ⟨b, e1, hb, _, _⟩ := hLLc.row k' _ hgk
            rw [hxk] at e1
            cases e1
            have htk := tk_snoc hgk
            generalize cl[k'] = h at *
            walk_at "op"
            refine ⟨rfl, ?_⟩
            refine iteT ?_
            refine ⟨_, rfl, _, rfl, by omega, by omega, ?_⟩
            rw [Int.toNat_natCast]
            refine fun R hR => ?_
            refine lI walk_range (fun j G3 => Same G2 G3 ∧ G3 R = some (.lst ((countR j h).map V.int))) ⟨same_new hR, upd_same⟩ (fun _ _ _ _ => True.intro) ?_ ?_
            · rintro j' x _ G3 hj' ⟨s3, hR3⟩ ⟨rfl, rfl⟩
              walk_at "op"
              refine ⟨rfl, ?_⟩
              refine iteT ?_
              rw [Int.zero_add ((j' : Nat) : Int)]
              refine ⟨_, rfl, .inl ⟨rfl, _, SqL.of ((s2.trans s3) _ _ hb)⟩, _, rfl, b, h, (j' : Nat), rfl, rfl, SqL.of ((s2.trans s3) _ _ hb), ?_⟩
              refine ⟨_, hR3, by unfold countR; rw [List.length_map, List.length_map, List.length_range]; exact Nat.lt_of_le_of_lt (show j' ≤ 6 by omega) (by rw [sizeLine_eq]; omega), sameOff s3 hR, ?_⟩
              rw [upd_same, countR_snoc, List.map_append]
              rfl
            · rintro G3 ⟨s3, hR3⟩
              have hLu3 := hLu.same s3
              have nRE : R ≠ E1 := (ne_of_none hLu.at_ hR).symm
              have nRp : R ≠ p := ((hJ1.same s2).ne hR).symm
              refine ⟨wu, hLu3.at_, small1000 (by rw [hLu.len, List.length_map, List.length_take]; omega), sameOff (s2.trans s3) hE1, wu ++ [.ref R], ?_⟩
              rw [htk, List.map_append]
              exact hLu3.snoc hR3 nRE nRp
          · rintro G2 ⟨s2, wu, hLu⟩
            rw [hLLc.len, List.take_length] at hLu
            have nEp : E1 ≠ p := (hJ1.ne hE1).symm
            have hH2 := hH1.same s2
            have hS2 := s2 _ _ hS1
            have hLL2 := hLL1.same s2
            have hD2 := hD1.same s2
            have hJ2 := hJ1.same s2
            have hu2 := s2 _ _ huj
            clear hL1 hLLc hH1 hS1 hLL1 hD1 hJ1 huj s2
            try dsimp only [List.set]
            refine ⟨_, rfl, _, rfl, hv, sv, p, p, uj, fs, m, n, rows, _, rfl, hu2, hH2, hN, hF, hSu, hD2, stl, stok, st36, fun L2 wf told G3 hcom hL2n hLLf injf freshf nLf s3 => ?_⟩
            generalize cl.map (countR m) = due at *
            obtain rfl := FmC.com_one B1 T1 hcom hcd
            have hfit := com_fit B hmn.2.1 hmn.2.2.2 stl hkr st36 hcom
            have hLu3 := hLu.same s3
            refine ⟨_, rfl, .ref L2, p, _, _, _, rfl, hLLf.dat nLf, hfit, by decide, by decide, ?_⟩
            refine ⟨_, rfl, .ref E1, p, _, _, _, rfl, hLu3.dat nEp, hfit, by decide, by decide, ?_⟩
            refine ⟨rfl, false, by rw [decide_eq_true rfl]; rfl, ?_⟩
            rw [if_neg (by decide)]
            have hH3 := hH2.same s3
            have hS3 := s3 _ _ hS2
            have hLL3 := hLL2.same s3
            have hD3 := hD2.same s3
            have hJ3 := hJ2.same s3
            refine ⟨_, rfl, _, rfl, by show 2 ≤ sizeLine; decide, fun t5 ht5 => ?_⟩
            have s5 := same_new (o := .lst [hv, sv]) ht5
            have hpair : Dat (upd G3 t5 (.lst [hv, sv])) p (.ref t5) (.list [.tuple fs, stD rows (out : Nat)]) := Dat.newL ht5 (hJ3.ne ht5).symm (Dats.cons hH3 (Dats.cons hD3 Dats.nil))
            refine ⟨.ref t5, p, _, _, _, rfl, hpair, fit_pairL hN stfit, by decide, by decide, ?_⟩
            rw [hkp]
            refine ⟨_, rfl, rfl, false, by rw [decide_eq_true rfl]; rfl, ?_⟩
            rw [if_neg (by decide)]
            -- the told rows are the asker's own
            have s25 := s3.trans s5
            have hLLf5 := hLLf.same s5
            have hwl : wf.length = n := by rw [hLLf.len, hcom.len]
            have htl : ∀ t ∈ told, t.length = m := fun t ht => by
              obtain ⟨g, hg⟩ := List.mem_iff_getElem?.mp ht
              have hgn : g < n := by rw [← hcom.len]; exact (List.getElem?_eq_some_iff.mp hg).1
              obtain ⟨t', r, q1, q2, q3, _⟩ := FmC.com_facts B.sm B.um stl hkr hcom g hgn
              rw [hg] at q1
              cases q1
              exact q3
            clear hLu hLu3 hLLf hpair ht5 hH3 hS3 hLL3 hD3 hJ3 s5 s3
            generalize upd G3 t5 (.lst [hv, sv]) = G4 at *
            refine ⟨_, rfl, L2, rfl, ⟨_, SqL.of hLLf5.at_⟩, ?_⟩
            refine fI walk_list (fun k σ G5 => ∃ (u16 : Option V) (fl : List (List Int)), σ = [some (.ref a), some (.int c), some (.ref p), some hv, some (.int (m : Nat)), some (.int (0 + (i : Nat))), some (.ref q), some (.int (out : Nat)), some sv, some (.str kp), some (.int (0 + (j : Nat))), some (.ref Vc), some (.ref E1), none, none, some (.ref L2), u16, v17, v18] ∧ Same G2 G5 ∧ LL G5 p L2 wf fl ∧ fl.length = n ∧ ∀ g, (g < k → ∃ t, fl[g]? = some t ∧ t.length = m + 1) ∧ (k ≤ g → fl[g]? = told[g]?))
              ⟨_, told, rfl, s25, hLLf5, hcom.len, fun g => ⟨fun z => absurd z (Nat.not_lt_zero g), fun _ => rfl⟩⟩ (fun _ _ _ _ ⟨_, _, _, _, e, _⟩ => SqL.of e.at_) ?_ ?_
            · rintro k' x σ _ G5 hk ⟨u16, fl, rfl, sG5, hLLg, hfl, hall⟩ ⟨rfl, hxk⟩
              rw [hwl] at hk
              have hgt : told[k']? = some (told[k']'(by rw [hcom.len]; exact hk)) := List.getElem?_eq_getElem _
              have hml := htl _ (List.getElem_mem (by rw [hcom.len]; exact hk : k' < told.length))
              have hfk := ((hall k').2 (Nat.le_refl _)).trans hgt
              generalize told[k']'(by rw [hcom.len]; exact hk) = t at *
              obtain ⟨b, e1, hb, nb1, nb2⟩ := hLLg.row k' t hfk
              rw [hxk] at e1
              cases e1
              have hbG2 := freshf _ _ hxk
              walk_at "op"
              refine ⟨_, rfl, .inl ⟨rfl, _, SqL.of hb⟩, b, _, .int 1, rfl, rfl, hb, small1000 (by rw [List.length_map]; omega), ?_⟩
              have et : t.map V.int ++ [V.int 1] = (t ++ [1]).map V.int := by rw [List.map_append]; rfl
              rw [et]
              refine ⟨_, fl.set k' (t ++ [1]), rfl, sameOff sG5 hbG2, hLLg.updRow hxk (fun j' e => injf j' k' b e hxk), by rw [List.length_set]; exact hfl, fun g => ⟨fun hg1 => ?_, fun hg1 => ?_⟩⟩
              · by_cases z : g = k'
                · subst z
                  exact ⟨_, List.getElem?_set_self (by omega), by rw [List.length_append, hml]; rfl⟩
                · rw [List.getElem?_set_ne (Ne.symm z)]
                  exact (hall g).1 (by omega)
              · rw [List.getElem?_set_ne (by omega)]
                exact (hall g).2 (by omega)
            · rintro σ G5 ⟨u16, fl, rfl, sG5, hLLg, hfl, hall⟩
              rw [hwl] at hall
              walk_at "op"
              refine ⟨_, rfl, L2, rfl, ⟨_, SqL.of hLLg.at_⟩, fun D3 hD3n => ?_⟩
              refine lI walk_list (fun k G6 => Same G5 G6 ∧ G6 D3 = some (.lst [])) ⟨same_new hD3n, upd_same⟩ (fun _ _ _ ⟨e, _⟩ => SqL.of (e _ _ hLLg.at_)) ?_ ?_
              · rintro k' x _ G6 hk ⟨s6, hD6⟩ ⟨rfl, hxk⟩
                rw [hwl] at hk
                obtain ⟨t, ht1, ht2⟩ := (hall k').1 hk
                obtain ⟨b, e1, hb, _⟩ := hLLg.row k' t ht1
                rw [hxk] at e1
                cases e1
                walk_at "op"
                refine ⟨rfl, ?_⟩
                refine ⟨_, rfl, b, _, rfl, .inl (SqL.of (s6 _ _ hb)), ?_⟩
                refine ⟨_, rfl, _, _, rfl, rfl, rfl, false, by rw [List.length_map, ht2, decide_eq_true (show V.int ((m + 1 : Nat) : Int) = V.int ((m : Nat) + 1) from rfl)]; rfl, ?_⟩
                rw [if_neg (by decide)]
                exact ⟨s6, hD6⟩
              · rintro G6 ⟨s6, hD6⟩
                refine ⟨Nat.zero_le _, fun D4 hD4 => ?_⟩
                have s4 := same_new (o := .lst []) hD4
                refine ⟨.list [], .list [], .lst (SqL.of (s4 _ _ hD6)) .nil, .lst (SqL.of upd_same) .nil, by decide, by decide, false, by rw [eqv_nil]; rfl, ?_⟩
                rw [if_neg (by decide)]
                have hL7 := (s6.trans s4) _ _ hLLg.at_
                refine ⟨_, rfl, .inl ⟨rfl, _, SqL.of hL7⟩, Nat.zero_le _, fun D5 hD5n => ?_⟩
                have s7 := same_new (o := .lst []) hD5n
                have hL8 := s7 _ _ hL7
                refine ⟨L2, wf, .ref D5, rfl, rfl, hL8, small1000 (by omega), ?_⟩
                have sE := sameOff (((sG5.trans s6).trans s4).trans s7) (o := .lst (wf ++ [.ref D5])) hL2n
                exact ⟨sE _ _ hS2, (hJ2.same sE).le (by omega), hH2.same sE, hLL2.same sE, hD2.same sE, _, _, _, _, _, rfl⟩
        · rintro σ G ⟨hSG, hJG, hHG, hLLG, hDG, u10, u11, u12, u15, u16, rfl⟩
          clear hS6 hJ6 hH6 hLL6 hD6
          walk_at "op"
          refine ⟨_, rfl, _, rfl, by omega, by omega, ?_⟩
          rw [Int.toNat_natCast]
          refine fun A0 hA0 => ?_
          have nJA := hJG.ne hA0
          refine lI walk_range (fun k G2 => Ext p G G2 ∧ Jar G2 p (1000 + i * 9000 + 1 + 200 + 1 + 2 * 2000 + 2 * k) ∧ ∃ ns : List Int, G2 A0 = some (.lst (ns.map V.int)) ∧ ns.length = k ∧ ∀ x ∈ ns, 0 ≤ x ∧ x ≤ 10 ^ 18)
            ⟨Same.ext (same_new hA0) p, (hJG.up nJA).le (by omega), [], upd_same, rfl, fun x hx => by cases hx⟩ (fun _ _ _ _ => True.intro) ?_ ?_
          · rintro k' x _ G2 hk ⟨x2, hJ2, ns, hA2, hnl, hnb⟩ ⟨rfl, rfl⟩
            walk_at "op"
            refine ⟨rfl, ?_⟩
            refine iteT ?_
            refine ⟨_, rfl, 10, 18, rfl, rfl, ⟨by decide, by decide, by decide⟩, ?_⟩
            rw [e18]
            refine ⟨by show 2 ≤ sizeLine; decide, fun W0 hW0 => ?_⟩
            have sw := same_new (o := .lst [V.int 2, V.int (10 ^ 18)]) hW0
            have hW1 : upd G2 W0 (.lst [V.int 2, V.int (10 ^ 18)]) W0 = some (.lst [V.int 2, V.int (10 ^ 18)]) := upd_same
            have nJW := hJ2.ne hW0
            have hJ3 := hJ2.same sw
            have hA3 := sw _ _ hA2
            have x3 := x2.trans (Same.ext sw p)
            clear hW0 hA2 hJ2 x2
            generalize upd G2 W0 (.lst [V.int 2, V.int (10 ^ 18)]) = G3 at *
            refine ⟨_, rfl, p, 2, _, rfl, by decide, by decide, by omega, hJ3, fun de G4 d2 d3 hJ4 x4 => ?_⟩
            obtain ⟨dn, rfl⟩ : ∃ dn : Nat, de = (dn : Int) := ⟨de.toNat, by omega⟩
            obtain ⟨wd, hwd, w1, w18⟩ : ∃ wd : Int, ([V.int 2, V.int (10 ^ 18)] : List V)[dn]? = some (.int wd) ∧ 1 ≤ wd ∧ wd ≤ 10 ^ 18 := by
              have : dn = 0 ∨ dn = 1 := by omega
              rcases this with rfl | rfl
              · exact ⟨2, rfl, by decide, by decide⟩
              · exact ⟨10 ^ 18, rfl, by decide, by decide⟩
            have zl : wd.natAbs.log2 < 9000 := by
              have q := PySem.Flt.log2_lt_of (by decide : 0 < 60) (show wd.natAbs < 2 ^ 60 by
                have : (2 : Nat) ^ 60 = 1152921504606846976 := by decide
                omega)
              omega
            refine ⟨W0, _, _, _, rfl, rfl, SqL.of (x4 _ _ hW1 nJW.symm), atI_nat hwd, ?_⟩
            refine ⟨p, wd, _, rfl, w1, zl, by omega, hJ4, fun dv G5 d4 d5 hJ5 x5 => ?_⟩
            have hA5 := x5 _ _ (x4 _ _ hA3 nJA.symm) nJA.symm
            refine ⟨_, hA5, small1000 (by rw [List.length_map]; omega), ((x3.trans x4).trans x5).free hA0, (hJ5.up nJA).le (by omega), ns ++ [dv], ?_, by rw [List.length_append, hnl]; rfl, fun x hx => ?_⟩
            · rw [upd_same, List.map_append]
              rfl
            · rcases List.mem_append.mp hx with hx | hx
              · exact hnb x hx
              · rw [List.mem_singleton.mp hx]
                exact ⟨by omega, by omega⟩
          · rintro G2 ⟨x2, hJ2, ns, hA2, hnl, hnb⟩
            have hH2 := hHG.ext x2
            have hS2 := x2 _ _ hSG Sp0
            have hD2 := hDG.ext x2
            clear hSG hJG hHG hLLG hDG x2
            refine ⟨A0, _, rfl, .inl ⟨SqL.of hA2, fun l hl => ?_⟩⟩
            have nlp : l ≠ p := (hJ2.ne hl).symm
            have sl := same_new (o := .tup (ns.map V.int)) hl
            have hl1 : upd G2 l (.tup (ns.map V.int)) l = some (.tup (ns.map V.int)) := upd_same
            refine ⟨_, rfl, by show 1 ≤ sizeLine; decide, fun l2 hl2 => ?_⟩
            have sl2 := same_new (o := .tup [V.ref l]) hl2
            have hl21 : upd (upd G2 l (.tup (ns.map V.int))) l2 (.tup [V.ref l]) l2 = some (.tup [V.ref l]) := upd_same
            have hl12 := sl2 _ _ hl1
            have s22 := sl.trans sl2
            have hH3 := hH2.same s22
            have hS3 := s22 _ _ hS2
            have hD3 := hD2.same s22
            have hJ3 := hJ2.same s22
            clear hH2 hS2 hD2 hJ2 sl sl2 s22 hl hl2 hl1 hA2
            generalize upd (upd G2 l (.tup (ns.map V.int))) l2 (.tup [V.ref l]) = G3 at *
            obtain ⟨sa, xs, rfl, hsa, nsp, hx⟩ := st_parts hD3
            have hxl : xs.length = n := by rw [hx.1, List.length_map, stl]
            refine ⟨_, rfl, 1, rfl, sl_tail (SqT.of hsa) (by rw [List.length_append]; show 1 ≤ _ + 1; omega) fun l3 hl3 => ?_⟩
            clear hrows hkp stfit st36 hkr
            obtain ⟨x0, xs1, rfl⟩ : ∃ x0 xs1, xs = x0 :: xs1 := by
              cases xs with
              | nil => have : ([] : List V).length = 0 := rfl; omega
              | cons x0 xs1 => exact ⟨x0, xs1, rfl⟩
            obtain ⟨r0, rows1, rfl⟩ : ∃ r0 rows1, rows = r0 :: rows1 := by
              cases rows with
              | nil => have : ([] : List (List Int)).length = 0 := rfl; omega
              | cons x0 xs1 => exact ⟨x0, xs1, rfl⟩
            have hx1 : Dats G3 p xs1 (rows1.map rowD) := ⟨by have := hx.1; rw [List.map_cons, List.length_cons, List.length_cons] at this; omega, fun i x d a b => hx.2 (i + 1) x d (by rw [List.getElem?_cons_succ]; exact a) (by rw [List.map_cons, List.getElem?_cons_succ]; exact b)⟩
            have s3 := same_new (o := .tup (xs1 ++ [V.int (out : Nat)])) hl3
            rw [show List.drop 1 (x0 :: xs1 ++ [V.int (out : Nat)]) = xs1 ++ [V.int (out : Nat)] from rfl]
            have n13 : l2 ≠ l3 := ne_of_none hl21 hl3
            refine ⟨l2, l3, _, _, rfl, rfl, SqT.of (s3 _ _ hl21), SqT.of upd_same, Nat.le_of_lt (Nat.lt_of_le_of_lt (show 1 + (xs1 ++ [V.int (out : Nat)]).length ≤ 6 by rw [List.length_append]; rw [List.length_cons] at hxl; show 1 + (_ + 1) ≤ 6; omega) (by rw [sizeLine_eq]; omega)), fun e => (by cases e), fun _ e => ?_, fun _ _ wa hwa => ?_⟩
            · have := congrArg List.length e
              rw [List.length_append] at this
              have q : ([] : List V).length = 0 := rfl
              have q1 : ([V.int (out : Nat)] : List V).length = 1 := rfl
              omega
            have hdn : Dat (upd G3 l3 (.tup (xs1 ++ [V.int (out : Nat)]))) p (.ref l) (rowD ns) := (Dat.tup hl12 nlp (by rw [List.length_map, List.length_map]) fun i x d a b => (Dats.ints (p := p) ns).2 i x d a b).same s3
            have hDw := Dat.new hwa ((hJ3.same s3).ne hwa).symm (Dats.cons hdn ((hx1.off hl3).snoc (Dat.int ((out : Nat) : Int))))
            change Dat (upd (upd G3 l3 (.tup (xs1 ++ [V.int (out : Nat)]))) wa (.tup ([V.ref l] ++ (xs1 ++ [V.int (out : Nat)])))) p (.ref wa) (stD (ns :: rows1) (out : Nat)) at hDw
            have s34 := s3.trans (same_new (o := .tup ([V.ref l] ++ (xs1 ++ [V.int (out : Nat)]))) hwa)
            have hH5 := hH3.same s34
            have hS5 := s34 _ _ hS3
            have hJ5 := hJ3.same s34
            have ok : StOk m (ns :: rows1) (out : Nat) := ⟨fun r hr => by
              rcases List.mem_cons.mp hr with rfl | hr
              · exact hnl
              · exact stok.len r (List.mem_cons_of_mem _ hr), fun r hr => by
              rcases List.mem_cons.mp hr with rfl | hr
              · exact fun c hc => (hnb c hc).1
              · exact stok.pos r (List.mem_cons_of_mem _ hr), stok.out⟩
            have hrl : (ns :: rows1).length = n := by rw [List.length_cons]; rw [List.length_cons] at stl; exact stl
            have k19 := some_ok ok hrl hmn.2.2.2 (fun r hr c hc => by
              rcases List.mem_cons.mp hr with rfl | hr
              · exact (hnb c hc).2
              · have := h60 r (List.mem_cons_of_mem _ hr) c hc
                omega)
            have kb := k19.add k19
            have q3 : (10 : Int) ^ 19 < 10 ^ 36 := by decide
            have q4 : (10 : Int) ^ 19 + 10 ^ 19 < 10 ^ 36 := by decide
            clear hD3 hx hx1 hsa hl12 hl21 hH3 hS3 hJ3 hdn s3 s34 n13
            generalize upd (upd G3 l3 (.tup (xs1 ++ [V.int (out : Nat)]))) wa (.tup ([V.ref l] ++ (xs1 ++ [V.int (out : Nat)]))) = G5 at *
            obtain ⟨uj, huj⟩ := hJ5.here
            refine ⟨_, rfl, _, rfl, p, p, uj, hv, .ref wa, fs, m, n, ns :: rows1, (out : Nat), rfl, huj, hH5, hN, hF, hSu, hDw, hrl, ok, k19.lt q3, fun G6 s6 => ?_⟩
            refine ⟨true, rfl, ?_⟩
            rw [if_neg (by decide)]
            have hH6 := hH5.same s6
            have hDw6 := hDw.same s6
            refine ⟨_, rfl, _, rfl, _, rfl, _, rfl, hv, .ref wa, .ref wa, p, p, .tuple fs, m, n, ns :: rows1, ns :: rows1, (out : Nat), (out : Nat), uj, rfl, s6 _ _ huj, hH6, hN, hDw6, hDw6, hrl, hrl, ok, ok, fun bv G7 hB s7 => ?_⟩
            have s67 := s6.trans s7
            refine ⟨p, p, uj, hv, bv, fs, m, n, addRows (ns :: rows1) (ns :: rows1), (out : Nat) + (out : Nat), rfl, s67 _ _ huj, hH6.same s7, hN, hF, hSu, hB, kb.len, kb.st, kb.lt q4, fun G8 s8 => ?_⟩
            refine ⟨true, rfl, ?_⟩
            rw [if_neg (by decide)]
            have s68 := s67.trans s8
            exact ⟨s68 _ _ hS5, (hJ5.same s68).le (by omega), hH5.same s68, _, _, _, _, _, _, _, _, _, _, _, _, rfl⟩
      · rintro σ G ⟨hSG, hJG, hHG, v5, v6, v7, v8, v9, v10, v11, v12, v15, v16, v17, v18, rfl⟩
        exact ⟨hSG, _, _, _, _, _, _, _, _, _, _, _, _, _, _, _, _, rfl⟩
    · rintro σ H4 ⟨hS4, u1, u2, u3, u4, u5, u6, u7, u8, u9, u10, u11, u12, u15, u16, u17, u18, rfl⟩
      walk_at "op"
      exact k _
end
end Fm
end FLWB
section FFmAll22
set_option Elab.async false
set_option linter.all false
set_option maxRecDepth 100000
set_option maxHeartbeats 4000000
namespace Fm
open PySem PySem.Spec PyProof.Rows L2
theorem df_mk {K : PySem.W.Frag} {mg : Str → Option Value} {h : Heap} {x : Str} {st : Stmt} {ps : List Str} {f : Addr} (X : K.In h) (G : h.Ns mainGlobals mg) {oc : Value} {od an : Option Addr} {osl : Array (Option Value)} {kV doc pm cdv ct : Value}
    (a : PySem.W.nsIn K mainGlobals x = some (some (.ref f))) (l : K.lookup f = some ⟨oc, od, .func (PySem.W.fnOf x x (defArgs st) (defBody st) (defScope st) .none kV doc pm an cdv ct), osl⟩)
    (c : PySem.W.codeIn K cdv x = true) (k : PySem.W.keepIn K (.ref f) = true)
    (b : ∀ (kV doc pm : Value) (an : Option Addr) (cdv ct : Value) (us : List Value), us.length = ps.length → bindArgs (PySem.W.fnOf x x (defArgs st) (defBody st) (defScope st) .none kV doc pm an cdv ct) ⟨us, []⟩ = pure (ps.zip us)) : Df K mg x st ps :=
  ⟨f, _, fun_mk l c k, PySem.W.mg_of X G a, (fun_mk l c k).binds b⟩
abbrev DfOf {K : PySem.W.Frag} {h : Heap} (_ : K.In h) (mg : Str → Option Value) (x : Str) (st : Stmt) (ps : List Str) : Prop := Df K mg x st ps
theorem law_mk {P : Program} {w : World} {K : PySem.W.Frag} {h : Heap} {mg : Str → Option Value} {fa f : Addr} (X : K.In h) (G : h.Ns mainGlobals mg) (hfa : mg "law" = some (.ref fa)) {oc : Value} {od an : Option Addr} {osl : Array (Option Value)} {kV doc pm cdv ct : Value}
    (a : PySem.W.nsIn K mainGlobals "law" = some (some (.ref f))) (l : K.lookup f = some ⟨oc, od, .func (PySem.W.fnOf "law" "law" (defArgs s_law) (defBody s_law) (defScope s_law) .none kV doc pm an cdv ct), osl⟩)
    (c : PySem.W.codeIn K cdv "law" = true) (k : PySem.W.keepIn K (.ref f) = true) (T : Nms mg)
    (Ds_law_jar : Df K mg "_law_jar" s_law_jar ["cell"])
    (Ds_law_dip : Df K mg "_law_dip" s_law_dip ["jar", "many"])
    (Ds_law_order : Df K mg "_law_order" s_law_order ["jar", "m"])
    (Ds_law_word : Df K mg "_law_word" s_law_word ["kind", "a", "b", "m"])
    (Ds_law_stay : Df K mg "_law_stay" s_law_stay ["kind", "calls"])
    (Ds_law_up : Df K mg "_law_up" s_law_up ["way", "calls", "goes"])
    (Ds_law_wild : Df K mg "_law_wild" s_law_wild ["jar", "m"])
    (Ds_law_floor : Df K mg "_law_floor" s_law_floor ["jar", "m", "is_free"])
    (Ds_law_sure_house : Df K mg "_law_sure_house" s_law_sure_house ["jar", "most", "floors"])
    (Ds_law_people : Df K mg "_law_people" s_law_people ["jar", "house", "most"])
    (Ds_law_standing : Df K mg "_law_standing" s_law_standing ["house", "heaps", "out"])
    (Ds_law_any_order : Df K mg "_law_any_order" s_law_any_order ["jar", "house", "heaps", "out"])
    (Ds_is_tuple_of : Df K mg "is_tuple_of" s_is_tuple_of ["thing", "many"])
    (Ds_is_whole : Df K mg "is_whole" s_is_whole ["thing"])
    (Ds_is_up_to : Df K mg "is_up_to" s_is_up_to ["thing", "most"])
    (Ds_are_up_to : Df K mg "are_up_to" s_are_up_to ["thing", "many", "most"])
    (Ds_is_table : Df K mg "is_table" s_is_table ["thing", "m"])
    (Ds_is_house : Df K mg "is_house" s_is_house ["thing"])
    (Ds_size : Df K mg "size" s_size ["house"])
    (Ds_threes : Df K mg "threes" s_threes ["m"])
    (Ds_orders : Df K mg "orders" s_orders ["three"])
    (Ds_left_of_three : Df K mg "left_of_three" s_left_of_three ["tables", "order"])
    (Ds_end_of_three : Df K mg "end_of_three" s_end_of_three ["house", "floor", "order"])
    (Ds_is_parted : Df K mg "is_parted" s_is_parted ["house", "floor", "three"])
    (Ds_least_parted : Df K mg "least_parted" s_least_parted ["house"])
    (Ds_paper : Df K mg "paper" s_paper ["house"])
    (Ds_check_fair : Df K mg "check_fair" s_check_fair ["house"])
    (Ds_is_alike_alone : Df K mg "is_alike_alone" s_is_alike_alone ["tables", "three"])
    (Ds_kind_of : Df K mg "kind_of" s_kind_of ["house", "floor", "every_three"])
    (Ds_floor_kinds : Df K mg "floor_kinds" s_floor_kinds ["house"])
    (Ds_check_sure : Df K mg "check_sure" s_check_sure ["house"])
    (Ds_has_form : Df K mg "has_form" s_has_form ["thing", "m", "floors", "most"])
    (Ds_check_standing : Df K mg "check_standing" s_check_standing ["house", "standing"])
    (Ds_meet_all : Df K mg "meet_all" s_meet_all ["tables", "here"])
    (Ds_comings : Df K mg "comings" s_comings ["house", "standing"])
    (Ds_law_pushed : Df K mg "_law_pushed" s_law_pushed ["pair_here", "here", "number", "many"])
    (Ds_law_far_due : Df K mg "_law_far_due" s_law_far_due ["house", "standing"])
    (Ds_end_of : Df K mg "end_of" s_end_of ["house", "standing"])
    (Ds_law_far_right : Df K mg "_law_far_right" s_law_far_right ["house", "standing"])
    (Ds_added : Df K mg "added" s_added ["counts", "more"])
    (Ds_together : Df K mg "together" s_together ["house", "one", "other"])
    {tF tN : Tok} (c_MOST_FLOORS : mg "MOST_FLOORS" = some (.int 4 tF)) (c_MOST_NUMBERS : mg "MOST_NUMBERS" = some (.int 6 tN)) {Ch M C2 : Addr} (EX : Exn K mg "NoHouse" Ch M) (EX_NoStanding : Exn K mg "NoStanding" C2 M) (_ : mg "MeetError" = some (.ref M)) :
    ∃ fd : FuncData, (∀ (s : Shared) (u : Value), BindsTo s fd ⟨[u], []⟩ [("script", u)]) ∧ ∀ base : Heap, K.In base → base.Ns mainGlobals mg → RunG P w K mg base 12 fa fd ["script"] (spLaw K) := by
  have e := hfa.symm.trans (PySem.W.mg_of X G a)
  cases e
  refine ⟨PySem.W.fnOf "law" "law" (defArgs s_law) (defBody s_law) (defScope s_law) .none kV doc pm an cdv ct, fun s v => .of_eq rfl, fun base _ _ => ?_⟩
  have c_law_jar := ok_law_jar (P := P) (w := w) (base := base) Ds_law_jar T
  have c_law_dip := ok_law_dip (P := P) (w := w) (base := base) Ds_law_dip T
  have c_law_order := ok_law_order (P := P) (w := w) (base := base) Ds_law_order T c_law_dip
  have c_law_word := ok_law_word (P := P) (w := w) (base := base) Ds_law_word T
  have c_law_stay := ok_law_stay (P := P) (w := w) (base := base) Ds_law_stay T c_law_word
  have c_law_up := ok_law_up (P := P) (w := w) (base := base) Ds_law_up T
  have c_law_wild := ok_law_wild (P := P) (w := w) (base := base) Ds_law_wild T c_law_dip
  have c_law_floor := ok_law_floor (P := P) (w := w) (base := base) Ds_law_floor T c_law_dip c_law_order c_law_stay c_law_up c_law_wild
  have c_law_sure_house := ok_law_sure_house (P := P) (w := w) (base := base) Ds_law_sure_house T c_law_dip c_law_floor
  have c_law_people := ok_law_people (P := P) (w := w) (base := base) Ds_law_people T c_law_dip
  have c_law_standing := ok_law_standing (P := P) (w := w) (base := base) Ds_law_standing T
  have c_law_any_order := ok_law_any_order (P := P) (w := w) (base := base) Ds_law_any_order T c_law_dip
  have c_is_tuple_of := ok_is_tuple_of (P := P) (w := w) (base := base) Ds_is_tuple_of T
  have c_is_whole := ok_is_whole (P := P) (w := w) (base := base) Ds_is_whole T
  have c_is_up_to := ok_is_up_to (P := P) (w := w) (base := base) Ds_is_up_to T c_is_whole
  have c_are_up_to := ok_are_up_to (P := P) (w := w) (base := base) Ds_are_up_to T c_is_tuple_of c_is_up_to
  have c_is_table := ok_is_table (P := P) (w := w) (base := base) Ds_is_table T c_is_tuple_of c_are_up_to
  have c_is_house := ok_is_house (P := P) (w := w) (base := base) Ds_is_house T c_MOST_FLOORS c_MOST_NUMBERS c_is_tuple_of c_is_table
  have c_size := ok_size (P := P) (w := w) (base := base) Ds_size T EX c_is_house
  have c_threes := ok_threes (P := P) (w := w) (base := base) Ds_threes T
  have c_orders := ok_orders (P := P) (w := w) (base := base) Ds_orders T
  have c_left_of_three := ok_left_of_three (P := P) (w := w) (base := base) Ds_left_of_three T
  have c_end_of_three := ok_end_of_three (P := P) (w := w) (base := base) Ds_end_of_three T c_left_of_three
  have c_is_parted := ok_is_parted (P := P) (w := w) (base := base) Ds_is_parted T c_orders c_end_of_three
  have c_least_parted := ok_least_parted (P := P) (w := w) (base := base) Ds_least_parted T c_threes c_is_parted
  have c_paper := ok_paper (P := P) (w := w) (base := base) Ds_paper T c_size c_least_parted
  have c_check_fair := ok_check_fair (P := P) (w := w) (base := base) Ds_check_fair T c_paper
  have c_is_alike_alone := ok_is_alike_alone (P := P) (w := w) (base := base) Ds_is_alike_alone T c_orders c_left_of_three
  have c_kind_of := ok_kind_of (P := P) (w := w) (base := base) Ds_kind_of T c_is_parted c_is_alike_alone
  have c_floor_kinds := ok_floor_kinds (P := P) (w := w) (base := base) Ds_floor_kinds T c_size c_kind_of c_threes
  have c_check_sure := ok_check_sure (P := P) (w := w) (base := base) Ds_check_sure T c_check_fair c_floor_kinds
  have c_has_form := ok_has_form (P := P) (w := w) (base := base) Ds_has_form T c_is_tuple_of c_is_up_to c_are_up_to
  have c_check_standing := ok_check_standing (P := P) (w := w) (base := base) Ds_check_standing T EX_NoStanding c_size c_has_form
  have c_meet_all := ok_meet_all (P := P) (w := w) (base := base) Ds_meet_all T
  have c_comings := ok_comings (P := P) (w := w) (base := base) Ds_comings T c_check_sure c_check_standing c_meet_all
  have c_law_pushed := ok_law_pushed (P := P) (w := w) (base := base) Ds_law_pushed T
  have c_law_far_due := ok_law_far_due (P := P) (w := w) (base := base) Ds_law_far_due T c_law_pushed
  have c_end_of := ok_end_of (P := P) (w := w) (base := base) Ds_end_of T c_check_fair c_check_standing c_meet_all
  have c_law_far_right := ok_law_far_right (P := P) (w := w) (base := base) Ds_law_far_right T c_comings c_law_far_due c_end_of
  have c_added := ok_added (P := P) (w := w) (base := base) Ds_added T
  have c_together := ok_together (P := P) (w := w) (base := base) Ds_together T EX_NoStanding c_size c_has_form c_added
  exact ok_law (fun_mk l c k) T c_law_jar c_law_dip c_law_sure_house c_law_people c_law_standing c_law_any_order c_comings c_law_far_right c_together
end Fm
end FFmAll22
open PySem PySem.W PyProof.Rows
set_option maxRecDepth 100000 in
set_option maxHeartbeats 0 in
theorem PySem.Challenge.cw_floormeet_k22_who_comes_where_holds : PySem.Challenge.rw_floormeet_k22_who_comes_where.Holds := by
  w_on; o_law; k_head; (case hw => w_witness2)
  k_fill
  refine Fm.walk_g (l := PySem.Challenge.rw_floormeet_k22_who_comes_where) (n := 63) (k := 12) (x := "script") (sp := Fm.spLaw) rfl (by decide) rfl ⟨rfl, by decide, by decide⟩ (fun w h Y => PySem.W.kIn_of Y) ?F ?S
  case S =>
    exact fun K H a ns hl hS _ => ⟨a, ns, rfl, Nat.le_trans (Nat.succ_le_succ hl) (by decide), hS, fun _ => rfl⟩
  case F =>
    intro w mg fa h KX G hmg
    have n_len : mg "len" = none := by
      refine PySem.W.mg_none_of KX G ?z
      (case z => k_is)
    have n_range : mg "range" = none := by
      refine PySem.W.mg_none_of KX G ?z
      (case z => k_is)
    have n_min : mg "min" = none := by
      refine PySem.W.mg_none_of KX G ?z
      (case z => k_is)
    have n_max : mg "max" = none := by
      refine PySem.W.mg_none_of KX G ?z
      (case z => k_is)
    have n_tuple : mg "tuple" = none := by
      refine PySem.W.mg_none_of KX G ?z
      (case z => k_is)
    have n_list : mg "list" = none := by
      refine PySem.W.mg_none_of KX G ?z
      (case z => k_is)
    have n_isinstance : mg "isinstance" = none := by
      refine PySem.W.mg_none_of KX G ?z
      (case z => k_is)
    have n_repr : mg "repr" = none := by
      refine PySem.W.mg_none_of KX G ?z
      (case z => k_is)
    have n_int : mg "int" = none := by
      refine PySem.W.mg_none_of KX G ?z
      (case z => k_is)
    have n_bool : mg "bool" = none := by
      refine PySem.W.mg_none_of KX G ?z
      (case z => k_is)
    have n_sum : mg "sum" = none := by
      refine PySem.W.mg_none_of KX G ?z
      (case z => k_is)
    have n_str : mg "str" = none := by
      refine PySem.W.mg_none_of KX G ?z
      (case z => k_is)
    have n_enumerate : mg "enumerate" = none := by
      refine PySem.W.mg_none_of KX G ?z
      (case z => k_is)
    have n_zip : mg "zip" = none := by
      refine PySem.W.mg_none_of KX G ?z
      (case z => k_is)
    have T : Fm.Nms mg := ⟨n_len, n_range, n_min, n_max, n_tuple, n_list, n_isinstance, n_repr, n_int, n_bool, n_sum, n_str, n_enumerate, n_zip⟩
    have Ds_law_jar : Fm.DfOf KX mg "_law_jar" Fm.s_law_jar ["cell"] := by
      refine' Fm.df_mk KX G ?a ?l ?c ?k (fun _ _ _ _ _ _ us hl => match us, hl with | [_], _ => rfl)
      (case a => k_is); (case l => k_is); (case c => k_is); (case k => k_is)
    have Ds_law_dip : Fm.DfOf KX mg "_law_dip" Fm.s_law_dip ["jar", "many"] := by
      refine' Fm.df_mk KX G ?a ?l ?c ?k (fun _ _ _ _ _ _ us hl => match us, hl with | [_, _], _ => rfl)
      (case a => k_is); (case l => k_is); (case c => k_is); (case k => k_is)
    have Ds_law_order : Fm.DfOf KX mg "_law_order" Fm.s_law_order ["jar", "m"] := by
      refine' Fm.df_mk KX G ?a ?l ?c ?k (fun _ _ _ _ _ _ us hl => match us, hl with | [_, _], _ => rfl)
      (case a => k_is); (case l => k_is); (case c => k_is); (case k => k_is)
    have Ds_law_word : Fm.DfOf KX mg "_law_word" Fm.s_law_word ["kind", "a", "b", "m"] := by
      refine' Fm.df_mk KX G ?a ?l ?c ?k (fun _ _ _ _ _ _ us hl => match us, hl with | [_, _, _, _], _ => rfl)
      (case a => k_is); (case l => k_is); (case c => k_is); (case k => k_is)
    have Ds_law_stay : Fm.DfOf KX mg "_law_stay" Fm.s_law_stay ["kind", "calls"] := by
      refine' Fm.df_mk KX G ?a ?l ?c ?k (fun _ _ _ _ _ _ us hl => match us, hl with | [_, _], _ => rfl)
      (case a => k_is); (case l => k_is); (case c => k_is); (case k => k_is)
    have Ds_law_up : Fm.DfOf KX mg "_law_up" Fm.s_law_up ["way", "calls", "goes"] := by
      refine' Fm.df_mk KX G ?a ?l ?c ?k (fun _ _ _ _ _ _ us hl => match us, hl with | [_, _, _], _ => rfl)
      (case a => k_is); (case l => k_is); (case c => k_is); (case k => k_is)
    have Ds_law_wild : Fm.DfOf KX mg "_law_wild" Fm.s_law_wild ["jar", "m"] := by
      refine' Fm.df_mk KX G ?a ?l ?c ?k (fun _ _ _ _ _ _ us hl => match us, hl with | [_, _], _ => rfl)
      (case a => k_is); (case l => k_is); (case c => k_is); (case k => k_is)
    have Ds_law_floor : Fm.DfOf KX mg "_law_floor" Fm.s_law_floor ["jar", "m", "is_free"] := by
      refine' Fm.df_mk KX G ?a ?l ?c ?k (fun _ _ _ _ _ _ us hl => match us, hl with | [_, _, _], _ => rfl)
      (case a => k_is); (case l => k_is); (case c => k_is); (case k => k_is)
    have Ds_law_sure_house : Fm.DfOf KX mg "_law_sure_house" Fm.s_law_sure_house ["jar", "most", "floors"] := by
      refine' Fm.df_mk KX G ?a ?l ?c ?k (fun _ _ _ _ _ _ us hl => match us, hl with | [_, _, _], _ => rfl)
      (case a => k_is); (case l => k_is); (case c => k_is); (case k => k_is)
    have Ds_law_people : Fm.DfOf KX mg "_law_people" Fm.s_law_people ["jar", "house", "most"] := by
      refine' Fm.df_mk KX G ?a ?l ?c ?k (fun _ _ _ _ _ _ us hl => match us, hl with | [_, _, _], _ => rfl)
      (case a => k_is); (case l => k_is); (case c => k_is); (case k => k_is)
    have Ds_law_standing : Fm.DfOf KX mg "_law_standing" Fm.s_law_standing ["house", "heaps", "out"] := by
      refine' Fm.df_mk KX G ?a ?l ?c ?k (fun _ _ _ _ _ _ us hl => match us, hl with | [_, _, _], _ => rfl)
      (case a => k_is); (case l => k_is); (case c => k_is); (case k => k_is)
    have Ds_law_any_order : Fm.DfOf KX mg "_law_any_order" Fm.s_law_any_order ["jar", "house", "heaps", "out"] := by
      refine' Fm.df_mk KX G ?a ?l ?c ?k (fun _ _ _ _ _ _ us hl => match us, hl with | [_, _, _, _], _ => rfl)
      (case a => k_is); (case l => k_is); (case c => k_is); (case k => k_is)
    have Ds_is_tuple_of : Fm.DfOf KX mg "is_tuple_of" Fm.s_is_tuple_of ["thing", "many"] := by
      refine' Fm.df_mk KX G ?a ?l ?c ?k (fun _ _ _ _ _ _ us hl => match us, hl with | [_, _], _ => rfl)
      (case a => k_is); (case l => k_is); (case c => k_is); (case k => k_is)
    have Ds_is_whole : Fm.DfOf KX mg "is_whole" Fm.s_is_whole ["thing"] := by
      refine' Fm.df_mk KX G ?a ?l ?c ?k (fun _ _ _ _ _ _ us hl => match us, hl with | [_], _ => rfl)
      (case a => k_is); (case l => k_is); (case c => k_is); (case k => k_is)
    have Ds_is_up_to : Fm.DfOf KX mg "is_up_to" Fm.s_is_up_to ["thing", "most"] := by
      refine' Fm.df_mk KX G ?a ?l ?c ?k (fun _ _ _ _ _ _ us hl => match us, hl with | [_, _], _ => rfl)
      (case a => k_is); (case l => k_is); (case c => k_is); (case k => k_is)
    have Ds_are_up_to : Fm.DfOf KX mg "are_up_to" Fm.s_are_up_to ["thing", "many", "most"] := by
      refine' Fm.df_mk KX G ?a ?l ?c ?k (fun _ _ _ _ _ _ us hl => match us, hl with | [_, _, _], _ => rfl)
      (case a => k_is); (case l => k_is); (case c => k_is); (case k => k_is)
    have Ds_is_table : Fm.DfOf KX mg "is_table" Fm.s_is_table ["thing", "m"] := by
      refine' Fm.df_mk KX G ?a ?l ?c ?k (fun _ _ _ _ _ _ us hl => match us, hl with | [_, _], _ => rfl)
      (case a => k_is); (case l => k_is); (case c => k_is); (case k => k_is)
    have Ds_is_house : Fm.DfOf KX mg "is_house" Fm.s_is_house ["thing"] := by
      refine' Fm.df_mk KX G ?a ?l ?c ?k (fun _ _ _ _ _ _ us hl => match us, hl with | [_], _ => rfl)
      (case a => k_is); (case l => k_is); (case c => k_is); (case k => k_is)
    have Ds_size : Fm.DfOf KX mg "size" Fm.s_size ["house"] := by
      refine' Fm.df_mk KX G ?a ?l ?c ?k (fun _ _ _ _ _ _ us hl => match us, hl with | [_], _ => rfl)
      (case a => k_is); (case l => k_is); (case c => k_is); (case k => k_is)
    have Ds_threes : Fm.DfOf KX mg "threes" Fm.s_threes ["m"] := by
      refine' Fm.df_mk KX G ?a ?l ?c ?k (fun _ _ _ _ _ _ us hl => match us, hl with | [_], _ => rfl)
      (case a => k_is); (case l => k_is); (case c => k_is); (case k => k_is)
    have Ds_orders : Fm.DfOf KX mg "orders" Fm.s_orders ["three"] := by
      refine' Fm.df_mk KX G ?a ?l ?c ?k (fun _ _ _ _ _ _ us hl => match us, hl with | [_], _ => rfl)
      (case a => k_is); (case l => k_is); (case c => k_is); (case k => k_is)
    have Ds_left_of_three : Fm.DfOf KX mg "left_of_three" Fm.s_left_of_three ["tables", "order"] := by
      refine' Fm.df_mk KX G ?a ?l ?c ?k (fun _ _ _ _ _ _ us hl => match us, hl with | [_, _], _ => rfl)
      (case a => k_is); (case l => k_is); (case c => k_is); (case k => k_is)
    have Ds_end_of_three : Fm.DfOf KX mg "end_of_three" Fm.s_end_of_three ["house", "floor", "order"] := by
      refine' Fm.df_mk KX G ?a ?l ?c ?k (fun _ _ _ _ _ _ us hl => match us, hl with | [_, _, _], _ => rfl)
      (case a => k_is); (case l => k_is); (case c => k_is); (case k => k_is)
    have Ds_is_parted : Fm.DfOf KX mg "is_parted" Fm.s_is_parted ["house", "floor", "three"] := by
      refine' Fm.df_mk KX G ?a ?l ?c ?k (fun _ _ _ _ _ _ us hl => match us, hl with | [_, _, _], _ => rfl)
      (case a => k_is); (case l => k_is); (case c => k_is); (case k => k_is)
    have Ds_least_parted : Fm.DfOf KX mg "least_parted" Fm.s_least_parted ["house"] := by
      refine' Fm.df_mk KX G ?a ?l ?c ?k (fun _ _ _ _ _ _ us hl => match us, hl with | [_], _ => rfl)
      (case a => k_is); (case l => k_is); (case c => k_is); (case k => k_is)
    have Ds_paper : Fm.DfOf KX mg "paper" Fm.s_paper ["house"] := by
      refine' Fm.df_mk KX G ?a ?l ?c ?k (fun _ _ _ _ _ _ us hl => match us, hl with | [_], _ => rfl)
      (case a => k_is); (case l => k_is); (case c => k_is); (case k => k_is)
    have Ds_check_fair : Fm.DfOf KX mg "check_fair" Fm.s_check_fair ["house"] := by
      refine' Fm.df_mk KX G ?a ?l ?c ?k (fun _ _ _ _ _ _ us hl => match us, hl with | [_], _ => rfl)
      (case a => k_is); (case l => k_is); (case c => k_is); (case k => k_is)
    have Ds_is_alike_alone : Fm.DfOf KX mg "is_alike_alone" Fm.s_is_alike_alone ["tables", "three"] := by
      refine' Fm.df_mk KX G ?a ?l ?c ?k (fun _ _ _ _ _ _ us hl => match us, hl with | [_, _], _ => rfl)
      (case a => k_is); (case l => k_is); (case c => k_is); (case k => k_is)
    have Ds_kind_of : Fm.DfOf KX mg "kind_of" Fm.s_kind_of ["house", "floor", "every_three"] := by
      refine' Fm.df_mk KX G ?a ?l ?c ?k (fun _ _ _ _ _ _ us hl => match us, hl with | [_, _, _], _ => rfl)
      (case a => k_is); (case l => k_is); (case c => k_is); (case k => k_is)
    have Ds_floor_kinds : Fm.DfOf KX mg "floor_kinds" Fm.s_floor_kinds ["house"] := by
      refine' Fm.df_mk KX G ?a ?l ?c ?k (fun _ _ _ _ _ _ us hl => match us, hl with | [_], _ => rfl)
      (case a => k_is); (case l => k_is); (case c => k_is); (case k => k_is)
    have Ds_check_sure : Fm.DfOf KX mg "check_sure" Fm.s_check_sure ["house"] := by
      refine' Fm.df_mk KX G ?a ?l ?c ?k (fun _ _ _ _ _ _ us hl => match us, hl with | [_], _ => rfl)
      (case a => k_is); (case l => k_is); (case c => k_is); (case k => k_is)
    have Ds_has_form : Fm.DfOf KX mg "has_form" Fm.s_has_form ["thing", "m", "floors", "most"] := by
      refine' Fm.df_mk KX G ?a ?l ?c ?k (fun _ _ _ _ _ _ us hl => match us, hl with | [_, _, _, _], _ => rfl)
      (case a => k_is); (case l => k_is); (case c => k_is); (case k => k_is)
    have Ds_check_standing : Fm.DfOf KX mg "check_standing" Fm.s_check_standing ["house", "standing"] := by
      refine' Fm.df_mk KX G ?a ?l ?c ?k (fun _ _ _ _ _ _ us hl => match us, hl with | [_, _], _ => rfl)
      (case a => k_is); (case l => k_is); (case c => k_is); (case k => k_is)
    have Ds_meet_all : Fm.DfOf KX mg "meet_all" Fm.s_meet_all ["tables", "here"] := by
      refine' Fm.df_mk KX G ?a ?l ?c ?k (fun _ _ _ _ _ _ us hl => match us, hl with | [_, _], _ => rfl)
      (case a => k_is); (case l => k_is); (case c => k_is); (case k => k_is)
    have Ds_comings : Fm.DfOf KX mg "comings" Fm.s_comings ["house", "standing"] := by
      refine' Fm.df_mk KX G ?a ?l ?c ?k (fun _ _ _ _ _ _ us hl => match us, hl with | [_, _], _ => rfl)
      (case a => k_is); (case l => k_is); (case c => k_is); (case k => k_is)
    have Ds_law_pushed : Fm.DfOf KX mg "_law_pushed" Fm.s_law_pushed ["pair_here", "here", "number", "many"] := by
      refine' Fm.df_mk KX G ?a ?l ?c ?k (fun _ _ _ _ _ _ us hl => match us, hl with | [_, _, _, _], _ => rfl)
      (case a => k_is); (case l => k_is); (case c => k_is); (case k => k_is)
    have Ds_law_far_due : Fm.DfOf KX mg "_law_far_due" Fm.s_law_far_due ["house", "standing"] := by
      refine' Fm.df_mk KX G ?a ?l ?c ?k (fun _ _ _ _ _ _ us hl => match us, hl with | [_, _], _ => rfl)
      (case a => k_is); (case l => k_is); (case c => k_is); (case k => k_is)
    have Ds_end_of : Fm.DfOf KX mg "end_of" Fm.s_end_of ["house", "standing"] := by
      refine' Fm.df_mk KX G ?a ?l ?c ?k (fun _ _ _ _ _ _ us hl => match us, hl with | [_, _], _ => rfl)
      (case a => k_is); (case l => k_is); (case c => k_is); (case k => k_is)
    have Ds_law_far_right : Fm.DfOf KX mg "_law_far_right" Fm.s_law_far_right ["house", "standing"] := by
      refine' Fm.df_mk KX G ?a ?l ?c ?k (fun _ _ _ _ _ _ us hl => match us, hl with | [_, _], _ => rfl)
      (case a => k_is); (case l => k_is); (case c => k_is); (case k => k_is)
    have Ds_added : Fm.DfOf KX mg "added" Fm.s_added ["counts", "more"] := by
      refine' Fm.df_mk KX G ?a ?l ?c ?k (fun _ _ _ _ _ _ us hl => match us, hl with | [_, _], _ => rfl)
      (case a => k_is); (case l => k_is); (case c => k_is); (case k => k_is)
    have Ds_together : Fm.DfOf KX mg "together" Fm.s_together ["house", "one", "other"] := by
      refine' Fm.df_mk KX G ?a ?l ?c ?k (fun _ _ _ _ _ _ us hl => match us, hl with | [_, _, _], _ => rfl)
      (case a => k_is); (case l => k_is); (case c => k_is); (case k => k_is)
    refine' Fm.law_mk KX G hmg ?a ?l ?c ?k T  Ds_law_jar Ds_law_dip Ds_law_order Ds_law_word Ds_law_stay Ds_law_up Ds_law_wild Ds_law_floor Ds_law_sure_house Ds_law_people Ds_law_standing Ds_law_any_order Ds_is_tuple_of Ds_is_whole Ds_is_up_to Ds_are_up_to Ds_is_table Ds_is_house Ds_size Ds_threes Ds_orders Ds_left_of_three Ds_end_of_three Ds_is_parted Ds_least_parted Ds_paper Ds_check_fair Ds_is_alike_alone Ds_kind_of Ds_floor_kinds Ds_check_sure Ds_has_form Ds_check_standing Ds_meet_all Ds_comings Ds_law_pushed Ds_law_far_due Ds_end_of Ds_law_far_right Ds_added Ds_together (PySem.W.mg_of KX G ?mf) (PySem.W.mg_of KX G ?mn) ⟨PySem.W.mg_of KX G ?xg, ?xe, ?xk, ?xb, ?xt, ⟨?c1, ?c2, ?c3, ?c4, ?c5, ?c6, ?c7, ?c8⟩, ?xm⟩ ⟨PySem.W.mg_of KX G ?yg, ?ye, ?yk, ?yb, ?yt, ⟨?d1, ?d2, ?d3, ?d4, ?d5, ?d6, ?d7, ?d8⟩, ?ym⟩ (PySem.W.mg_of KX G ?me)
    (case a => k_is); (case l => k_is); (case c => k_is); (case k => k_is)
    (case mf => k_is); (case mn => k_is); (case me => k_is)
    (case xg => k_is); (case xe => k_exc); (case xk => k_is); (case xb => k_is); (case xt => k_is)
    (case c1 => k_is); (case c2 => k_is); (case c3 => k_is); (case c4 => k_is); (case c5 => k_is); (case c6 => k_is); (case c7 => k_is); (case c8 => k_is)
    (case xm => first | rfl | k_is)
    (case yg => k_is); (case ye => k_exc); (case yk => k_is); (case yb => k_is); (case yt => k_is)
    (case d1 => k_is); (case d2 => k_is); (case d3 => k_is); (case d4 => k_is); (case d5 => k_is); (case d6 => k_is); (case d7 => k_is); (case d8 => k_is)
    (case ym => first | rfl | k_is)
