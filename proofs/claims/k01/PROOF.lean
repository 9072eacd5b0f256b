import PyProof.Rows.All
import Wide.All
import OpenK.AllK
import Wide.FinOn
import HandS.ForMost
import HandS.Wide
import HandS.IsInst
import HandS.TupAny
import HandS.TupMul
import HandS.TryOnly
import HandS.ExcOwn
import HandS.WordsExc
import HandS.RaiseMore
import HandS.Style
import PyProof.ReprRoads
import HandS.ExcValue
import HandS.ExcIs
import HandS.Ends
import PyProof.FactsAll.tuple_2
import KE.KRevSl
import HandS.TupLe
import PySem.Challenge.RW_floormeet_k01_what_a_house_is
section FFmBase
set_option Elab.async false
set_option maxRecDepth 100000
namespace Fm
open PySem PySem.Spec PyProof.Rows L2
/-- a def of the top, by its name -/
structure Df (K : PySem.W.Frag) (mg : Str → Option Value) (x : Str) (st : Stmt) (ps : List Str) : Prop where
  ex : ∃ f fd, Fun K x x st f fd ∧ mg x = some (.ref f) ∧ Binds K fd ps []
/-- a def that keeps a promise, as whoever calls it wants it -/
def CallOk (P : Program) (w : World) (K : PySem.W.Frag) (mg : Str → Option Value) (base : Heap) (CX : CXT) (k : Nat) (x : Str) (ps : List Str) (sp : Sp) : Prop :=
  ∃ f fd, FnOk P w K mg base CX k f fd ps sp ∧ mg x = some (.ref f) ∧ PySem.W.keepIn K (.ref f) = true ∧ Binds K fd ps []
/-- the built-in names that stand for themselves -/
structure Nms (mg : Str → Option Value) : Prop where
  n_len : mg "len" = none
  n_range : mg "range" = none
  n_min : mg "min" = none
  n_max : mg "max" = none
  n_tuple : mg "tuple" = none
  n_list : mg "list" = none
  n_isinstance : mg "isinstance" = none
  n_repr : mg "repr" = none
  n_int : mg "int" = none
  n_bool : mg "bool" = none
  n_sum : mg "sum" = none
  n_str : mg "str" = none
  n_enumerate : mg "enumerate" = none
  n_zip : mg "zip" = none
section
variable {P : Program} {w : World} {K : PySem.W.Frag} {mg : Str → Option Value} {base : Heap}
theorem df_ok {x : Str} {st : Stmt} {N ps : List Str} {k : Nat} {sp : Sp} (D : Df K mg x st ps) (S : FnScope N ps (defScope st)) (hl : ∀ vs H Q E, sp vs H Q E → vs.length = ps.length)
    (b : ∀ (f : Addr) (cdv : Value) (A : Around) (outer : List Env) (s : Shared) (H : Hp) (vs : List V) (Q : VK) (E : XK), Room k (A.deeper (envOfC x (defScope st) s.heap.objs.size f cdv)) → sp vs H Q E →
      ∃ t, PSs (cxOf CX0 P w K mg base N x (defScope st) f cdv A outer s H E).nox (defBody st) t ∧ t { nx := fun _ H' => Q .non H', rt := Q } (start N vs) H) :
    CallOk P w K mg base CX0 (k + 1) x ps sp := by
  obtain ⟨f, fd, F, hm, hb⟩ := D.ex
  exact ⟨f, fd, F.ok S hl (b f), hm, F.kp, hb⟩
theorem df_okX {x : Str} {st : Stmt} {N ps : List Str} {k : Nat} {sp : Sp} (D : Df K mg x st ps) (S : FnScope N ps (defScope st)) (hl : ∀ vs H Q E, sp vs H Q E → vs.length = ps.length)
    (b : ∀ (f : Addr) (cdv : Value) (A : Around) (outer : List Env) (s : Shared) (H : Hp) (vs : List V) (Q : VK) (E : XK), Room k (A.deeper (envOfC x (defScope st) s.heap.objs.size f cdv)) → sp vs H Q E →
      ∃ t, PSs (cxOf (L2.CX P w) P w K mg base N x (defScope st) f cdv A outer s H E) (defBody st) t ∧ t { nx := fun _ H' => Q .non H', rt := Q } (start N vs) H) :
    CallOk P w K mg base (L2.CX P w) (k + 1) x ps sp := by
  obtain ⟨f, fd, F, hm, hb⟩ := D.ex
  exact ⟨f, fd, F.okX S hl (b f), hm, F.kp, hb⟩
theorem CallOk.mono {CX : CXT} {i k : Nat} {x : Str} {ps : List Str} {sp : Sp} (c : CallOk P w K mg base CX i x ps sp) (h : i ≤ k) : CallOk P w K mg base CX k x ps sp := by
  obtain ⟨f, fd, F, r⟩ := c
  exact ⟨f, fd, F.mono h, r⟩
theorem CallOk.imp {CX : CXT} {k : Nat} {x : Str} {ps : List Str} {sp sq : Sp} (c : CallOk P w K mg base CX k x ps sp) (h : ∀ vs H Q E, sq vs H Q E → sp vs H Q E) : CallOk P w K mg base CX k x ps sq := by
  obtain ⟨f, fd, F, r⟩ := c
  exact ⟨f, fd, F.imp h, r⟩
end
section
variable {X : Cx} {k : Nat} {x : Str} {ps : List Str} {sp : Sp} {p pos : Pos} {e : Expr} {es : List Expr} {t : TA} {E : XK}
theorem pe_cc (c : CallOk X.prog X.w X.K X.mg X.base CX0 k x ps sp) (hr : Room k X.A) (ha : PA X (e :: es) t) (hg : Gl X x := by rfl) (hd : (x == ("__debug__" : Str)) = false := by decide)
    (he : starEach (e :: es) X.env = (false, eval e X.env) :: starEach es X.env := by rfl) (hp : (backTo pos (starEach es X.env)).any (·.1) = false := by rfl) :
    PE X (.Call (.Name x p) (e :: es) [] pos) (tCall sp [] E0 t) := by
  obtain ⟨f, fd, F, hm, hk, hb⟩ := c
  exact pe_call F hr hg hm hk hb .nil pass0 ha hd he hp
/-- of a def that may raise, where it doesn't -/
theorem pe_cx (c : CallOk X.prog X.w X.K X.mg X.base (L2.CX X.prog X.w) k x ps sp) (hr : Room k X.A) (ha : PA X (e :: es) t) (hg : Gl X x := by rfl) (hd : (x == ("__debug__" : Str)) = false := by decide)
    (he : starEach (e :: es) X.env = (false, eval e X.env) :: starEach es X.env := by rfl) (hp : (backTo pos (starEach es X.env)).any (·.1) = false := by rfl) :
    PE X (.Call (.Name x p) (e :: es) [] pos) (tCall sp [] E0 t) := by
  obtain ⟨f, fd, F, hm, hk, hb⟩ := c
  exact pe_call F hr hg hm hk hb .nil passL ha hd he hp
/-- a call that may raise, under a wish -/
theorem pe_cs {W : WX} (c : CallOk X.prog X.w X.K X.mg X.base (L2.CX X.prog X.w) k x ps sp) (tk : Takes X W) (hr : Room k X.A) (ha : PA X (e :: es) t) (hg : Gl X x := by rfl) (hd : (x == ("__debug__" : Str)) = false := by decide)
    (he : starEach (e :: es) X.env = (false, eval e X.env) :: starEach es X.env := by rfl) (hp : (backTo pos (starEach es X.env)).any (·.1) = false := by rfl) :
    PE X (.Call (.Name x p) (e :: es) [] pos) (tCallS sp (fun σ => WE W σ) t) := by
  obtain ⟨f, fd, F, hm, hk, hb⟩ := c
  exact pe_callS F hr hg hm hk hb (fun σ => passAt tk σ) ha hd he hp
end
/-- all that was tracked but p is as it was -/
def Ext (p : Addr) (H H' : Hp) : Prop := ∀ b o, H b = some o → b ≠ p → H' b = some o
theorem Ext.refl (p : Addr) (H : Hp) : Ext p H H := fun _ _ h _ => h
theorem Ext.trans {p : Addr} {H H1 H2 : Hp} (a : Ext p H H1) (b : Ext p H1 H2) : Ext p H H2 := fun c o h n => b c o (a c o h n) n
theorem Same.ext {H H' : Hp} (s : Same H H') (p : Addr) : Ext p H H' := fun b o h _ => s b o h
theorem same_new {H : Hp} {q : Addr} {o : HO} (h : H q = none) : Same H (upd H q o) := fun b u e => by
  rw [upd_ne (ne_of_none e h)]
  exact e
theorem ext_at {H : Hp} {p : Addr} {o : HO} : Ext p H (upd H p o) := fun b u e n => by
  rw [upd_ne n]
  exact e
/-- the bag of draws at p -/
def Bag (H : Hp) (p : Addr) : Prop := ∃ x y c : Int, H p = some (.lst [.int x, .int y, .int c])
def spPick : Sp := fun vs H Q _ => ∃ (p : Addr) (m : Int), vs = [.ref p, .int m] ∧ 0 < m ∧ m.natAbs.log2 < 9000 ∧ Bag H p ∧ ∀ (k : Int) (H' : Hp), 0 ≤ k → k < m → Bag H' p → Ext p H H' → Q (.int k) H'
def spBag : Sp := fun vs H Q _ => ∃ c : Int, vs = [.int c] ∧ ∀ (p : Addr) (H' : Hp), H p = none → Bag H' p → Same H H' → Q (.ref p) H'
end Fm
end FFmBase
section FFmDat
set_option Elab.async false
set_option maxRecDepth 100000
namespace Fm
open PySem PySem.Spec PyProof.Rows L2
/-- the data that a value stands for: tuples, lists, the empty dict, flat things; no list or dict of it stands at p -/
inductive Dat (H : Hp) (p : Addr) : V → PyData → Prop
  | non : Dat H p .non .none
  | bl (b : Bool) : Dat H p (.bl b) (.bool b)
  | int (i : Int) : Dat H p (.int i) (.int i)
  | str (x : Str) : Dat H p (.str x) (.str x)
  | tup {a : Addr} {xs : List V} {ds : List PyData} : H a = some (.tup xs) → a ≠ p → xs.length = ds.length → (∀ (i : Nat) (x : V) (d : PyData), xs[i]? = some x → ds[i]? = some d → Dat H p x d) → Dat H p (.ref a) (.tuple ds)
  | lst {a : Addr} {xs : List V} {ds : List PyData} : H a = some (.lst xs) → a ≠ p → xs.length = ds.length → (∀ (i : Nat) (x : V) (d : PyData), xs[i]? = some x → ds[i]? = some d → Dat H p x d) → Dat H p (.ref a) (.list ds)
  | dct {a : Addr} : H a = some (.dK []) → a ≠ p → Dat H p (.ref a) (.dict [])
theorem Dat.ext {H H' : Hp} {p : Addr} {v : V} {d : PyData} (e : Ext p H H') (h : Dat H p v d) : Dat H' p v d := by
  induction h with
  | non => exact .non
  | bl b => exact .bl b
  | int i => exact .int i
  | str x => exact .str x
  | tup h1 h2 h3 _ ih => exact .tup (e _ _ h1 h2) h2 h3 ih
  | lst h1 h2 h3 _ ih => exact .lst (e _ _ h1 h2) h2 h3 ih
  | dct h1 h2 => exact .dct (e _ _ h1 h2) h2
theorem Dat.same {H H' : Hp} {p : Addr} {v : V} {d : PyData} (e : Same H H') (h : Dat H p v d) : Dat H' p v d := h.ext (Same.ext e p)
/-- rows of data -/
abbrev Dats (H : Hp) (p : Addr) (xs : List V) (ds : List PyData) : Prop := xs.length = ds.length ∧ ∀ (i : Nat) (x : V) (d : PyData), xs[i]? = some x → ds[i]? = some d → Dat H p x d
theorem Dats.ext {H H' : Hp} {p : Addr} {xs : List V} {ds : List PyData} (e : Ext p H H') (h : Dats H p xs ds) : Dats H' p xs ds := ⟨h.1, fun i x d a b => (h.2 i x d a b).ext e⟩
theorem Dats.nil {H : Hp} {p : Addr} : Dats H p [] [] := ⟨rfl, fun _ _ _ a _ => by simp at a⟩
theorem Dats.snoc {H : Hp} {p : Addr} {xs : List V} {ds : List PyData} {v : V} {d : PyData} (h : Dats H p xs ds) (k : Dat H p v d) : Dats H p (xs ++ [v]) (ds ++ [d]) := by
  refine ⟨by simp [h.1], fun i x e a b => ?_⟩
  by_cases hi : i < xs.length
  · rw [List.getElem?_append_left hi] at a
    rw [List.getElem?_append_left (by rw [← h.1]; exact hi)] at b
    exact h.2 i x e a b
  · rw [List.getElem?_append_right (by omega)] at a
    rw [List.getElem?_append_right (by rw [← h.1]; omega)] at b
    rw [h.1] at a
    cases e0 : i - ds.length with
    | zero =>
      rw [e0] at a b
      simp at a b
      subst a b
      exact k
    | succ j =>
      rw [e0] at a
      simp at a
theorem Dats.cons {H : Hp} {p : Addr} {xs : List V} {ds : List PyData} {v : V} {d : PyData} (k : Dat H p v d) (h : Dats H p xs ds) : Dats H p (v :: xs) (d :: ds) := by
  refine ⟨by simp [h.1], fun i x e a b => ?_⟩
  cases i with
  | zero =>
    simp at a b
    subst a b
    exact k
  | succ j =>
    simp at a b
    exact h.2 j x e a b
theorem Dats.ints {H : Hp} {p : Addr} (ns : List Int) : Dats H p (ns.map V.int) (ns.map PyData.int) := by
  refine ⟨by simp, fun i x d a b => ?_⟩
  rw [List.getElem?_map] at a b
  cases e : ns[i]? with
  | none => rw [e] at a; cases a
  | some n =>
    rw [e] at a b
    simp at a b
    subst a b
    exact .int n
theorem Dats.at {H : Hp} {p : Addr} {xs : List V} {ds : List PyData} (h : Dats H p xs ds) {i : Nat} {x : V} (e : xs[i]? = some x) : ∃ d, ds[i]? = some d ∧ Dat H p x d := by
  have hi : i < xs.length := (List.getElem?_eq_some_iff.mp e).1
  have hj : i < ds.length := by rw [← h.1]; exact hi
  exact ⟨ds[i], List.getElem?_eq_getElem hj, h.2 i x _ e (List.getElem?_eq_getElem hj)⟩
theorem Dats.back {H : Hp} {p : Addr} {xs : List V} {ds : List PyData} (h : Dats H p xs ds) {i : Nat} {d : PyData} (e : ds[i]? = some d) : ∃ x, xs[i]? = some x ∧ Dat H p x d := by
  have hi : i < ds.length := (List.getElem?_eq_some_iff.mp e).1
  have hj : i < xs.length := by rw [h.1]; exact hi
  exact ⟨xs[i], List.getElem?_eq_getElem hj, h.2 i _ d (List.getElem?_eq_getElem hj) e⟩
/-- a new tuple of data -/
theorem Dat.new {H : Hp} {p q : Addr} {xs : List V} {ds : List PyData} (hq : H q = none) (hp : q ≠ p) (h : Dats H p xs ds) : Dat (upd H q (.tup xs)) p (.ref q) (.tuple ds) :=
  .tup upd_same hp h.1 fun i x d a b => (h.2 i x d a b).same (same_new hq)
theorem Dat.newL {H : Hp} {p q : Addr} {xs : List V} {ds : List PyData} (hq : H q = none) (hp : q ≠ p) (h : Dats H p xs ds) : Dat (upd H q (.lst xs)) p (.ref q) (.list ds) :=
  .lst upd_same hp h.1 fun i x d a b => (h.2 i x d a b).same (same_new hq)
theorem Dat.isTup {H : Hp} {p : Addr} {v : V} {ds : List PyData} (h : Dat H p v (.tuple ds)) : ∃ a xs, v = .ref a ∧ H a = some (.tup xs) ∧ a ≠ p ∧ Dats H p xs ds := by
  cases h with
  | tup h1 h2 h3 h4 => exact ⟨_, _, rfl, h1, h2, h3, h4⟩
theorem Dat.isInt {H : Hp} {p : Addr} {v : V} {i : Int} (h : Dat H p v (.int i)) : v = .int i := by
  cases h with
  | int i => rfl
/-! ### types -/
def tyName : PyData → String
  | .none => "NoneType"
  | .bool _ => "bool"
  | .int _ => "int"
  | .str _ => "str"
  | .list _ => "list"
  | .tuple _ => "tuple"
  | .dict _ => "dict"
theorem Dat.ty {K : PySem.W.Frag} {H : Hp} {p : Addr} {v : V} {d : PyData} (h : Dat H p v d) : TyX K H v (.type (tyName d)) := by
  cases h with
  | non => exact .base .non
  | bl b => exact .base (.bl b)
  | int i => exact .base (.int i)
  | str x => exact .base (.str x)
  | tup h1 => exact .base (.tup h1)
  | lst h1 => exact .base (.lst h1)
  | dct h1 => exact .base (.dK h1)
def isI : PyData → Bool
  | .int _ => true
  | .bool _ => true
  | _ => false
def isB : PyData → Bool
  | .bool _ => true
  | _ => false
def isTu : PyData → Bool
  | .tuple _ => true
  | _ => false
theorem kit_int : ∀ d : PyData, kitB (tyName d) "int" = some (isI d)
  | .none => (by decide +kernel : kitB "NoneType" "int" = some false)
  | .bool _ => (by decide +kernel : kitB "bool" "int" = some true)
  | .int _ => (by decide +kernel : kitB "int" "int" = some true)
  | .str _ => (by decide +kernel : kitB "str" "int" = some false)
  | .list _ => (by decide +kernel : kitB "list" "int" = some false)
  | .tuple _ => (by decide +kernel : kitB "tuple" "int" = some false)
  | .dict _ => (by decide +kernel : kitB "dict" "int" = some false)
theorem kit_bool : ∀ d : PyData, kitB (tyName d) "bool" = some (isB d)
  | .none => (by decide +kernel : kitB "NoneType" "bool" = some false)
  | .bool _ => (by decide +kernel : kitB "bool" "bool" = some true)
  | .int _ => (by decide +kernel : kitB "int" "bool" = some false)
  | .str _ => (by decide +kernel : kitB "str" "bool" = some false)
  | .list _ => (by decide +kernel : kitB "list" "bool" = some false)
  | .tuple _ => (by decide +kernel : kitB "tuple" "bool" = some false)
  | .dict _ => (by decide +kernel : kitB "dict" "bool" = some false)
theorem kit_tuple : ∀ d : PyData, kitB (tyName d) "tuple" = some (isTu d)
  | .none => (by decide +kernel : kitB "NoneType" "tuple" = some false)
  | .bool _ => (by decide +kernel : kitB "bool" "tuple" = some false)
  | .int _ => (by decide +kernel : kitB "int" "tuple" = some false)
  | .str _ => (by decide +kernel : kitB "str" "tuple" = some false)
  | .list _ => (by decide +kernel : kitB "list" "tuple" = some false)
  | .tuple _ => (by decide +kernel : kitB "tuple" "tuple" = some true)
  | .dict _ => (by decide +kernel : kitB "dict" "tuple" = some false)
theorem isTu_iff {d : PyData} : isTu d = true ↔ ∃ ds, d = .tuple ds := by
  cases d <;> simp [isTu]
/-! ### texts -/
def noList : PyData → Bool
  | .list _ => false
  | .tuple xs => xs.attach.all fun ⟨x, _⟩ => noList x
  | _ => true
theorem noList_tup {ds : List PyData} (h : noList (.tuple ds) = true) : ∀ d ∈ ds, noList d = true := by
  intro d hd
  unfold noList at h
  rw [List.all_eq_true] at h
  exact h ⟨d, hd⟩ (List.mem_attach _ _)
theorem noList_of {ds : List PyData} (h : ∀ d ∈ ds, noList d = true) : noList (.tuple ds) = true := by
  unfold noList
  rw [List.all_eq_true]
  exact fun ⟨d, hd⟩ _ => h d hd
theorem readsAll_of {h : Heap} : ∀ {xs : List V} {us : List Value} {ds : List PyData}, Vals xs us → xs.length = ds.length →
    (∀ (i : Nat) (x : V) (d : PyData), xs[i]? = some x → ds[i]? = some d → ∀ u, RelV x u → ∃ as, Reads h u d as ∧ (noList d = true → sysModules ∉ as)) →
    ∃ as, ReadsAll h us ds as ∧ ((∀ d ∈ ds, noList d = true) → sysModules ∉ as)
  | [], _, ds, r, hl, _ => by
    cases r
    cases ds with
    | nil => exact ⟨[], .nil, fun _ => by simp⟩
    | cons d r => simp at hl
  | x :: xs, _, ds, r, hl, hr => by
    cases r with
    | cons r1 r2 =>
      cases ds with
      | nil => simp at hl
      | cons d ds =>
        obtain ⟨a1, h1, n1⟩ := hr 0 x d rfl rfl _ r1
        obtain ⟨a2, h2, n2⟩ := readsAll_of r2 (by simpa using hl) fun i y e q1 q2 => hr (i + 1) y e (by simpa using q1) (by simpa using q2)
        exact ⟨a1 ++ a2, .cons h1 h2, fun hn hm => by
          rcases List.mem_append.mp hm with hm | hm
          · exact n1 (hn d List.mem_cons_self) hm
          · exact n2 (fun e he => hn e (List.mem_cons_of_mem _ he)) hm⟩
theorem Dat.reads {X : Cx} {pins : List (Addr × Obj)} {σ : L2.St} {H : Hp} {s : Shared} {p : Addr} {v : V} {d : PyData} (I : Inv X pins σ H s) (h : Dat H p v d) :
    ∀ u, RelV v u → ∃ as, Reads s.heap u d as ∧ (noList d = true → sysModules ∉ as) := by
  induction h with
  | non => intro u r; cases r; exact ⟨[], .none, fun _ => by simp⟩
  | bl b => intro u r; cases r; exact ⟨[], .bool b, fun _ => by simp⟩
  | int i => intro u r; obtain ⟨t, rfl⟩ := r; exact ⟨[], .int i t, fun _ => by simp⟩
  | str x => intro u r; obtain ⟨t, rfl⟩ := r; exact ⟨[], .str x t, fun _ => by simp⟩
  | tup h1 h2 h3 _ ih =>
    intro u r
    cases r
    obtain ⟨its, rv, ⟨o, e, hc, n, hd⟩, _⟩ := I.tuple (SqT.of h1)
    obtain ⟨as, ha, hn⟩ := readsAll_of rv h3 ih
    exact ⟨as, .tuple e hc hd (by simpa using ha), fun z => hn (noList_tup z)⟩
  | lst h1 h2 h3 _ ih =>
    intro u r
    cases r
    obtain ⟨its, rv, ⟨o, n, e, hc, _, hd⟩, _⟩ := I.list (SqL.of h1)
    obtain ⟨as, ha, hn⟩ := readsAll_of rv h3 ih
    exact ⟨_, .list e hc hd (by simpa using ha), fun z => by unfold noList at z; cases z⟩
  | @dct a h1 h2 =>
    intro u r
    cases r
    obtain ⟨_, hs, vs, kv, o, es, ep, e, hx, hd, he⟩ := (show ObjOk X.prog X.w H s.heap a (.dK []) from I.hok a _ h1)
    cases kv
    have e0 : es.toList = [] := by
      have q := he.2.1
      cases z : es.toList with
      | nil => rfl
      | cons x r =>
        rw [z] at q
        exact absurd q (by intro w; cases w)
    refine ⟨_, .dict (as := []) (bs := []) e hx.1 hd (by rw [e0]; exact .nil) (by rw [e0]; exact .nil), fun _ hm => ?_⟩
    simp at hm
    rw [hm] at hs
    simp at hs
/-- a bound of what is shown -/
structure Fit (n k : Nat) (d : PyData) : Prop where
  len : d.shown.length ≤ n
  dep : d.depth ≤ k
  sh : d.showable = true
  ok : d.hasDict = false ∨ noList d = true
theorem fit_int {i : Int} (h : i.natAbs < 10 ^ 40) : Fit 41 0 (.int i) := by
  refine ⟨?_, ?_, ?_, ?_⟩
  · have q := int_text_length_le10 (a := i) (k := 40) (by decide) h
    simp only [PyData.shown]
    show (Str.ofString (toString i)).length ≤ 41
    rw [PySem.ofString_length]
    omega
  · simp only [PyData.depth]; omega
  · simp only [PyData.showable]
    have l : i.natAbs < 2 ^ 133 := Nat.lt_of_lt_of_le h (by decide)
    have l2 := PySem.Flt.log2_lt_of (by decide : 0 < 133) l
    exact decide_eq_true (by omega)
  · exact .inl (by simp only [PyData.hasDict])
theorem fit_bool (b : Bool) : Fit 5 0 (.bool b) := by
  refine ⟨?_, ?_, ?_, ?_⟩
  · simp only [PyData.shown]
    cases b <;> decide
  · simp only [PyData.depth]; omega
  · simp only [PyData.showable]
  · exact .inl (by simp only [PyData.hasDict])
theorem fit_none : Fit 5 0 .none := by
  refine ⟨?_, ?_, ?_, ?_⟩
  · simp only [PyData.shown]
    decide
  · simp only [PyData.depth]; omega
  · simp only [PyData.showable]
  · exact .inl (by simp only [PyData.hasDict])
theorem fit_str {x : Str} (h : (reprText x).length ≤ 41) : Fit 41 0 (.str x) := by
  refine ⟨?_, ?_, ?_, ?_⟩
  · simpa only [PyData.shown] using h
  · simp only [PyData.depth]; omega
  · simp only [PyData.showable]
  · exact .inl (by simp only [PyData.hasDict])
theorem Fit.mono {n k n' k' : Nat} {d : PyData} (F : Fit n k d) (h : n ≤ n') (h' : k ≤ k') : Fit n' k' d := ⟨Nat.le_trans F.len h, Nat.le_trans F.dep h', F.sh, F.ok⟩
theorem all_fit {n k : Nat} : ∀ {ds : List PyData}, (∀ d ∈ ds, Fit n k d) → piled (PyData.shownAll ds) ≤ (n + 2) * ds.length ∧ PyData.depthAll ds ≤ k ∧ PyData.showableAll ds = true ∧ (PyData.shownAll ds).length = ds.length
  | [], _ => by simp [PyData.shownAll, PyData.depthAll, PyData.showableAll, piled]
  | d :: r, h => by
    obtain ⟨h1, h2, h3, h4⟩ := all_fit fun e he => h e (List.mem_cons_of_mem _ he)
    have F := h d List.mem_cons_self
    have l := F.len
    have e := F.dep
    refine ⟨?_, ?_, ?_, ?_⟩
    · simp only [PyData.shownAll, piled_cons, List.length_cons]
      rw [Nat.mul_add]
      omega
    · simp only [PyData.depthAll]
      omega
    · simp only [PyData.showableAll, F.sh, h3, Bool.and_self]
    · simp only [PyData.shownAll, List.length_cons, h4]
theorem hasDict_all : ∀ {ds : List PyData}, (∀ d ∈ ds, d.hasDict = false) → PyData.hasDictAll ds = false
  | [], _ => by simp only [PyData.hasDictAll]
  | d :: r, h => by
    simp only [PyData.hasDictAll, h d List.mem_cons_self, hasDict_all fun e he => h e (List.mem_cons_of_mem _ he), Bool.or_self]
theorem tupleText_len (ts : List Str) : (tupleText ts).length ≤ piled ts + 3 := by
  unfold tupleText
  rw [strLen_append, strLen_append]
  have e : (Str.ofString (if ts.length == 1 then ",)" else ")" : String)).length ≤ 2 := by split <;> decide
  have e1 : ("(" : Str).length = 1 := rfl
  by_cases h : ts = []
  · subst h
    have : (Str.join ", " []).length = 0 := rfl
    omega
  · have := join_length_add ts h
    omega
theorem listText_len (ts : List Str) : (listText ts).length ≤ piled ts + 3 := by
  cases ts with
  | nil => decide
  | cons t r =>
    have h := textFrom_length_pos r 1 (("[" : Str) ++ (if (0 : Nat) > 0 then ", " else "" : String) ++ t) (Nat.succ_pos 0)
    have e : (("[" : Str) ++ (if (0 : Nat) > 0 then ", " else "" : String) ++ t).length = 1 + t.length := by rw [strLen_append, strLen_append]; rfl
    show (textFrom 1 (("[" : Str) ++ (if (0 : Nat) > 0 then ", " else "" : String) ++ t) r ++ "]").length ≤ _
    rw [strLen_append, h, e, piled_cons]
    have e2 : ("]" : Str).length = 1 := rfl
    omega
theorem fit_tup {n k : Nat} {ds : List PyData} (h : ∀ d ∈ ds, Fit n k d) (hn : ∀ d ∈ ds, noList d = true) : Fit ((n + 2) * ds.length + 3) (k + 1) (.tuple ds) := by
  obtain ⟨h1, h2, h3, h4⟩ := all_fit h
  refine ⟨?_, ?_, ?_, ?_⟩
  · simp only [PyData.shown]
    exact Nat.le_trans (tupleText_len _) (by omega)
  · simp only [PyData.depth]; omega
  · simpa only [PyData.showable] using h3
  · exact .inr (noList_of hn)
/-- tuples and lists without a dict -/
theorem fit_tupD {n k : Nat} {ds : List PyData} (h : ∀ d ∈ ds, Fit n k d) (hn : ∀ d ∈ ds, d.hasDict = false) : Fit ((n + 2) * ds.length + 3) (k + 1) (.tuple ds) := by
  obtain ⟨h1, h2, h3, h4⟩ := all_fit h
  refine ⟨?_, ?_, ?_, ?_⟩
  · simp only [PyData.shown]
    exact Nat.le_trans (tupleText_len _) (by omega)
  · simp only [PyData.depth]; omega
  · simpa only [PyData.showable] using h3
  · exact .inl (by simp only [PyData.hasDict]; exact hasDict_all hn)
theorem fit_lst {n k : Nat} {ds : List PyData} (h : ∀ d ∈ ds, Fit n k d) (hn : ∀ d ∈ ds, d.hasDict = false) : Fit ((n + 2) * ds.length + 3) (k + 1) (.list ds) := by
  obtain ⟨h1, h2, h3, h4⟩ := all_fit h
  refine ⟨?_, ?_, ?_, ?_⟩
  · simp only [PyData.shown]
    exact Nat.le_trans (listText_len _) (by omega)
  · simp only [PyData.depth]; omega
  · simpa only [PyData.showable] using h3
  · exact .inl (by simp only [PyData.hasDict]; exact hasDict_all hn)
theorem call_repr {X : Cx} (hg : X.A.guards = some []) (hu : X.A.units + 64 < cLine) : CallR X (.builtin "repr") (fun xs H Q => ∃ (v : V) (p : Addr) (d : PyData) (n k : Nat), xs = [v] ∧ Dat H p v d ∧ Fit n k d ∧ n ≤ sizeLine ∧ k ≤ 60 ∧ Q (.str d.shown) H) := by
  intro pins s σ H xs us Q I r h
  obtain ⟨v, p, d, n, k, rfl, hd, F, hn, hk, q⟩ := h
  obtain ⟨u, rfl, ru⟩ := vals1 r
  obtain ⟨as, R, hm⟩ := hd.reads I u ru
  have hz : d.shown.length ≤ sizeLine := Nat.le_trans F.len hn
  have fin : ∀ tk t, EP X pins σ Q (.str d.shown t) { s with toks := tk } := fun tk t => ⟨.str d.shown, H, I.tok tk, ⟨t, rfl⟩, q⟩
  cases hd with
  | non => cases ru; exact PySem.P.repr_of_none (by simpa only [PyData.shown] using fin _ _)
  | bl b => cases ru; exact PySem.P.repr_of_bool (by simpa only [PyData.shown] using fin _ _)
  | int i => obtain ⟨t, rfl⟩ := ru; exact PySem.P.repr_of_int (by simpa only [PyData.showable, decide_eq_true_eq] using F.sh) (by simpa only [PyData.shown] using fin _ _)
  | str x => obtain ⟨t, rfl⟩ := ru; exact PySem.P.repr_of_str (by simpa only [PyData.shown] using fin _ _) (by simpa only [PyData.shown] using hz)
  | tup h1 h2 h3 h4 =>
    cases ru
    exact repr_of_reads' R F.sh (fun hd => hm (F.ok.resolve_left (by rw [hd]; exact Bool.noConfusion))) hg (by have := F.dep; omega) (fun _ _ e => e) (fun h' u tk hk' => ⟨.str _, H, I.kept (t' := tk) hk', ⟨u, rfl⟩, q⟩) hz
  | lst h1 h2 h3 h4 =>
    cases ru
    exact repr_of_reads' R F.sh (fun hd => hm (F.ok.resolve_left (by rw [hd]; exact Bool.noConfusion))) hg (by have := F.dep; omega) (fun _ _ e => e) (fun h' u tk hk' => ⟨.str _, H, I.kept (t' := tk) hk', ⟨u, rfl⟩, q⟩) hz
  | dct h1 h2 =>
    cases ru
    exact repr_of_reads' R F.sh (fun hd => hm (F.ok.resolve_left (by rw [hd]; exact Bool.noConfusion))) hg (by have := F.dep; omega) (fun _ _ e => e) (fun h' u tk hk' => ⟨.str _, H, I.kept (t' := tk) hk', ⟨u, rfl⟩, q⟩) hz
end Fm
end FFmDat
section FFmLoop
set_option Elab.async false
set_option maxRecDepth 100000
namespace Fm
open PySem PySem.Spec PyProof.Rows L2
/-- a loop over what J yields -/
def ForB (J : It) (g : TG) (tb : TS) (D : Ends) (σ : L2.St) (H : Hp) : Prop := ∃ W : Nat → Nat → L2.St → Hp → Prop, (∃ m, W 0 m σ H) ∧ ∀ i m σ H, W i m σ H →
  (J.stop i H ∧ D.nx σ H) ∨ (J.go i H ∧ ∃ N : L2.St → Hp → Prop, (∀ σ' H', N σ' H' → ∃ m', m' < m ∧ W (i + 1) m' σ' H') ∧ ∀ x H', J.yld i H x H' → g x σ H' fun σ2 H2 => tb { D with nx := N, ct := N, bk := D.nx } σ2 H2)
theorem tFor_eq {wi : TI} {g : TG} {tb : TS} {D : Ends} {σ : L2.St} {H : Hp} : tFor wi g tb D σ H = wi σ H fun J H1 => ForB J g tb D σ H1 := rfl
/-- a comprehension over what J yields, its list at D -/
def LcB (J : It) (g : TG) (tt : TT) (te : TE) (vs : List Nat) (σ : L2.St) (H1 : Hp) (D : Addr) (Qd : Hp → Prop) : Prop := ∃ W : Nat → Nat → Hp → Prop, (∃ m, W 0 m (upd H1 D (.lst []))) ∧ ∀ i m H, W i m H →
  (J.stop i H ∧ Qd H) ∨ (J.go i H ∧ ∃ Nx : Hp → Prop, (∀ H', Nx H' → ∃ m', m' < m ∧ W (i + 1) m' H') ∧ ∀ x H', J.yld i H x H' → g x (wipe σ vs) H' fun σ2 H2 => wipe σ2 vs = wipe σ vs ∧ tt σ2 H2 fun b H3 =>
    if b = true then te σ2 H3 fun y H4 => ∃ acc, H4 D = some (.lst acc) ∧ acc.length < sizeLine ∧ Nx (upd H4 D (.lst (acc ++ [y]))) else Nx H3)
theorem tLc_eq {wi : TI} {g : TG} {tt : TT} {te : TE} {vs : List Nat} {σ : L2.St} {H : Hp} {Q : VK} : tLc wi g tt te vs σ H Q = wi σ H fun J H1 => ∀ A, H1 A = none → LcB J g tt te vs σ H1 A (fun H => Q (.ref A) H) := rfl
section
variable {K : PySem.W.Frag} {a : Addr} {xs : List V} {g : TG} {tb : TS} {D : Ends} {σ : L2.St} {H : Hp}
theorem fT (Pv : Nat → L2.St → Hp → Prop) (h0 : Pv 0 σ H) (hl : ∀ i σ H, i ≤ xs.length → Pv i σ H → SqT K H a xs)
    (hs : ∀ i x σ H, xs[i]? = some x → Pv i σ H → g x σ H fun σ2 H2 => tb { D with nx := Pv (i + 1), ct := Pv (i + 1), bk := D.nx } σ2 H2) (hd : ∀ σ H, Pv xs.length σ H → D.nx σ H) : ForB (Itt K a) g tb D σ H := for_tup Pv h0 hl hs hd
theorem fL (Pv : Nat → L2.St → Hp → Prop) (h0 : Pv 0 σ H) (hl : ∀ i σ H, i ≤ xs.length → Pv i σ H → SqL K H a xs)
    (hs : ∀ i x σ H, xs[i]? = some x → Pv i σ H → g x σ H fun σ2 H2 => tb { D with nx := Pv (i + 1), ct := Pv (i + 1), bk := D.nx } σ2 H2) (hd : ∀ σ H, Pv xs.length σ H → D.nx σ H) : ForB (Itl K a) g tb D σ H := for_list Pv h0 hl hs hd
theorem fR {lo : Int} {n : Nat} (Pv : Nat → L2.St → Hp → Prop) (h0 : Pv 0 σ H)
    (hs : ∀ i σ H, i < n → Pv i σ H → g (.int (lo + i)) σ H fun σ2 H2 => tb { D with nx := Pv (i + 1), ct := Pv (i + 1), bk := D.nx } σ2 H2) (hd : ∀ σ H, Pv n σ H → D.nx σ H) : ForB (Itr lo n) g tb D σ H := for_range Pv h0 hs hd
end
section
variable {K : PySem.W.Frag} {a : Addr} {xs : List V} {g : TG} {tt : TT} {te : TE} {vs : List Nat} {σ : L2.St} {H1 : Hp} {D : Addr} {Qd : Hp → Prop}
theorem lR {lo : Int} {n : Nat} (Pv : Nat → Hp → Prop) (h0 : Pv 0 (upd H1 D (.lst [])))
    (hs : ∀ i H, i < n → Pv i H → g (.int (lo + i)) (wipe σ vs) H fun σ2 H2 => wipe σ2 vs = wipe σ vs ∧ tt σ2 H2 fun b H3 =>
      if b = true then te σ2 H3 fun y H4 => ∃ acc, H4 D = some (.lst acc) ∧ acc.length < sizeLine ∧ Pv (i + 1) (upd H4 D (.lst (acc ++ [y]))) else Pv (i + 1) H3) (hd : ∀ H, Pv n H → Qd H) : LcB (Itr lo n) g tt te vs σ H1 D Qd := lc_range Pv h0 hs hd
theorem lL (Pv : Nat → Hp → Prop) (h0 : Pv 0 (upd H1 D (.lst []))) (hl : ∀ i H, i ≤ xs.length → Pv i H → SqL K H a xs)
    (hs : ∀ i x H, xs[i]? = some x → Pv i H → g x (wipe σ vs) H fun σ2 H2 => wipe σ2 vs = wipe σ vs ∧ tt σ2 H2 fun b H3 =>
      if b = true then te σ2 H3 fun y H4 => ∃ acc, H4 D = some (.lst acc) ∧ acc.length < sizeLine ∧ Pv (i + 1) (upd H4 D (.lst (acc ++ [y]))) else Pv (i + 1) H3) (hd : ∀ H, Pv xs.length H → Qd H) : LcB (Itl K a) g tt te vs σ H1 D Qd := lc_list Pv h0 hl hs hd
theorem lT (Pv : Nat → Hp → Prop) (h0 : Pv 0 (upd H1 D (.lst []))) (hl : ∀ i H, i ≤ xs.length → Pv i H → SqT K H a xs)
    (hs : ∀ i x H, xs[i]? = some x → Pv i H → g x (wipe σ vs) H fun σ2 H2 => wipe σ2 vs = wipe σ vs ∧ tt σ2 H2 fun b H3 =>
      if b = true then te σ2 H3 fun y H4 => ∃ acc, H4 D = some (.lst acc) ∧ acc.length < sizeLine ∧ Pv (i + 1) (upd H4 D (.lst (acc ++ [y]))) else Pv (i + 1) H3) (hd : ∀ H, Pv xs.length H → Qd H) : LcB (Itt K a) g tt te vs σ H1 D Qd := lc_tup Pv h0 hl hs hd
end
/-! ### what a house is, as data -/
def UpTo (mv : V) (d : PyData) : Prop := ∃ i : Int, d = .int i ∧ 0 ≤ i ∧ ∀ M, mv = .int M → i ≤ M
def RowD (m : Nat) (d : PyData) : Prop := ∃ ds, d = .tuple ds ∧ ds.length = m ∧ ∀ e ∈ ds, ∃ i : Int, e = .int i ∧ 0 ≤ i ∧ i < m
def cellD (rs : List PyData) (a b : Nat) : PyData := match rs[a]? with
  | some (.tuple r) => r[b]?.getD .none
  | _ => .none
def TabD (m : Nat) (d : PyData) : Prop := ∃ rs, d = .tuple rs ∧ rs.length = m ∧ (∀ r ∈ rs, RowD m r) ∧ ∀ a b, a < m → b < m → cellD rs a b = cellD rs b a
def FloorD (m : Nat) (d : PyData) : Prop := ∃ s u, d = .tuple [s, u] ∧ TabD m s ∧ TabD m u
def HouseN (m n : Nat) (d : PyData) : Prop := ∃ fs, d = .tuple fs ∧ fs.length = n ∧ 1 ≤ n ∧ n ≤ 4 ∧ 1 ≤ m ∧ m ≤ 6 ∧ ∀ f ∈ fs, FloorD m f
def HouseD (d : PyData) : Prop := ∃ m n, HouseN m n d
/-! ### promises of the program's looks -/
def spWhole : Sp := fun vs H Q _ => ∃ (v : V) (p : Addr) (d : PyData), vs = [v] ∧ Dat H p v d ∧ ∀ b : Bool, (b = true ↔ ∃ i, d = .int i) → Q (.bl b) H
def spUpTo : Sp := fun vs H Q _ => ∃ (v mv : V) (p : Addr) (d : PyData), vs = [v, mv] ∧ Dat H p v d ∧ (mv = .non ∨ ∃ M, mv = .int M) ∧ ∀ b : Bool, (b = true ↔ UpTo mv d) → Q (.bl b) H
def spTupOf : Sp := fun vs H Q _ => ∃ (v : V) (n : Int) (p : Addr) (d : PyData), vs = [v, .int n] ∧ Dat H p v d ∧ ∀ b : Bool, (b = true ↔ ∃ ds, d = .tuple ds ∧ (ds.length : Int) = n) → Q (.bl b) H
def spAre : Sp := fun vs H Q _ => ∃ (v mv : V) (n : Int) (p : Addr) (d : PyData), vs = [v, .int n, mv] ∧ Dat H p v d ∧ (mv = .non ∨ ∃ M, mv = .int M) ∧
  ∀ b : Bool, (b = true ↔ ∃ ds, d = .tuple ds ∧ (ds.length : Int) = n ∧ ∀ e ∈ ds, UpTo mv e) → Q (.bl b) H
def spTable : Sp := fun vs H Q _ => ∃ (v : V) (m : Nat) (p : Addr) (d : PyData), vs = [v, .int m] ∧ m ≤ 1000 ∧ Dat H p v d ∧ ∀ b : Bool, (b = true ↔ TabD m d) → Q (.bl b) H
def spHouse : Sp := fun vs H Q _ => ∃ (v : V) (p : Addr) (d : PyData), vs = [v] ∧ Dat H p v d ∧ ∀ b : Bool, (b = true ↔ HouseD d) → Q (.bl b) H
end Fm
end FFmLoop
section FFmTry
set_option Elab.async false
set_option linter.all false
set_option maxRecDepth 100000
set_option maxHeartbeats 2000000
namespace Fm
open PySem PySem.Spec PyProof.Rows L2
/-- an exception of the class cls, caught and kept at a -/
def ExK (cls : Value) (d : Option Addr) (a : Addr) : HO := .ext fun h => ∃ (oe : Obj) (vs : Array Value), h.get? a = some oe ∧ Zc cls d oe ∧ oe.data = .fields vs
section
variable {X : Cx} {pins : List (Addr × Obj)} {σ : L2.St} {H : Hp} {s sI : Shared}
/-- what is pinned, and is new since the entry, may be tracked -/
theorem track {a : Addr} {oe : Obj} {vs : Array Value} {cls : Value} {d : Option Addr} (I : Inv X ((a, oe) :: pins) σ H s) (hz : Zc cls d oe) (hv : oe.data = .fields vs)
    (h0 : X.s_0.heap.get? a = none) (hp : ∀ q ∈ X.pn ++ pins, q.1 ≠ a) : Inv X pins σ (upd H a (ExK cls d a)) s := by
  obtain ⟨ga, na, nl, nf, nc⟩ := I.pin (a, oe) (List.mem_append_right _ List.mem_cons_self)
  dsimp only at ga na nl nf nc
  have nb : ∀ {b o}, X.s_0.heap.get? b = some o → b ≠ a := fun {b o} e z => by
    rw [z, h0] at e
    cases e
  have hne : ∀ {b u}, H b = some u → b ≠ a := fun {b u} e => ne_of_none e na
  refine ⟨I.ok, I.os, I.bare, ⟨fun b o e n x y => ?_, fun b o e n x y => ?_, fun b o e n x => ?_, fun b o e x => ?_, fun b xs e => ?_, fun b o u e => ?_, fun b ps e => ?_⟩, I.loc, I.cell, ?_, fun x c e => ?_, fun q hq => ?_, fun b u e => ?_, I.len⟩
  · exact I.base.keep b o e n x y
  · exact I.base.slot b o e n x y
  · rw [upd_ne (nb e)]
    exact I.base.free b o e n x
  · exact I.base.there b o e x
  · have q := I.base.tups b xs e
    rw [upd_ne (hne q)]
    exact q
  · have q := I.base.frzs b o u e
    rw [upd_ne (hne q)]
    exact q
  · obtain ⟨m, q⟩ := I.base.tbls b ps e
    exact ⟨m, by rw [upd_ne (hne q)]; exact q⟩
  · rw [upd_ne (Ne.symm nl)]
    exact I.free
  · have hca : c ≠ a := fun z => by
      obtain ⟨v, o, ho, hd⟩ := I.cell x c e
      rw [z, ga] at ho
      cases ho
      exact nc v hd
    rw [upd_ne hca]
    exact I.freeC x c e
  · have hq2 : q ∈ X.pn ++ (a, oe) :: pins := by
      rcases List.mem_append.mp hq with z | z
      · exact List.mem_append_left _ z
      · exact List.mem_append_right _ (List.mem_cons_of_mem _ z)
    obtain ⟨e1, e2, e3⟩ := I.pin q hq2
    exact ⟨e1, by rw [upd_ne (hp q hq)]; exact e2, e3⟩
  · by_cases hb : b = a
    · subst hb
      rw [upd_same] at e
      cases e
      exact ⟨⟨oe, vs, ga, hz, hv⟩, ⟨oe, ga⟩, fun h1 h2 ⟨o, v, q, r⟩ k => ⟨o, v, k o q, r⟩⟩
    · rw [upd_ne hb] at e
      exact (I.hok b u e).stay (fun c w _ q => q) (fun c q => by rw [upd_ne (hne q)]; exact q) fun c xs q => by rw [upd_ne (hne q)]; exact q
end
/-- what the clause wishes that keeps its exception in a name: i the clause's own name, j the name that keeps it -/
def wKeep (K : PySem.W.Frag) (c : Value) (i j : Nat) (D : Ends) : WX := fun cls d σ H =>
  PySem.W.exmOne K cls c = some true ∧ ∀ a, H a = none → D.nx (((σ.set i (some (.ref a))).set j (some (.ref a))).set i none) (upd H a (ExK cls d a))
section
variable {X : Cx} {x n y : Str} {c : Value} {i j : Nat} {body : List Stmt} {np pos pos' py pn sp : Pos} {tb : WX → TS}
theorem ps_try_keep (hs : X.stack = X.env :: X.outer) (hf : X.env.frame = some X.env.locals) (hex : X.ex = []) (hN : X.N.Nodup) (hi : X.N[i]? = some n) (hln : X.env.kindOf n = some .local) (hj : X.N[j]? = some y) (hly : X.env.kindOf y = some .local) (hc : Names X x c)
    (hd1 : (n == ("__debug__" : Str)) = false) (hd2 : (n == ("__classdict__" : Str)) = false) (hsw : swapsWith (.Name n pn) (some (.Name y py)) sp.line X.env = pure false) (hil : i < X.N.length)
    (hb : ∀ (W : WX) (pn : List (Addr × Obj)) (xe : Value → Shared → Prop), Takes (X.tr pn xe) W → PassesOwn (model X.prog X.w) X.A X.env xe → PSs (X.tr pn xe) body (tb W)) :
    PS X (.Try body [.ExceptHandler (some (.Name x np)) (some n) [.Assign [.Name y py] (.Name n pn) sp] pos'] [] [] pos) (fun D σ H => tb (wKeep X.K c i j D) D σ H) := by
  refine ⟨fun pins s σ H D I h => ?_⟩
  have ok := I.ok
  have fr1 : X.A.frames = some (X.env :: X.outer) := by rw [ok.frames, hs]
  have lc1 : Loc X.env.scope n := .inl hln
  refine wpAny_Try_except ?_
  refine wpAny_mono ((hb (wKeep X.K c i j D) (X.pn ++ pins) (fun e t1 => wpAny (model X.prog X.w) X.A (noteFrame e X.env) (fun _ t2 => wpAny (model X.prog X.w) X.A (setFlight e none) (fun _ t3 =>
    wpAny (model X.prog X.w) X.A (handleBy e X.env [.ExceptHandler (some (.Name x np)) (some n) [.Assign [.Name y py] (.Name n pn) sp] pos']) (SP X pins D) X.xe t3) X.xe t2) X.xe t1) (fun u s' xx => ?_) PassesOwn.looking).run [] s σ H D (I.toTry _) h) (fun f s1 hsp => ?_) (fun e s1 he => he)
  · obtain ⟨a, B, sI, pins', σ1, H1, cls, d, rfl, J0, nb, up, sky, na, os, ag, hx1, hyes⟩ := xx
    have J : Inv X pins σ1 H1 sI := J0.ofTry ok
    have sk : Sky B (X.env :: X.outer) a (Zc cls d) X.env.locals s'.heap := hs ▸ sky
    show wpAny (model X.prog X.w) X.A (noteFrame (.ref a) X.env) _ _ _
    refine Sky.land Zc.steady fr1 hf sk fun g3 f3 u3 => ?_
    have K3 : Inv X pins σ1 H1 { s' with heap := g3 } := J.landed nb f3.1 (up.trans u3) os ag
    obtain ⟨o3, v3, e3, z3, d3⟩ := f3.there
    have off : a ∉ frs (X.env :: X.outer) := fun hm => by
      obtain ⟨_, o', e', hq⟩ := (show g3.FunFrames B (X.env :: X.outer) from f3.2.2.1).mem hm
      rw [e3] at e'
      cases e'
      exact hq _ d3
    have offL : a ≠ X.env.locals := fun z => off (List.mem_filterMap.mpr ⟨X.env, List.mem_cons_self, by rw [hf, z]⟩)
    have offF : a ∉ X.fs := fun hm => by
      obtain ⟨e, he, q⟩ := List.mem_filterMap.mp hm
      exact off (List.mem_filterMap.mpr ⟨e, List.mem_cons_of_mem _ he, q⟩)
    have newI : sI.heap.get? a = none := by
      cases q : sI.heap.get? a with
      | none => rfl
      | some o =>
        have z := nb a o q (by rw [hs]; exact off)
        rw [f3.2.1] at z
        cases z
    have new0 : X.s_0.heap.get? a = none := by
      cases q : X.s_0.heap.get? a with
      | none => rfl
      | some o =>
        obtain ⟨o', z⟩ := J.base.there a o q (by rw [hex]; exact fun z => nomatch z)
        rw [newI] at z
        cases z
    have S3 := K3.suite e3 d3 na offL offF
    refine wpAny_handleBy_cons (codeAny_handlers_test ?_) (by intro q; cases q)
    have LT : PySem.W.Looks (model X.prog X.w) g3 (typeOf (.ref a)) cls := fun A Q E s k q => wpAny_typeOf_ref (k _ _ e3) (by rw [z3.1]; exact q)
    have LM := PySem.W.exm_one (M := model X.prog X.w) K3.kIn LT hx1
    have tst : ∀ {Q : Value → Shared → Prop} {E : Value → Shared → Prop}, Q c { s' with heap := g3 } → wpAny (model X.prog X.w) (X.A.mark (some (.ref a))) (eval (.Name x np) X.env) Q E { s' with heap := g3 } := fun {Q E} q => by
      obtain ⟨hg, hdb, hm | ⟨hm, hv, hnn⟩⟩ := hc
      · exact ld_glob (X := X.suite a ((a, o3) :: (X.pn ++ pins))) S3 hg hm q hdb
      · exact ld_blt (X := X.suite a ((a, o3) :: (X.pn ++ pins))) S3 hg hm hv q hnn hdb
    refine tst (LM.here ?_)
    refine codeAny_handlers_suite_as ?_
    refine HandSPX.lands_againZ f3 fun g4 f4 u4 => ?_
    have K4 : Inv X pins σ1 H1 { s' with heap := g4 } := J.landed nb f4.1 ((up.trans u3).trans u4) os ag
    obtain ⟨o4, v4, e4, z4, d4⟩ := f4.there
    have S4 := K4.suite e4 d4 na offL offF
    refine store_ok (X := X.suite a ((a, o4) :: (X.pn ++ pins))) (v := .ref a) S4 hN hi lc1 rfl (fun s5 S5 => ?_) (.inr hln)
    have step : PSs (X.suite a ((a, o4) :: (X.pn ++ pins))) [.Assign [.Name y py] (.Name n pn) sp] (tSeq (tAsg (tVar i) (gName j)) tNext) :=
      pss_cons (ps_set (i := j) hN hj (.inl hly) (pe_var (i := i) hi (.inl hln) hd1 hd2) hsw (.inr hly)) pss_nil
    have hlen : i < σ1.length := by rw [J.len]; exact hil
    refine wpAny_mono (step.run [] s5 _ H1 { nx := fun σ6 H6 => σ6 = (σ1.set i (some (.ref a))).set j (some (.ref a)) ∧ H6 = H1, rt := fun _ _ => False } S5 ⟨.ref a, by rw [List.getElem?_set_self hlen], rfl, rfl⟩) (fun f s6 hsp => ?_) (fun _ _ z => False.elim z)
    cases f with
    | next =>
      obtain ⟨σ6, H6, S6, rfl, rfl⟩ := hsp
      have U : Inv X ((a, o4) :: pins) ((σ1.set i (some (.ref a))).set j (some (.ref a))) H6 s6 := ⟨ok, S6.os, S6.bare, S6.base, S6.loc, S6.cell, S6.free, S6.freeC, fun q hq => S6.pin q (List.mem_append_left _ (by
        rcases List.mem_append.mp hq with z | z
        · exact List.mem_cons_of_mem _ (List.mem_append_left _ z)
        · rcases List.mem_cons.mp z with z | z
          · rw [z]; exact List.mem_cons_self
          · exact List.mem_cons_of_mem _ (List.mem_append_right _ z))), S6.hok, S6.len⟩
      refine gone_ok U hN hi hln fun s7 J7 => ?_
      refine ⟨_, _, track J7 z4 d4 new0 (fun q hq z => ?_), hyes a na⟩
      have e := (J.pin q hq).1
      rw [z, newI] at e
      cases e
    | brk =>
      obtain ⟨_, _, _, q⟩ := hsp
      exact False.elim q
    | cont =>
      obtain ⟨_, _, _, q⟩ := hsp
      exact False.elim q
    | ret u =>
      obtain ⟨_, _, _, _, _, q⟩ := hsp
      exact False.elim q
  · cases f with
    | next =>
      obtain ⟨σ', H', J', q⟩ := hsp
      exact wpAny_execs_nil ⟨σ', H', J'.ofTry ok, q⟩
    | brk =>
      obtain ⟨σ', H', J', q⟩ := hsp
      exact ⟨σ', H', J'.ofTry ok, q⟩
    | cont =>
      obtain ⟨σ', H', J', q⟩ := hsp
      exact ⟨σ', H', J'.ofTry ok, q⟩
    | ret u =>
      obtain ⟨v, σ', H', J', r, q⟩ := hsp
      exact ⟨v, σ', H', J'.ofTry ok, r, q⟩
end
end Fm
end FFmTry
section FFmExc
set_option Elab.async false
set_option linter.all false
set_option maxRecDepth 100000
set_option maxHeartbeats 2000000
namespace Fm
open PySem PySem.Spec PyProof.Rows L2
/-- an error class of the program, straight under MeetError at M -/
structure Exn (K : PySem.W.Frag) (mg : Str → Option Value) (x : Str) (C M : Addr) : Prop where
  g : mg x = some (.ref C)
  e : PySem.W.excIn K C [.type "ValueError", .type "Exception", .type "BaseException", .type "object"] "ValueError.__new__" = true
  k : PySem.W.keepIn K (.ref C) = true
  b : PySem.W.subIn K (.ref C) (.type "BaseException") = some true
  t : PySem.W.typeIn K (.ref C) = some (.type "type")
  c : ExcC K C
  m : PySem.W.exmOne K (.ref C) (.ref M) = some true
/-- isinstance(e, c), e a kept error -/
def rIsK (K : PySem.W.Frag) (D : Addr) : List V → Hp → VK → Prop := fun xs H Q => ∃ (a : Addr) (c : V) (u : Value) (b : Bool), xs = [.ref a, c] ∧ H a = some (ExK (.ref D) none a) ∧ ClsV c u ∧ PySem.W.kitOne K (.ref D) u = some b ∧ Q (.bl b) H
def rIsKT (K : PySem.W.Frag) (D : Addr) : List V → Hp → VK → Prop := fun xs H Q => ∃ (a tp : Addr) (cs : List V) (us : List Value) (b : Bool), xs = [.ref a, .ref tp] ∧ H a = some (ExK (.ref D) none a) ∧ H tp = some (.tup cs) ∧ Paired ClsV cs us ∧ PySem.W.kitAny K (.ref D) us = some b ∧ Q (.bl b) H
section
variable {X : Cx} {D : Addr}
theorem kept_inst {pins : List (Addr × Obj)} {σ : L2.St} {H : Hp} {s : Shared} {a : Addr} (I : Inv X pins σ H s) (h : H a = some (ExK (.ref D) none a)) : ∃ oe, PySem.W.InstAt s.heap a oe D none := by
  obtain ⟨⟨oe, vs, hg, hz, hv⟩, _, _⟩ := I.hok a _ h
  obtain ⟨oc, od, oda, osl⟩ := oe
  obtain ⟨h1, h2⟩ := hz
  dsimp only at h1 h2 hv
  subst h1 h2 hv
  exact ⟨_, hg, rfl, rfl, trivial⟩
theorem call_isK (C : ExcC X.K D) : CallR X (.builtin "isinstance") (rIsK X.K D) := by
  intro pins s σ H xs us Q I r h
  obtain ⟨a, c, u, b, rfl, ha, hc, e, q⟩ := h
  obtain ⟨u1, u2, rfl, r1, r2⟩ := vals2 r
  cases r1
  have e2 := hc.eq r2
  subst e2
  obtain ⟨oe, J⟩ := kept_inst I ha
  exact PySem.W.kia_one (PySem.W.handS_kitx_exc C.hg C.hk C.hs C.hd C.ha C.hn C.ht C.hm) I.kIn J e (fun z => nomatch z) fun tk => ⟨.bl b, H, I.tok tk, rfl, q⟩
theorem call_isKT (C : ExcC X.K D) : CallR X (.builtin "isinstance") (rIsKT X.K D) := by
  intro pins s σ H xs us Q I r h
  obtain ⟨a, tp, cs, ws, b, rfl, ha, hT, hc, e, q⟩ := h
  obtain ⟨u1, u2, rfl, r1, r2⟩ := vals2 r
  cases r1
  cases (show u2 = Value.ref tp from r2)
  obtain ⟨oe, J⟩ := kept_inst I ha
  obtain ⟨_, its, rv, o, h1, h2, n, h3⟩ := (show ObjOk X.prog X.w H s.heap tp (.tup cs) from I.hok tp _ hT)
  have e3 := ClsV.all hc rv
  subst e3
  obtain ⟨oc, od, dt, sl⟩ := o
  simp only at h2 h3
  subst h2 h3
  exact PySem.W.kia_tup (PySem.W.handS_kitx_exc C.hg C.hk C.hs C.hd C.ha C.hn C.ht C.hm) I.kIn J h1 e (fun z => nomatch z) fun tk => ⟨.bl b, H, I.tok tk, rfl, q⟩
end
/-- raise C('..') of such a class -/
theorem ps_raiseE {X : Cx} {W : WX} {x m : Str} {C M : Addr} {j : Nat} {p p2 p3 pos : Pos} (hc : X.calm = true) (tk : Takes X W) (E : Exn X.K X.mg x C M) (hg : Gl X x) (hd : (x == ("__debug__" : Str)) = false := by decide) :
    PS X (.Raise (some (.Call (.Name x p) [.Constant (.str m) j p2] [] p3)) none pos) (fun _ σ H => W (.ref C) none σ H) :=
  ps_raise hc tk (pmk_own PySem.F.excBase_ValueError E.e E.g E.k (raises_own E.b E.t) hg hd)
/-- size's promise: C is NoHouse -/
def spSize (C : Addr) : Sp := fun vs H Q E => ∃ (v : V) (p : Addr) (d : PyData), vs = [v] ∧ Dat H p v d ∧ (∀ m n, HouseN m n d → ∀ q H', H q = none → H' q = some (.tup [.int m, .int n]) → Same H H' → Q (.ref q) H') ∧ (¬ HouseD d → E (.ref C) none H)
end Fm
end FFmExc
section FFmEnd
set_option Elab.async false
set_option linter.all false
set_option maxRecDepth 100000
set_option maxHeartbeats 2000000
namespace Fm
open PySem PySem.Spec PyProof.Rows L2
/-- a def's promise where no text is being made of anything around it, and nothing is raised -/
def RunG (P : Program) (w : World) (K : PySem.W.Frag) (mg : Str → Option Value) (base : Heap) (k : Nat) (f : Addr) (fd : FuncData) (ps : List Str) (sp : Sp) : Prop :=
  ∀ (A : Around) (outer : List Env) (s : Shared) (H : Hp) (args : Args) (us : List Value) (vs : List V) (Q : VK), A.guards = some [] → Room k A → Env0 P w K mg base A outer s H → BindsTo s fd args (ps.zip us) → Vals vs us → vs.length = ps.length → sp vs H Q E0 →
    codeAny (model P w) A (.call (.ref f) args) (fun r s' => ∃ u, r = .ok (.ret u) ∧ CE outer P w H s Q u s') s
theorem run_g {P : Program} {w : World} {K : PySem.W.Frag} {mg : Str → Option Value} {base : Heap} {x : Str} {st : Stmt} {f : Addr} {fd : FuncData} {N ps : List Str} {k : Nat} {sp : Sp} (F : Fun K x x st f fd) (S : FnScope N ps (defScope st))
    (b : ∀ (cdv : Value) (A : Around) (outer : List Env) (s : Shared) (H : Hp) (vs : List V) (Q : VK), (A.deeper (envOfC x (defScope st) s.heap.objs.size f cdv)).guards = some [] → Room k (A.deeper (envOfC x (defScope st) s.heap.objs.size f cdv)) → sp vs H Q E0 →
      ∃ t, PSs (cxOf CX0 P w K mg base N x (defScope st) f cdv A outer s H E0).nox (defBody st) t ∧ t { nx := fun _ H' => Q .non H', rt := Q } (start N vs) H) : RunG P w K mg base (k + 1) f fd ps sp := by
  obtain ⟨oc, od, kV, doc, pm, an, cdv, ct, osl, rfl, lk, hcd⟩ := F.ex
  intro A outer s H args us vs Q hg hr e0 hb r hl hsp
  have KX : K.In s.heap := e0.mod.kin.keeps fun c o e => (e0.bs c o e).1
  have nl : s.heap.NoLimit := e0.mod.nolimit.keeps fun c o e => (e0.bs c o e).1
  have kinds : ∀ z ∈ ps.zip us, (defScope st).names.lookup z.1 = some .local ∨ ((defScope st).names.lookup z.1 = some .cell ∧ ((cellsFrom (s.heap.objs.size + 1) (defScope st).names []).lookup z.1).isSome = true) := fun ⟨n, v⟩ hz => by
    rcases S.par n (List.of_mem_zip hz).1 with q | q
    · exact .inl q
    · exact .inr ⟨q, PySem.W.cellsFrom_some _ _ _ (.inl q)⟩
  refine codeAny_call_function hr.depth (KX _ _ lk) rfl S.co S.gen rfl (PySem.W.codeRec_of KX hcd) (hb _ _ _ _ ?_)
  refine wpAny_newFunctionEnv_cells S.kind kinds fun env he s1 y => ?_
  subst he
  refine ⟨nl.keeps y.toInCall.keep, codeAny_func ?_⟩
  obtain ⟨t, ht, hq⟩ := b cdv A outer s H vs Q hg (hr.deeper _) hsp
  have I := inv_start (CX := CX0) (P := P) (w := w) (qual := x) (f := f) (cd := cdv) (E := E0) S hr.hd e0 hl r y
  refine wpAny_mono (ht.nox.run [] s1 (start N vs) H _ I hq) (fun fl s' hs => ?_) (fun e s' hs => ?_)
  · cases fl with
    | ret u =>
      obtain ⟨v, σ', H', J, rv, q⟩ := hs
      exact ⟨u, rfl, v, H', J.os, J.bare, J.base, J.hok, rv, q⟩
    | next =>
      obtain ⟨σ', H', J, q⟩ := hs
      exact ⟨.none, rfl, .non, H', J.os, J.bare, J.base, J.hok, rfl, q⟩
    | brk =>
      obtain ⟨_, _, _, q⟩ := hs
      exact False.elim q
    | cont =>
      obtain ⟨_, _, _, q⟩ := hs
      exact False.elim q
  · exact wpAny_mono hs (fun _ _ z => False.elim z) fun _ _ z => False.elim z
/-- the law's call, at what the top has left -/
theorem end_g {P : Program} {w : World} {K : PySem.W.Frag} {mg mb : Str → Option Value} {k : Nat} {fa a : Addr} {fd : FuncData} {x : Str} {sp : Sp} {t : Shared} {vs : List Value} {ns : List Int}
    (KX : K.In t.heap) (g1 : t.heap.Ns mainGlobals mg) (g2 : t.heap.Ns builtinsNs mb) (g3 : ∀ y : Str, y ≠ "__name__" → mb y = bootBuiltins y) (g4 : t.heap.NoLimit) (g5 : t.gens = #[])
    (ha : t.heap.get? a = some { cls := .type "list", data := .seq vs.toArray }) (hi : IntsAre vs ns) (hl : ns.length ≤ sizeLine) (hr : Room k callerA)
    (F : ∀ base : Heap, K.In base → base.Ns mainGlobals mg → RunG P w K mg base k fa fd [x] sp) (hb : ∀ (s : Shared) (u : Value), BindsTo s fd ⟨[u], []⟩ [(x, u)])
    (hs : ∀ H : Hp, SqL K H a (ns.map V.int) → (∀ b, H b = none ∨ b = a) → sp [.ref a] H (fun v _ => v = .bl true) E0) :
    codeAny (model P w) callerA (.call (.ref fa) ⟨[.ref a], []⟩) (fun r s' => r = .ok (.ret (.bool true)) ∧ OldK t.heap s'.heap ∧ s'.os = t.os ∧ AllBare s'.gens) t := by
  have rv := vals_ints hi
  have lv := hi.length
  suffices core : ∀ H : Hp, SqL K H a (ns.map V.int) → HOk P w H t.heap → (∀ b, H b = none ∨ (b = a ∧ ∃ o us, H b = some (.frz o (.lst us)))) → (H a ≠ none → K.lookup a = none) →
      codeAny (model P w) callerA (.call (.ref fa) ⟨[.ref a], []⟩) (fun r s' => r = .ok (.ret (.bool true)) ∧ OldK t.heap s'.heap ∧ s'.os = t.os ∧ AllBare s'.gens) t by
    cases hk : K.lookup a with
    | some o =>
      have e := KX a o hk
      rw [ha] at e
      cases e
      exact core (fun _ => none) (.inr ⟨_, vs.toArray, _, hk, rfl, rfl, rfl, by rw [List.size_toArray, lv]; exact hl, by simpa using rv⟩) (fun b u z => by cases (show (none : Option HO) = some u from z)) (fun b => .inl rfl) fun z => absurd rfl z
    | none =>
      have at1 : ∀ b u, (if b = a then some (HO.frz { cls := .type "list", data := .seq vs.toArray } (.lst (ns.map V.int))) else none) = some u → b = a ∧ u = .frz { cls := .type "list", data := .seq vs.toArray } (.lst (ns.map V.int)) := fun b u z => by
        by_cases hba : b = a
        · rw [if_pos hba] at z
          exact ⟨hba, (Option.some.inj z).symm⟩
        · rw [if_neg hba] at z
          cases z
      refine core (fun b => if b = a then some (.frz { cls := .type "list", data := .seq vs.toArray } (.lst (ns.map V.int))) else none) (.inl (.inr ⟨{ cls := .type "list", data := .seq vs.toArray }, if_pos rfl⟩)) (fun b u z => ?_) (fun b => ?_) fun _ => hk
      · obtain ⟨rfl, rfl⟩ := at1 b u z
        exact ⟨ha, by rw [List.length_map]; exact hl, vs, _, rv, ha⟩
      · by_cases hba : b = a
        · exact .inr ⟨hba, _, _, if_pos hba⟩
        · exact .inl (if_neg hba)
  intro H hS hok hA hK
  have ex : ∀ {b : Addr} {u : HO}, H b = some u → b = a := fun {b u} e => by
    rcases hA b with z | ⟨z, _⟩
    · rw [e] at z
      cases z
    · exact z
  have off : ∀ {b : Addr} {o : Obj} {es : Array DictEntry} {ep : Nat}, t.heap.get? b = some o → o.data = .dict es ep → H b = none := fun {b o es ep} e d => by
    cases q : H b with
    | none => rfl
    | some u =>
      rw [ex q, ha] at e
      cases e
      cases (show Data.seq vs.toArray _ = Data.dict es ep from d)
  have ns : ∀ {b : Addr} {m : Str → Option Value}, t.heap.Ns b m → (hidT t.heap H).Ns b m := fun {b m} ⟨o, es, ep, e, d, r⟩ => ⟨o, es, ep, hidT_get e (off e d), d, r⟩
  have kin : K.In (hidT t.heap H) := fun b o e => hidT_get (KX b o e) (by
    cases q : H b with
    | none => rfl
    | some u =>
      have z := ex q
      subst z
      rw [hK (by rw [q]; exact fun y => by cases y)] at e
      cases e)
  have md : Mod K mg (hidT t.heap H) := ⟨kin, ns g1, ⟨mb, ns g2, g3⟩, let ⟨mc, y1, y2⟩ := g4; ⟨mc, ns y1, y2⟩⟩
  have e0 : Env0 P w K mg (hidT t.heap H) callerA [] t H := ⟨rfl, md, fun b o e => of_hidT e, Nat.le_of_eq (hidT_size _ _), trivial, fun b z => (by cases z), hok, .of_eq g5⟩
  refine codeAny_mono (F _ kin (ns g1) callerA [] t H ⟨[.ref a], []⟩ [.ref a] [.ref a] _ rfl hr e0 (hb t (.ref a)) (.cons rfl .nil) rfl (hs H hS fun b => (hA b).imp id fun z => z.1)) fun r s' h => ?_
  obtain ⟨u, rfl, v, H', os, bare, un, hok', r', q⟩ := h
  have q' : v = .bl true := q
  subst q'
  obtain rfl : u = Value.bool true := r'
  refine ⟨rfl, OldK.of_keep fun b o e => ?_, os, bare⟩
  rcases hA b with q | ⟨_, ob, us, q⟩
  · exact un.keep b o e q (by intro z; cases z) (by intro z; cases z)
  · obtain ⟨d1, _⟩ := hok b _ q
    obtain ⟨d2, _⟩ := hok' b _ (un.frzs b ob _ q)
    rw [e] at d1
    cases d1
    exact d2
/-- the goal that k_head leaves -/
theorem walk_g {l : PySem.W.OpenLaw} {n k : Nat} {q : Program} {loose : List Str} {XP : (Str → Option Value) → Heap → Prop} {YP : World → Heap → Prop} {d : DefRec} {K : Params → PySem.W.Frag} {sp : PySem.W.Frag → Sp} {x : Str}
    (hn : l.most = some n) (hn2 : n ≤ sizeLine) (hdf : d.params.defaults = []) (hr : Room k callerA) (hY : ∀ (w : World) (h : Heap), YP w h → (K w.params).In h)
    (F : ∀ (w : World) (mg : Str → Option Value) (fa : Addr) (h : Heap), (K w.params).In h → h.Ns mainGlobals mg → mg d.name = some (.ref fa) →
      ∃ fd : FuncData, (∀ (s : Shared) (u : Value), BindsTo s fd ⟨[u], []⟩ [(x, u)]) ∧ ∀ base : Heap, (K w.params).In base → base.Ns mainGlobals mg → RunG l.prog w (K w.params) mg base k fa fd [x] (sp (K w.params)))
    (hs : ∀ (K : PySem.W.Frag) (H : Hp) (a : Addr) (ns : List Int), ns.length ≤ n → SqL K H a (ns.map V.int) → (∀ b, H b = none ∨ b = a) → sp K [.ref a] H (fun v _ => v = .bl true) E0) :
    PySem.W.WalkO q loose XP YP l.row.toRowW d [] (fun f vs => PySem.call f vs) := by
  refine Att.attach_call hn hdf fun w s0 t mg mb fa o pm cd doc a vs ns G Y ho hd hcd hmg hobj hints hlen hg => ?_
  have KX := hY w _ Y
  obtain ⟨fd, hb, hF⟩ := F w mg fa _ KX G.T.g hmg
  exact end_g KX G.T.g G.T.b G.T.builtins G.T.nolimit hg hobj hints (Nat.le_trans hlen hn2) hr hF hb fun H h1 h2 => hs _ H a ns hlen h1 h2
end Fm
end FFmEnd
section FFmSeq
set_option Elab.async false
set_option linter.all false
set_option maxRecDepth 100000
set_option maxHeartbeats 4000000
namespace Fm
open PySem PySem.Spec PyProof.Rows L2 HT
theorem rev_adjust (n : Nat) : Builtin.Slice.sliceAdjust none none (-1) (n : Int) = ((n : Int) - 1, -1) := by
  unfold Builtin.Slice.sliceAdjust
  simp
theorem rev_places (n : Nat) : Builtin.Slice.slicePlaces ((n : Int) - 1) (-1) (-1) = n := by
  unfold Builtin.Slice.slicePlaces
  have h1 : ¬ ((-1 : Int) > 0) := by decide
  simp only [h1, if_false]
  have e : ((n : Int) - 1 - -1 - 1) / (- -1) = (n : Int) - 1 := by
    rw [show (- -1 : Int) = 1 by decide, Int.ediv_one]
    omega
  rw [e]
  split <;> omega
theorem fm_congr {α β : Type} {f g : α → Option β} : ∀ {l : List α}, (∀ x ∈ l, f x = g x) → l.filterMap f = l.filterMap g
  | [], _ => rfl
  | x :: r, h => by
    rw [List.filterMap_cons, List.filterMap_cons, h x List.mem_cons_self, fm_congr fun y hy => h y (List.mem_cons_of_mem _ hy)]
theorem rev_pick (xs : Array Value) : ((List.range xs.size).filterMap fun (m : Nat) => xs[((xs.size : Int) - 1 + (m : Int) * -1).toNat]?).toArray = xs.toList.reverse.toArray := by
  congr 1
  have h := PySem.W.krv_all xs
  rw [← h, ← List.filterMap_reverse, ← PySem.W.krv_range, List.filterMap_map]
  apply fm_congr
  intro m hm
  have := List.mem_range.mp hm
  have e : ((xs.size : Int) - 1 + (m : Int) * -1).toNat = xs.size - 1 - m := by omega
  rw [e]
  rfl
section
variable {prog : Program} {w : World} {A : Around} {E : Value → Shared → Prop} {s : Shared}
theorem rev_applied {sl : Addr} {vs : Value} {n : Nat} {Q : Int × Int × Nat → Shared → Prop} (hs : s.heap.IsSliceOf sl .none .none vs) (ps : IsPart vs (some (-1))) (h : Q ((n : Int) - 1, -1, n) s) :
    wpAny (model prog w) A (Builtin.Slice.sliceApplied (.ref sl) (pure (n : Int))) Q E s := by
  obtain ⟨os, hos, hcs, hds⟩ := id hs
  unfold Builtin.Slice.sliceApplied Builtin.Slice.sliceFields
  refine wpAny_bind (wpAny_bind (wpAny_field hos hds (x := .none) rfl (wpAny_bind (wpAny_field hos hds (x := .none) rfl (wpAny_bind (wpAny_field hos hds (x := vs) rfl (wpAny_pure ?_)))))))
  refine wpAny_bind (slicePart_ ps ?_)
  show wpAny _ _ (if ((-1 : Int) == 0) = true then _ else _) _ _ s
  rw [if_neg (by decide)]
  refine wpAny_bind (slicePart_none (wpAny_bind (slicePart_none (wpAny_bind (wpAny_pure ?_)))))
  show wpAny _ _ (match Builtin.Slice.sliceAdjust none none (-1) (n : Int) with | (lo, hi) => pure (lo, (-1 : Int), Builtin.Slice.slicePlaces lo hi (-1))) _ _ s
  rw [rev_adjust]
  show wpAny _ _ (pure ((n : Int) - 1, (-1 : Int), Builtin.Slice.slicePlaces ((n : Int) - 1) (-1) (-1))) _ _ s
  rw [rev_places]
  exact wpAny_pure h
theorem rev_item {t sl : Addr} {items : Array Value} {vs : Value} {Q : Value → Shared → Prop} (ht : IsTup s.heap t items) (hs : s.heap.IsSliceOf sl .none .none vs) (ps : IsPart vs (some (-1)))
    (h : Q (.ref s.heap.objs.size) { s with heap := s.heap.push { cls := .type "tuple", data := .seq items.toList.reverse.toArray } }) (hsz : items.size ≤ sizeLine) : wpAny (model prog w) A (getItem (.ref t) (.ref sl)) Q E s := by
  have ok : sizeOk (.seq items.toList.reverse.toArray) := by
    show items.toList.reverse.toArray.size ≤ sizeLine
    rw [List.size_toArray, List.length_reverse, Array.length_toList]
    exact hsz
  obtain ⟨os, hos, hcs, hds⟩ := id hs
  have tS : s.TypeIs (.ref sl) "slice" := ⟨os, hos, hcs⟩
  unfold getItem
  try with_reducible refine wpAny_holding ?_
  first | refine wpAny_bind (wpAny_pure ?_) | skip
  refine wpAny_bind (wpAny_sequenceKey ht.typeIs (by decide) ?_)
  refine wpAny_bind (wpAny_callSpecial?_slot (name := Str.ofString "__getitem__") ht.typeIs PyProof.Rows.slot_tuple_getitem
    (wpAny_call_entry PyProof.Rows.slot_tuple_getitem ht.typeIs entry_tuple_getitem ?_ (args_tuple_getitem _ _)))
  show wpAny _ _ (Builtin.Tuple.tupleItemsOf (.ref t) >>= _) _ _ s
  refine wpAny_bind (tupleItemsOf_ ht (wpAny_bind (wpAny_typeOf tS ?_)))
  rw [if_pos (by decide)]
  refine wpAny_bind (rev_applied hs ps ?_)
  have no : ¬ ((((items.size : Int) - 1) == 0 && (-1 : Int) == 1 && items.size == items.size) = true) := by
    rw [show ((-1 : Int) == 1) = false by decide, Bool.and_false, Bool.false_and]
    exact Bool.false_ne_true
  show wpAny _ _ (if (((items.size : Int) - 1) == 0 && (-1 : Int) == 1 && items.size == items.size) = true then _ else _) _ _ s
  rw [if_neg no, rev_pick]
  first
    | exact wpAny_bind (m := Builtin.Tuple.tupleExact _) (wpAny_newObj_type (wpAny_pure ⟨_, rfl, wpAny_pure h⟩) ok)
    | exact wpAny_bind (m := Builtin.Tuple.tupleExact _) (wpAny_newObj_type (wpAny_bind (wpAny_pure (wpAny_pure ⟨_, rfl, wpAny_pure h⟩))) ok)
    | exact wpAny_bind (wpAny_bind (m := Builtin.Tuple.tupleExact _) (wpAny_newObj_type (wpAny_pure (wpAny_pure ⟨_, rfl, wpAny_pure h⟩)) ok))
    | exact wpAny_bind (wpAny_bind (m := Builtin.Tuple.tupleExact _) (wpAny_newObj_type (wpAny_pure ⟨_, rfl, wpAny_pure h⟩) ok))
end
/-- t[::-1], a tuple -/
def tRevT (K : PySem.W.Frag) (te : TE) : TE := fun σ H Q => te σ H fun x H1 => ∃ a xs, x = .ref a ∧ SqT K H1 a xs ∧ ∀ p, H1 p = none → Q (.ref p) (upd H1 p (.tup xs.reverse))
theorem pe_REV {X : Cx} {e : Expr} {te : TE} {k : Nat} {p1 p2 p3 pos : Pos} (he : PE X e te) : PE X (.Subscript e (.Slice none none (some (.UnaryOp .USub (.Constant (.int 1) k p1) p2)) p3) pos) (tRevT X.K te) := by
  refine ⟨fun pins s σ H Q I h => ?_⟩
  refine Subscript_ (thn (he.run pins s σ H _ I h) fun v s1 ⟨x, H1, I1, r1, q1⟩ => ?_)
  obtain ⟨a, xs, ex, hx, q⟩ := q1
  subst ex
  cases r1
  have st : PO X (some (.UnaryOp .USub (.Constant (.int 1) k p1) p2)) (tPart (tUn (rU fun i => .int (-i)) (tC (.int 1)))) := po_some (pe_un un_neg pe_int)
  refine wpAny_Slice (thn (po_none.run pins s1 σ H1 (fun o H2 => o = none ∧ H2 = H1) I1 ⟨rfl, rfl⟩) fun vl s2 ⟨l, H2, I2, pl, el, e2⟩ => ?_)
  subst el e2
  refine thn (po_none.run pins s2 σ H2 (fun o H3 => o = none ∧ H3 = H2) I2 ⟨rfl, rfl⟩) fun vu s3 ⟨u, H3, I3, pu, eu, e3⟩ => ?_
  subst eu e3
  refine thn (st.run pins s3 σ H3 (fun o H4 => o = some (-1) ∧ H4 = H3) I3 ⟨1, rfl, -1, rfl, rfl, rfl⟩) fun vs s4 ⟨o, H4, I4, ps, eo, e4⟩ => ?_
  subst eo e4
  have I5 : Inv X pins σ H4 { s4 with heap := s4.heap.push { cls := .type "slice", data := .fields #[vl, vu, vs] } } := I4.kept (t' := s4.toks) fun b ob q => Heap.get?_push_of_some _ q
  obtain ⟨its, r, ht, hz⟩ := I5.tuple hx
  cases pl
  cases pu
  show wpAny (model X.prog X.w) X.A (subscriptTail e (.Slice none none (some (.UnaryOp .USub (.Constant (.int 1) k p1) p2)) p3) (.ref a) (.ref s4.heap.objs.size)) (EP X pins σ Q) X.xe { s4 with heap := s4.heap.push { cls := .type "slice", data := .fields #[.none, .none, vs] } }
  refine tail_any (ops := [.ref a, .ref s4.heap.objs.size]) ht.typeIs (PyProof.Rows.slot_tuple_getitem.lookup) ?_ (by with_unfolding_all rfl)
  refine rev_item ht (Heap.IsSliceOf.new _ .none .none vs) ps ?_ (by rw [List.size_toArray, ← r.length]; exact hz)
  refine ⟨.ref _, _, I5.laid (t' := s4.toks) (o := .tup xs.reverse) (fun b ob q => Heap.get?_push_of_some _ q) (Nat.le_refl _) ?_, rfl, q _ (I5.hok.fresh (Nat.le_refl _))⟩
  exact ⟨by rw [List.length_reverse]; exact hz, _, r.reverse, IsTup.new _ _⟩
/-- a tuple once -/
theorem once_meets (l : Addr) (items : Array Value) (n : Nat) (dd : Option Addr) (sl : Array (Option Value)) (u : Tok) :
    Meets (Builtin.«tuple.__mul__» ⟨[.ref l, .int 1 u], []⟩) (fun _ R s => s.heap.get? l = some { cls := .type "tuple", dict := dd, data := .seq items n, slots := sl } ∧ R (.ok (.ret (.ref l))) s) :=
  .of_wp fun prog w A R s h => by
    obtain ⟨hp, g, d, tk, os⟩ := s
    obtain ⟨hl, h⟩ := h
    have f1 := AutoSeq1.idx_int
    have c1 : (items.isEmpty || (1 : Int) == 1) = true := by simp
    wp_walk using wpAny_loadPart' hl
    repeat (first
      | (refine wpAny_ite_true (decide_eq_true c1) ?_; wp_walk using wpAny_loadPart' hl)
      | (refine wpAny_ite_true c1 ?_; wp_walk using wpAny_loadPart' hl))
    exact ⟨_, rfl, h⟩
def rOnce (K : PySem.W.Frag) : R2 := fun x y H Q => ∃ l xs, x = .ref l ∧ y = .int 1 ∧ SqT K H l xs ∧ Q (.ref l) H
theorem op_once {X : Cx} : OpR X (binaryOp .Mult) (rOnce X.K) := by
  intro pins s σ H x y v u Q I rx ry h
  obtain ⟨l, xs, rfl, rfl, hT, q⟩ := h
  cases rx
  obtain ⟨t, rfl⟩ := ry
  obtain ⟨its, r, ⟨⟨cls, dd, data, sl⟩, ho, hc, n, hd⟩, hs⟩ := I.tuple hT
  simp only at hc hd
  subst hc hd
  refine wpAny_binaryOp_repeat_ref (T := "tuple") (U := "int") (by decide) ⟨_, ho, rfl⟩ (fun s' => typeIs_int s' 1 t) noFill_tuple_mul F.fills_int_mul F.slot_int_rmul repeat_tuple F.slot_int_index.lookup
    (call_meets F.slot_int_rmul (typeIs_int s 1 t) F.entry_int_rmul (F.args_int_rmul_2 _ _) (int_rmul_tuple 1 t l its.toArray n dd sl)
      ⟨ho, rfl, ⟨_, ho, rfl⟩, call_meets F.slot_tuple_mul ⟨_, ho, rfl⟩ F.entry_tuple_mul (F.args_tuple_mul_2 _ _) (once_meets l its.toArray n dd sl t) ⟨ho, ⟨.ref l, H, I, rfl, q⟩⟩⟩)
/-- t * k, k one or more -/
def rTimes (K : PySem.W.Frag) : R2 := fun x y H Q => rOnce K x y H Q ∨ rRepT K x y H Q
theorem op_times {X : Cx} : OpR X (binaryOp .Mult) (rTimes X.K) := op_once.or op_repT
def rLenS (K : PySem.W.Frag) : List V → Hp → VK → Prop := fun xs H Q => ∃ p ys, xs = [.ref p] ∧ (SqL K H p ys ∨ SqT K H p ys) ∧ Q (.int ys.length) H
theorem call_lenS {X : Cx} : CallR X (.builtin "len") (rLenS X.K) := call_len_seq
def rTupOf (K : PySem.W.Frag) : List V → Hp → VK → Prop := fun xs H Q => ∃ p ys, xs = [.ref p] ∧ ((SqL K H p ys ∧ ∀ l, H l = none → Q (.ref l) (upd H l (.tup ys))) ∨ (SqT K H p ys ∧ Q (.ref p) H))
theorem call_tupOf {X : Cx} : CallR X (.type "tuple") (rTupOf X.K) := call_tuple_of
def rLstOf (K : PySem.W.Frag) : List V → Hp → VK → Prop := fun xs H Q => ∃ p ys, xs = [.ref p] ∧ (SqL K H p ys ∨ SqT K H p ys) ∧ ∀ l, H l = none → Q (.ref l) (upd H l (.lst ys))
theorem call_lstOf {X : Cx} : CallR X (.type "list") (rLstOf X.K) := call_list_of
end Fm
end FFmSeq
section FFmFrame
set_option Elab.async false
set_option linter.all false
set_option maxRecDepth 100000
namespace Fm
open PySem PySem.Spec PyProof.Rows L2
/-- what is tracked, but B -/
def del (H : Hp) (B : Addr) : Hp := fun b => if b = B then none else H b
theorem del_self {H : Hp} {B : Addr} : del H B B = none := if_pos rfl
theorem del_ne {H : Hp} {B b : Addr} (h : b ≠ B) : del H B b = H b := if_neg h
theorem del_sub {H : Hp} {B b : Addr} {o : HO} (h : del H B b = some o) : b ≠ B ∧ H b = some o := by
  by_cases e : b = B
  · subst e
    rw [del_self] at h
    cases h
  · rw [del_ne e] at h
    exact ⟨e, h⟩
theorem del_none {H : Hp} {B b : Addr} (h : H b = none) : del H B b = none := by
  by_cases e : b = B
  · subst e
    exact del_self
  · rw [del_ne e]
    exact h
theorem del_upd {H : Hp} {B : Addr} {o o' : HO} (h : H B = none) : del (upd (upd H B o) B o') B = H := by
  funext b
  by_cases e : b = B
  · subst e
    rw [del_self, h]
  · rw [del_ne e, upd_ne e, upd_ne e]
theorem del_new {H : Hp} {B : Addr} {o : HO} (h : H B = none) : del (upd H B o) B = H := by
  funext b
  by_cases e : b = B
  · subst e
    rw [del_self, h]
  · rw [del_ne e, upd_ne e]
theorem same_del {H : Hp} {B : Addr} : Same (del H B) H := fun b o e => (del_sub e).2
/-- a promise, with a list set aside -/
def spFr (sp : Sp) : Sp := fun vs H Q E => ∃ (B : Addr) (xs : List V), H B = some (.lst xs) ∧ sp vs (del H B) (fun v H' => H' B = none → Q v (upd H' B (.lst xs))) E
theorem frame_fn {P : Program} {w : World} {K : PySem.W.Frag} {mg : Str → Option Value} {base : Heap} {k : Nat} {f : Addr} {fd : FuncData} {ps : List Str} {sp : Sp} (F : FnOk P w K mg base CX0 k f fd ps sp) : FnOk P w K mg base CX0 k f fd ps (spFr sp) := by
  refine ⟨fun vs H Q E ⟨B, xs, _, h⟩ => F.len _ _ _ _ h, fun A outer s H args us vs Q E hr e0 hb hv h => ?_⟩
  obtain ⟨B, xs, hB, h⟩ := h
  have nf : B ∉ frs outer := fun z => by
    have q := e0.frf B z
    rw [hB] at q
    cases q
  have tupB : ∀ b ys, H b = some (.tup ys) → b ≠ B := fun b ys z q => by
    rw [q, hB] at z
    cases z
  have hok : HOk P w (del H B) s.heap := fun b o e => by
    obtain ⟨ne, e⟩ := del_sub e
    refine (e0.hok b o e).stay (fun _ _ _ q => q) (fun c z => ?_) fun c ys z => ?_
    · rw [del_ne fun q => by rw [q, hB] at z; cases z]
      exact z
    · rw [del_ne (tupB c ys z)]
      exact z
  have e1 : Env0 P w K mg base A outer s (del H B) := ⟨e0.frames, e0.mod, fun b o e => ⟨(e0.bs b o e).1, del_none (e0.bs b o e).2⟩, e0.bsz, e0.funs, fun b hb => del_none (e0.frf b hb), hok, e0.bare⟩
  refine codeAny_mono (F.run A outer s (del H B) args us vs _ E hr e1 hb hv h) fun r s' hq => ?_
  match r, hq with
  | .ok (.ret u), hq =>
    obtain ⟨v, H', os, bare, un, hok', rv, q⟩ := hq
    obtain ⟨hz, its, n, rits, eB⟩ := (show ObjOk P w H s.heap B (.lst xs) from e0.hok B _ hB)
    have fB : H' B = none := un.free B _ eB del_self (by intro z; cases z)
    have kB := un.keep B _ eB del_self nf (by intro z; cases z)
    refine ⟨v, upd H' B (.lst xs), os, bare, ?_, ?_, rv, q fB⟩
    · have nB : ∀ b, H b = none → b ≠ B := fun b z q => by
        rw [q, hB] at z
        cases z
      exact {
        keep := fun b o e z => un.keep b o e (del_none z)
        slot := fun b o e z => un.slot b o e (del_none z)
        free := fun b o e z x => by rw [upd_ne (nB b z)]; exact un.free b o e (del_none z) x
        there := un.there
        tups := fun b ys z => by rw [upd_ne (tupB b ys z)]; exact un.tups b ys (by rw [del_ne (tupB b ys z)]; exact z)
        frzs := fun b o u z => by
          have ne : b ≠ B := fun q => by rw [q, hB] at z; cases z
          rw [upd_ne ne]
          exact un.frzs b o u (by rw [del_ne ne]; exact z)
        tbls := fun b ps z => by
          have ne : b ≠ B := fun q => by rw [q, hB] at z; cases z
          rw [upd_ne ne]
          exact un.tbls b ps (by rw [del_ne ne]; exact z) }
    · intro b o e
      by_cases hb : b = B
      · subst hb
        rw [upd_same] at e
        cases e
        exact ⟨hz, its, n, rits, kB⟩
      · rw [upd_ne hb] at e
        refine (hok' b o e).stay (fun _ _ _ q => q) (fun c z => ?_) fun c ys z => ?_
        · rw [upd_ne (ne_of_none z fB)]
          exact z
        · rw [upd_ne (ne_of_none z fB)]
          exact z
  | .error e, hq => exact hq.elim
theorem CallOk.frame {P : Program} {w : World} {K : PySem.W.Frag} {mg : Str → Option Value} {base : Heap} {k : Nat} {x : Str} {ps : List Str} {sp : Sp} (c : CallOk P w K mg base CX0 k x ps sp) : CallOk P w K mg base CX0 k x ps (spFr sp) := by
  obtain ⟨f, fd, F, r⟩ := c
  exact ⟨f, fd, frame_fn F, r⟩
theorem Dat.del {H : Hp} {p R : Addr} {xs : List V} {v : V} {d : PyData} (hR : H R = some (.lst xs)) (h : Dat H p v d) : noList d = true → Dat (del H R) p v d := by
  have ne : ∀ {a : Addr} {o : HO}, H a = some o → (∀ ys, o ≠ .lst ys) → a ≠ R := fun {a o} e n z => by
    rw [z, hR] at e
    exact n xs (Option.some.inj e).symm
  induction h with
  | non => exact fun _ => .non
  | bl b => exact fun _ => .bl b
  | int i => exact fun _ => .int i
  | str x => exact fun _ => .str x
  | tup h1 h2 h3 h4 ih => exact fun hn => .tup (by rw [del_ne (ne h1 fun ys z => by cases z)]; exact h1) h2 h3 fun i x d a b => ih i x d a b (noList_tup hn d (List.mem_of_getElem? b))
  | lst h1 h2 h3 h4 ih => exact fun hn => by unfold noList at hn; cases hn
  | dct h1 h2 => exact fun _ => .dct (by rw [del_ne (ne h1 fun ys z => by cases z)]; exact h1) h2
end Fm
end FFmFrame
section FQ1
set_option Elab.async false
set_option linter.all false
set_option maxRecDepth 100000
set_option maxHeartbeats 4000000
local macro_rules | `(tactic| walk_at "ne") => `(tactic| first | assumption | (apply Ne.symm; assumption) | exact L2.ne_of_none (by assumption) (by assumption) | exact Ne.symm (L2.ne_of_none (by assumption) (by assumption)))
local macro_rules | `(tactic| walk_at "hl") => `(tactic| first | assumption | exact L2.upd_same | (refine Eq.trans (L2.upd_ne (by walk_at "ne")) ?_; walk_at "hl"))
local macro_rules | `(tactic| walk_at "sd") => `(tactic| first | (with_reducible show (_ : Int) < _; omega) | (with_reducible show (_ : Int) ≤ _; omega) | assumption | decide | exact ⟨by assumption, by assumption⟩ | exact ⟨by decide, by decide⟩ | exact Or.inr ⟨by decide, by decide⟩ | exact Or.inl ⟨by omega, by omega⟩)
local macro_rules | `(tactic| walk_at "st1") => `(tactic| first
  | refine ⟨_, rfl, ?_⟩
  | refine ⟨_, _, rfl, rfl, ?_⟩
  | refine ⟨_, _, rfl, ?_⟩
  | (refine ⟨_, _, _, _, rfl, rfl, L2.SqL.of (by walk_at "hl"), rfl, ?_⟩)
  | (refine ⟨_, _, _, _, rfl, rfl, L2.SqT.of (by walk_at "hl"), rfl, ?_⟩)
  | (refine ⟨_, _, _, _, rfl, rfl, (by walk_at "hl"), rfl, ?_⟩)
  | (refine And.intro (by walk_at "sd") ?_)
  )
local macro_rules | `(tactic| walk_at "st") => `(tactic| repeat walk_at "st1")
local macro_rules | `(tactic| walk_at "op") => `(tactic| try dsimp only [L2.tSeq, L2.tAsg, L2.tOp, L2.tVar, L2.tC, L2.gSub, L2.rI, L2.rI0, L2.rIxL, L2.rIxT, L2.rSetL, L2.tIfS, L2.tTest, L2.tRet, L2.gName, L2.tNext, L2.tAnd, L2.tOr, L2.tNot, L2.tAndV, L2.tOrV, L2.tNotV, L2.tB, L2.tCB, L2.tCons, L2.tNil, L2.tCall, L2.tTup, L2.tLst, L2.tChain, L2.tUn, L2.tPar, L2.tDrop, L2.tIf, L2.tBM, L2.tBM0, L2.rAppend, L2.rCat, L2.rCatA, L2.rRepT, L2.rIsi, L2.rIsiT, L2.gTup, L2.gCons, L2.gNil, Fm.tFor_eq, Fm.tLc_eq, L2.iTup, L2.iList, L2.iRng1, L2.iRng2, L2.tSl, L2.tPart, L2.tNoPart, L2.rSlA, L2.rSlL, L2.rEq, L2.rNe, L2.rU, L2.rSlT, L2.rEqD, L2.rNeD, Fm.tRevT, Fm.rTimes, Fm.rLenS, Fm.rTupOf, Fm.rLstOf, Fm.rOnce, L2.tDNewK, L2.tCallS, L2.WE, Fm.wKeep, Fm.rIsK, Fm.rIsKT, List.cons_append, List.nil_append, L2.tYes])
namespace Fm
open PySem PySem.Spec PyProof.Rows L2
def top (i : Nat) : Stmt := PySem.Challenge.pw_floormeet_k01_what_a_house_is.main.body.getD i (.Pass ⟨0, 0, 0, 0⟩)
abbrev s_is_whole : Stmt := top 1
abbrev N_is_whole : List Str := ["thing"]
theorem sc_is_whole : FnScope N_is_whole ["thing"] (defScope s_is_whole) := ⟨rfl, rfl, rfl, by decide +kernel, rfl, by decide +kernel, by decide +kernel⟩
abbrev s_is_up_to : Stmt := top 2
abbrev N_is_up_to : List Str := ["thing", "most"]
theorem sc_is_up_to : FnScope N_is_up_to ["thing", "most"] (defScope s_is_up_to) := ⟨rfl, rfl, rfl, by decide +kernel, rfl, by decide +kernel, by decide +kernel⟩
abbrev s_is_tuple_of : Stmt := top 3
abbrev N_is_tuple_of : List Str := ["thing", "many"]
theorem sc_is_tuple_of : FnScope N_is_tuple_of ["thing", "many"] (defScope s_is_tuple_of) := ⟨rfl, rfl, rfl, by decide +kernel, rfl, by decide +kernel, by decide +kernel⟩
abbrev s_are_up_to : Stmt := top 4
abbrev N_are_up_to : List Str := ["thing", "many", "most", "number"]
theorem sc_are_up_to : FnScope N_are_up_to ["thing", "many", "most"] (defScope s_are_up_to) := ⟨rfl, rfl, rfl, by decide +kernel, rfl, by decide +kernel, by decide +kernel⟩
section
variable {P : Program} {w : World} {K : PySem.W.Frag} {mg : Str → Option Value} {base : Heap}
theorem ok_is_whole (D : Df K mg "is_whole" s_is_whole ["thing"]) (T : Nms mg) : CallOk P w K mg base CX0 1 "is_whole" ["thing"] spWhole := by
  refine df_ok D sc_is_whole (fun vs H Q E h => ?_) (fun f cdv A outer s H vs Q E hr h => ?_)
  · obtain ⟨v, p, d, rfl, _⟩ := h
    rfl
  · obtain ⟨v, p, d, rfl, hd, k⟩ := h
    have nd := sc_is_whole.nd
    refine ⟨_, (pss_one (ps_ret (pe_and (pe_callB (r := rIsi K) call_isi (by rfl) T.n_isinstance (by decide +kernel) (pa_cons (pv 0) (pa_cons (pe_bltn (v := .ty "int") (by rfl) T.n_int (by decide +kernel) rfl) pa_nil))) (pe_one (pe_not (pe_callB (r := rIsi K) call_isi (by rfl) T.n_isinstance (by decide +kernel) (pa_cons (pv 0) (pa_cons (pe_bltn (v := .ty "bool") (by rfl) T.n_bool (by decide +kernel) rfl) pa_nil)))))))), ?_⟩
    walk_at "op"
    walk_at "st"
    refine ⟨_, _, _, _, _, rfl, .ty _, hd.ty, kit_ty (kit_int d), ?_⟩
    walk_at "st"
    refine ite2 (fun c1 => ?_) (fun c1 => ?_)
    · walk_at "st"
      refine ⟨_, _, _, _, _, rfl, .ty _, hd.ty, kit_ty (kit_bool d), ?_⟩
      walk_at "st"
      refine k _ ?_
      cases d <;> simp_all [isI, isB]
    · refine k _ ?_
      cases d <;> simp_all [isI, isB]
theorem ok_is_up_to (D : Df K mg "is_up_to" s_is_up_to ["thing", "most"]) (T : Nms mg) (c_is_whole : CallOk P w K mg base CX0 1 "is_whole" ["thing"] spWhole) : CallOk P w K mg base CX0 2 "is_up_to" ["thing", "most"] spUpTo := by
  refine df_ok D sc_is_up_to (fun vs H Q E h => ?_) (fun f cdv A outer s H vs Q E hr h => ?_)
  · obtain ⟨v, mv, p, d, rfl, _⟩ := h
    rfl
  · obtain ⟨v, mv, p, d, rfl, hd, hm, k⟩ := h
    have nd := sc_is_up_to.nd
    refine ⟨_, (pss_cons (ps_if (PW.pt (pw_or (pt_not (pt_val (pe_cc c_is_whole (hr.mono (by decide)) (pa_cons (pv 0) pa_nil)))) (pw_or1 (pt_cmpR op_lt (pv 0) pe_int (nomark _))))) (pss_one (ps_ret pe_bl)) pss_nil)
      (pss_one (ps_ret (pe_or (pe_cmpR op_isN (pv 1) pe_non (nomark _)) (pe_one (pe_cmpR op_le (pv 0) (pv 1) (nomark _))))))), ?_⟩
    walk_at "op"
    walk_at "st"
    refine ⟨v, p, d, rfl, hd, fun b hb => ?_⟩
    walk_at "st"
    cases b with
    | false =>
      refine iteT (iteT (k false ⟨fun z => Bool.noConfusion z, fun ⟨i, e, _⟩ => hb.mpr ⟨i, e⟩⟩))
    | true =>
      obtain ⟨i, rfl⟩ := hb.mp rfl
      obtain rfl := hd.isInt
      refine iteF ?_
      walk_at "st"
      refine ite2 (fun c0 => ?_) (fun c0 => ?_)
      · refine k false ⟨fun z => Bool.noConfusion z, fun ⟨j, e, h0, _⟩ => ?_⟩
        cases e
        have := of_decide_eq_true c0
        omega
      · have c1 : 0 ≤ i := by
          have := of_decide_eq_false (Bool.eq_false_iff.mpr c0)
          omega
        walk_at "st"
        rcases hm with rfl | ⟨M, rfl⟩
        · refine iteT (k true ⟨fun _ => ⟨i, rfl, c1, fun M z => by cases z⟩, fun _ => rfl⟩)
        · refine iteF ?_
          walk_at "st"
          refine k _ ⟨fun z => ⟨i, rfl, c1, fun N e => ?_⟩, fun ⟨j, e, _, hM⟩ => ?_⟩
          · cases e
            exact of_decide_eq_true z
          · cases e
            exact decide_eq_true (hM M rfl)
theorem ok_is_tuple_of (D : Df K mg "is_tuple_of" s_is_tuple_of ["thing", "many"]) (T : Nms mg) : CallOk P w K mg base CX0 1 "is_tuple_of" ["thing", "many"] spTupOf := by
  refine df_ok D sc_is_tuple_of (fun vs H Q E h => ?_) (fun f cdv A outer s H vs Q E hr h => ?_)
  · obtain ⟨v, n, p, d, rfl, _⟩ := h
    rfl
  · obtain ⟨v, n, p, d, rfl, hd, k⟩ := h
    have nd := sc_is_tuple_of.nd
    refine ⟨_, (pss_one (ps_ret (pe_and (pe_callB (r := rIsi K) call_isi (by rfl) T.n_isinstance (by decide +kernel) (pa_cons (pv 0) (pa_cons (pe_bltn (v := .ty "tuple") (by rfl) T.n_tuple (by decide +kernel) rfl) pa_nil))) (pe_one (pe_cmpR op_eq (pe_callB (r := rLenS K) call_lenS (by rfl) T.n_len (by decide +kernel) (pa_cons (pv 0) pa_nil)) (pv 1) (nomark _)))))), ?_⟩
    walk_at "op"
    walk_at "st"
    refine ⟨_, _, _, _, _, rfl, .ty _, hd.ty, kit_ty (kit_tuple d), ?_⟩
    walk_at "st"
    refine ite2 (fun c1 => ?_) (fun c1 => ?_)
    · obtain ⟨ds, rfl⟩ := isTu_iff.mp c1
      obtain ⟨a, xs, rfl, ha, _, hs⟩ := hd.isTup
      walk_at "st"
      refine ⟨_, _, rfl, .inr (SqT.of ha), ?_⟩
      walk_at "st"
      refine k _ ⟨fun z => ⟨ds, rfl, ?_⟩, fun ⟨es, e, z⟩ => ?_⟩
      · have := of_decide_eq_true z
        cases this
        rw [hs.1]
      · cases e
        rw [← hs.1] at z
        exact decide_eq_true (by rw [z])
    · exact k false ⟨fun z => Bool.noConfusion z, fun ⟨ds, e, _⟩ => absurd (isTu_iff.mpr ⟨ds, e⟩) c1⟩
theorem ok_are_up_to (D : Df K mg "are_up_to" s_are_up_to ["thing", "many", "most"]) (T : Nms mg) (c_is_tuple_of : CallOk P w K mg base CX0 1 "is_tuple_of" ["thing", "many"] spTupOf)
    (c_is_up_to : CallOk P w K mg base CX0 2 "is_up_to" ["thing", "most"] spUpTo) : CallOk P w K mg base CX0 3 "are_up_to" ["thing", "many", "most"] spAre := by
  refine df_ok D sc_are_up_to (fun vs H Q E h => ?_) (fun f cdv A outer s H vs Q E hr h => ?_)
  · obtain ⟨v, mv, n, p, d, rfl, _⟩ := h
    rfl
  · obtain ⟨v, mv, n, p, d, rfl, hd, hm, k⟩ := h
    have nd := sc_are_up_to.nd
    refine ⟨_, (pss_cons (ps_if (pt_not (pt_val (pe_cc c_is_tuple_of (hr.mono (by decide)) (pa_cons (pv 0) (pa_cons (pv 1) pa_nil))))) (pss_one (ps_ret pe_bl)) pss_nil)
      (pss_cons (ps_for PassesOwn.never rfl (pi_tup (pv 0)) (pg_name (i := 3) nd rfl (Or.inl rfl)) (pss_one (ps_if (pt_not (pt_val (pe_cc c_is_up_to (hr.mono (by decide)) (pa_cons (pv 3) (pa_cons (pv 2) pa_nil))))) (pss_one (ps_ret pe_bl)) pss_nil)))
      (pss_one (ps_ret pe_bl)))), ?_⟩
    walk_at "op"
    walk_at "st"
    refine ⟨v, n, p, d, rfl, hd, fun b hb => ?_⟩
    walk_at "st"
    cases b with
    | false =>
      refine iteT (k false ⟨fun z => Bool.noConfusion z, fun ⟨ds, e, hl, _⟩ => hb.mpr ⟨ds, e, hl⟩⟩)
    | true =>
      obtain ⟨ds, rfl, hl⟩ := hb.mp rfl
      obtain ⟨a, xs, rfl, ha, _, hs⟩ := hd.isTup
      refine iteF ?_
      walk_at "st"
      refine ⟨⟨_, SqT.of ha⟩, fT (xs := xs) (fun i σ H' => H' = H ∧ (∃ u, σ = [some (.ref a), some (.int n), some mv, u]) ∧ ∀ j e, j < i → ds[j]? = some e → UpTo mv e)
        ⟨rfl, ⟨none, rfl⟩, fun j e hj => absurd hj (Nat.not_lt_zero j)⟩ (fun i σ H' _ ⟨e, _⟩ => by rw [e]; exact SqT.of ha) ?_ ?_⟩
      · rintro i x σ H' hx ⟨rfl, ⟨u, rfl⟩, hi⟩
        obtain ⟨e, he, hde⟩ := hs.at hx
        walk_at "op"
        walk_at "st"
        refine ⟨x, mv, p, e, rfl, hde, hm, fun b hb => ?_⟩
        walk_at "st"
        cases b with
        | false =>
          refine iteT (k false ⟨fun z => Bool.noConfusion z, fun ⟨es, e1, _, h2⟩ => ?_⟩)
          cases e1
          exact hb.mpr (h2 e (List.mem_of_getElem? he))
        | true =>
          refine iteF ⟨rfl, ⟨_, rfl⟩, fun j e' hj he' => ?_⟩
          by_cases hji : j = i
          · subst hji
            rw [he] at he'
            cases he'
            exact hb.mp rfl
          · exact hi j e' (by omega) he'
      · rintro σ H' ⟨rfl, _, hi⟩
        walk_at "op"
        refine k true ⟨fun _ => ⟨ds, rfl, hl, fun e he => ?_⟩, fun _ => rfl⟩
        obtain ⟨j, hj⟩ := List.getElem?_of_mem he
        exact hi j e (by rw [hs.1]; exact (List.getElem?_eq_some_iff.mp hj).1) hj
end
end Fm
end FQ1
section FQ2
set_option Elab.async false
set_option linter.all false
set_option maxRecDepth 100000
set_option maxHeartbeats 4000000
local macro_rules | `(tactic| walk_at "ne") => `(tactic| first | assumption | (apply Ne.symm; assumption) | exact L2.ne_of_none (by assumption) (by assumption) | exact Ne.symm (L2.ne_of_none (by assumption) (by assumption)))
local macro_rules | `(tactic| walk_at "hl") => `(tactic| first | assumption | exact L2.upd_same | (refine Eq.trans (L2.upd_ne (by walk_at "ne")) ?_; walk_at "hl"))
local macro_rules | `(tactic| walk_at "sd") => `(tactic| first | (with_reducible show (_ : Int) < _; omega) | (with_reducible show (_ : Int) ≤ _; omega) | assumption | decide | exact ⟨by assumption, by assumption⟩ | exact ⟨by decide, by decide⟩ | exact Or.inr ⟨by decide, by decide⟩ | exact Or.inl ⟨by omega, by omega⟩)
local macro_rules | `(tactic| walk_at "st1") => `(tactic| first
  | refine ⟨_, rfl, ?_⟩
  | refine ⟨_, _, rfl, rfl, ?_⟩
  | refine ⟨_, _, rfl, ?_⟩
  | (refine ⟨_, _, _, _, rfl, rfl, L2.SqL.of (by walk_at "hl"), rfl, ?_⟩)
  | (refine ⟨_, _, _, _, rfl, rfl, L2.SqT.of (by walk_at "hl"), rfl, ?_⟩)
  | (refine ⟨_, _, _, _, rfl, rfl, (by walk_at "hl"), rfl, ?_⟩)
  | (refine And.intro (by walk_at "sd") ?_)
  )
local macro_rules | `(tactic| walk_at "st") => `(tactic| repeat walk_at "st1")
local macro_rules | `(tactic| walk_at "op") => `(tactic| try dsimp only [L2.tSeq, L2.tAsg, L2.tOp, L2.tVar, L2.tC, L2.gSub, L2.rI, L2.rI0, L2.rIxL, L2.rIxT, L2.rSetL, L2.tIfS, L2.tTest, L2.tRet, L2.gName, L2.tNext, L2.tAnd, L2.tOr, L2.tNot, L2.tAndV, L2.tOrV, L2.tNotV, L2.tB, L2.tCB, L2.tCons, L2.tNil, L2.tCall, L2.tTup, L2.tLst, L2.tChain, L2.tUn, L2.tPar, L2.tDrop, L2.tIf, L2.tBM, L2.tBM0, L2.rAppend, L2.rCat, L2.rCatA, L2.rRepT, L2.rIsi, L2.rIsiT, L2.gTup, L2.gCons, L2.gNil, Fm.tFor_eq, Fm.tLc_eq, L2.iTup, L2.iList, L2.iRng1, L2.iRng2, L2.tSl, L2.tPart, L2.tNoPart, L2.rSlA, L2.rSlL, L2.rEq, L2.rNe, L2.rU, L2.rSlT, L2.rEqD, L2.rNeD, Fm.tRevT, Fm.rTimes, Fm.rLenS, Fm.rTupOf, Fm.rLstOf, Fm.rOnce, L2.tDNewK, L2.tCallS, L2.WE, Fm.wKeep, Fm.rIsK, Fm.rIsKT, List.cons_append, List.nil_append, L2.tYes])
namespace Fm
open PySem PySem.Spec PyProof.Rows L2
abbrev s_is_table : Stmt := top 30
abbrev N_is_table : List Str := ["thing", "m", "row", "a", "b"]
theorem sc_is_table : FnScope N_is_table ["thing", "m"] (defScope s_is_table) := ⟨rfl, rfl, rfl, by decide +kernel, rfl, by decide +kernel, by decide +kernel⟩
section
variable {P : Program} {w : World} {K : PySem.W.Frag} {mg : Str → Option Value} {base : Heap}
theorem row_iff {m : Nat} {d : PyData} : (∃ ds, d = .tuple ds ∧ (ds.length : Int) = m ∧ ∀ e ∈ ds, UpTo (.int ((m : Int) - 1)) e) ↔ RowD m d := by
  constructor
  · rintro ⟨ds, rfl, hl, h⟩
    refine ⟨ds, rfl, by omega, fun e he => ?_⟩
    obtain ⟨i, rfl, h0, hM⟩ := h e he
    exact ⟨i, rfl, h0, by have := hM _ rfl; omega⟩
  · rintro ⟨ds, rfl, hl, h⟩
    refine ⟨ds, rfl, by omega, fun e he => ?_⟩
    obtain ⟨i, rfl, h0, hM⟩ := h e he
    exact ⟨i, rfl, h0, fun M z => by cases z; omega⟩
theorem cell_at {H : Hp} {p : Addr} {xs : List V} {ds : List PyData} {m : Nat} (hs : Dats H p xs ds) (hl : ds.length = m) (hr : ∀ r ∈ ds, RowD m r) {a b : Nat} (ha : a < m) (hb : b < m) :
    ∃ (ra : Addr) (ys : List V) (i : Int), xs[a]? = some (.ref ra) ∧ H ra = some (.tup ys) ∧ ys[b]? = some (.int i) ∧ cellD ds a b = .int i ∧ 0 ≤ i ∧ i < m := by
  have e1 : ds[a]? = some ds[a] := List.getElem?_eq_getElem (by omega)
  obtain ⟨es, he, hes, hi⟩ := hr ds[a] (List.getElem_mem _)
  obtain ⟨x, hx, hd⟩ := hs.back e1
  rw [he] at hd
  obtain ⟨ra, ys, rfl, hra, _, hy⟩ := hd.isTup
  have e2 : es[b]? = some es[b] := List.getElem?_eq_getElem (by omega)
  obtain ⟨i, hei, h0, h1⟩ := hi es[b] (List.getElem_mem _)
  obtain ⟨y, hyb, hyd⟩ := hy.back e2
  rw [hei] at hyd
  obtain rfl := hyd.isInt
  refine ⟨ra, ys, i, hx, hra, hyb, ?_, h0, h1⟩
  unfold cellD
  rw [e1, he]
  simp only [e2, hei, Option.getD_some]
theorem ok_is_table (D : Df K mg "is_table" s_is_table ["thing", "m"]) (T : Nms mg) (c_is_tuple_of : CallOk P w K mg base CX0 1 "is_tuple_of" ["thing", "many"] spTupOf)
    (c_are_up_to : CallOk P w K mg base CX0 3 "are_up_to" ["thing", "many", "most"] spAre) : CallOk P w K mg base CX0 4 "is_table" ["thing", "m"] spTable := by
  refine df_ok D sc_is_table (fun vs H Q E h => ?_) (fun f cdv A outer s H vs Q E hr h => ?_)
  · obtain ⟨v, m, p, d, rfl, _⟩ := h
    rfl
  · obtain ⟨v, m, p, d, rfl, hm, hd, k⟩ := h
    have nd := sc_is_table.nd
    refine ⟨_, (pss_cons (ps_if (pt_not (pt_val (pe_cc c_is_tuple_of (hr.mono (by decide)) (pa_cons (pv 0) (pa_cons (pv 1) pa_nil))))) (pss_one (ps_ret pe_bl)) pss_nil)
      (pss_cons (ps_for PassesOwn.never rfl (pi_tup (pv 0)) (pg_name (i := 2) nd rfl (Or.inl rfl)) (pss_one (ps_if (pt_not (pt_val (pe_cc c_are_up_to (hr.mono (by decide)) (pa_cons (pv 2) (pa_cons (pv 1) (pa_cons (pe_op op_sub (pv 1) pe_int) pa_nil)))))) (pss_one (ps_ret pe_bl)) pss_nil)))
      (pss_cons (ps_for PassesOwn.never rfl (pi_range1 rfl T.n_range (pa_cons (pv 1) pa_nil)) (pg_name (i := 3) nd rfl (Or.inl rfl)) (pss_one (ps_for PassesOwn.never rfl (pi_range1 rfl T.n_range (pa_cons (pv 3) pa_nil)) (pg_name (i := 4) nd rfl (Or.inl rfl)) (pss_one (ps_if (pt_cmpR op_ne (pe_ix (r := rIxT K) ix_tup (pe_ix (r := rIxT K) ix_tup (pv 0) (pv 3) (fun _ _ => rfl)) (pv 4) (fun _ _ => rfl)) (pe_ix (r := rIxT K) ix_tup (pe_ix (r := rIxT K) ix_tup (pv 0) (pv 4) (fun _ _ => rfl)) (pv 3) (fun _ _ => rfl)) (nomark _)) (pss_one (ps_ret pe_bl)) pss_nil)))))
      (pss_one (ps_ret pe_bl))))), ?_⟩
    walk_at "op"
    walk_at "st"
    refine ⟨v, m, p, d, rfl, hd, fun b hb => ?_⟩
    walk_at "st"
    cases b with
    | false =>
      refine iteT (k false ⟨fun z => Bool.noConfusion z, fun ⟨ds, e, hl, _⟩ => hb.mpr ⟨ds, e, by omega⟩⟩)
    | true =>
      obtain ⟨ds, rfl, hl'⟩ := hb.mp rfl
      have hl : ds.length = m := by omega
      obtain ⟨a, xs, rfl, ha, _, hs⟩ := hd.isTup
      refine iteF ?_
      walk_at "st"
      refine ⟨⟨_, SqT.of ha⟩, fT (xs := xs) (fun i σ H' => H' = H ∧ (∃ u, σ = [some (.ref a), some (.int m), u, none, none]) ∧ ∀ j e, j < i → ds[j]? = some e → RowD m e)
        ⟨rfl, ⟨none, rfl⟩, fun j e hj => absurd hj (Nat.not_lt_zero j)⟩ (fun i σ H' _ ⟨e, _⟩ => by rw [e]; exact SqT.of ha) ?_ ?_⟩
      · rintro i x σ H' hx ⟨rfl, ⟨u, rfl⟩, hi⟩
        obtain ⟨e, he, hde⟩ := hs.at hx
        walk_at "op"
        walk_at "st"
        refine ⟨x, _, m, p, e, rfl, hde, .inr ⟨_, rfl⟩, fun b hb => ?_⟩
        rw [row_iff] at hb
        walk_at "st"
        cases b with
        | false =>
          refine iteT (k false ⟨fun z => Bool.noConfusion z, fun ⟨es, e1, _, h2, _⟩ => ?_⟩)
          cases e1
          exact hb.mpr (h2 e (List.mem_of_getElem? he))
        | true =>
          refine iteF ⟨rfl, ⟨_, rfl⟩, fun j e' hj he' => ?_⟩
          by_cases hji : j = i
          · subst hji
            rw [he] at he'
            cases he'
            exact hb.mp rfl
          · exact hi j e' (by omega) he'
      · rintro σ H' ⟨rfl, ⟨u, rfl⟩, hi⟩
        have hrow : ∀ r ∈ ds, RowD m r := fun r hr => by
          obtain ⟨j, hj⟩ := List.getElem?_of_mem hr
          exact hi j r (by rw [hs.1]; exact (List.getElem?_eq_some_iff.mp hj).1) hj
        walk_at "op"
        walk_at "st"
        rw [Int.toNat_natCast]
        refine fR (fun i σ H1 => H1 = H' ∧ (∃ u1 u2 u3, σ = [some (.ref a), some (.int m), u1, u2, u3]) ∧ ∀ x y, x < i → y < x → cellD ds x y = cellD ds y x)
          ⟨rfl, ⟨_, _, _, rfl⟩, fun x y hx => absurd hx (Nat.not_lt_zero x)⟩ ?_ ?_
        · rintro i σ H1 hi1 ⟨rfl, ⟨u1, u2, u3, rfl⟩, hsy⟩
          rw [Int.zero_add]
          walk_at "op"
          walk_at "st"
          rw [Int.toNat_natCast]
          refine fR (fun j σ H2 => H2 = H1 ∧ (∃ u1 u3, σ = [some (.ref a), some (.int m), u1, some (.int i), u3]) ∧ ∀ y, y < j → cellD ds i y = cellD ds y i)
            ⟨rfl, ⟨_, _, rfl⟩, fun y hy => absurd hy (Nat.not_lt_zero y)⟩ ?_ ?_
          · rintro j σ H2 hj ⟨rfl, ⟨u1, u3, rfl⟩, hsj⟩
            rw [Int.zero_add]
            obtain ⟨ra, ya, x1, a1, a2, a3, a4, _⟩ := cell_at hs hl hrow (a := i) (b := j) hi1 (by omega)
            obtain ⟨rb, yb, x2, b1, b2, b3, b4, _⟩ := cell_at hs hl hrow (a := j) (b := i) (by omega) hi1
            walk_at "op"
            walk_at "st"
            refine ⟨_, _, _, _, rfl, rfl, SqT.of ha, atI_nat a1, ?_⟩
            walk_at "st"
            refine ⟨_, _, _, _, rfl, rfl, SqT.of a2, atI_nat a3, ?_⟩
            walk_at "st"
            refine ⟨_, _, _, _, rfl, rfl, SqT.of ha, atI_nat b1, ?_⟩
            walk_at "st"
            refine ⟨_, _, _, _, rfl, rfl, SqT.of b2, atI_nat b3, rfl, ?_⟩
            walk_at "st"
            refine ite2 (fun c0 => ?_) (fun c0 => ?_)
            · refine k false ⟨fun z => Bool.noConfusion z, fun ⟨es, e1, _, _, h3⟩ => ?_⟩
              cases e1
              have q := h3 i j hi1 (by omega)
              rw [a4, b4] at q
              cases q
              simp at c0
            · refine ⟨rfl, ⟨_, _, rfl⟩, fun y hy => ?_⟩
              by_cases hyj : y = j
              · subst hyj
                rw [a4, b4]
                simp at c0
                rw [c0]
              · exact hsj y (by omega)
          · rintro σ H2 ⟨rfl, ⟨u1, u3, rfl⟩, hsj⟩
            refine ⟨rfl, ⟨_, _, _, rfl⟩, fun x y hx hy => ?_⟩
            by_cases hxi : x = i
            · subst hxi
              exact hsj y hy
            · exact hsy x y (by omega) hy
        · rintro σ H1 ⟨rfl, _, hsy⟩
          walk_at "op"
          refine k true ⟨fun _ => ⟨ds, rfl, hl, hrow, fun x y hx hy => ?_⟩, fun _ => rfl⟩
          rcases Nat.lt_trichotomy x y with h | h | h
          · exact (hsy y x hy h).symm
          · rw [h]
          · exact hsy x y hx h
end
end Fm
end FQ2
section FQ3
set_option Elab.async false
set_option linter.all false
set_option maxRecDepth 100000
set_option maxHeartbeats 4000000
local macro_rules | `(tactic| walk_at "ne") => `(tactic| first | assumption | (apply Ne.symm; assumption) | exact L2.ne_of_none (by assumption) (by assumption) | exact Ne.symm (L2.ne_of_none (by assumption) (by assumption)))
local macro_rules | `(tactic| walk_at "hl") => `(tactic| first | assumption | exact L2.upd_same | (refine Eq.trans (L2.upd_ne (by walk_at "ne")) ?_; walk_at "hl"))
local macro_rules | `(tactic| walk_at "sd") => `(tactic| first | (with_reducible show (_ : Int) < _; omega) | (with_reducible show (_ : Int) ≤ _; omega) | assumption | decide | exact ⟨by assumption, by assumption⟩ | exact ⟨by decide, by decide⟩ | exact Or.inr ⟨by decide, by decide⟩ | exact Or.inl ⟨by omega, by omega⟩)
local macro_rules | `(tactic| walk_at "st1") => `(tactic| first
  | refine ⟨_, rfl, ?_⟩
  | refine ⟨_, _, rfl, rfl, ?_⟩
  | refine ⟨_, _, rfl, ?_⟩
  | (refine ⟨_, _, _, _, rfl, rfl, L2.SqL.of (by walk_at "hl"), rfl, ?_⟩)
  | (refine ⟨_, _, _, _, rfl, rfl, L2.SqT.of (by walk_at "hl"), rfl, ?_⟩)
  | (refine ⟨_, _, _, _, rfl, rfl, (by walk_at "hl"), rfl, ?_⟩)
  | (refine And.intro (by walk_at "sd") ?_)
  )
local macro_rules | `(tactic| walk_at "st") => `(tactic| repeat walk_at "st1")
local macro_rules | `(tactic| walk_at "op") => `(tactic| try dsimp only [L2.tSeq, L2.tAsg, L2.tOp, L2.tVar, L2.tC, L2.gSub, L2.rI, L2.rI0, L2.rIxL, L2.rIxT, L2.rSetL, L2.tIfS, L2.tTest, L2.tRet, L2.gName, L2.tNext, L2.tAnd, L2.tOr, L2.tNot, L2.tAndV, L2.tOrV, L2.tNotV, L2.tB, L2.tCB, L2.tCons, L2.tNil, L2.tCall, L2.tTup, L2.tLst, L2.tChain, L2.tUn, L2.tPar, L2.tDrop, L2.tIf, L2.tBM, L2.tBM0, L2.rAppend, L2.rCat, L2.rCatA, L2.rRepT, L2.rIsi, L2.rIsiT, L2.gTup, L2.gCons, L2.gNil, Fm.tFor_eq, Fm.tLc_eq, L2.iTup, L2.iList, L2.iRng1, L2.iRng2, L2.tSl, L2.tPart, L2.tNoPart, L2.rSlA, L2.rSlL, L2.rEq, L2.rNe, L2.rU, L2.rSlT, L2.rEqD, L2.rNeD, Fm.tRevT, Fm.rTimes, Fm.rLenS, Fm.rTupOf, Fm.rLstOf, Fm.rOnce, L2.tDNewK, L2.tCallS, L2.WE, Fm.wKeep, Fm.rIsK, Fm.rIsKT, List.cons_append, List.nil_append, L2.tYes])
namespace Fm
open PySem PySem.Spec PyProof.Rows L2
abbrev s_is_house : Stmt := top 29
abbrev N_is_house : List Str := ["thing", "floor", "first", "stay", "up"]
theorem sc_is_house : FnScope N_is_house ["thing"] (defScope s_is_house) := ⟨rfl, rfl, rfl, by decide +kernel, rfl, by decide +kernel, by decide +kernel⟩
section
variable {P : Program} {w : World} {K : PySem.W.Frag} {mg : Str → Option Value} {base : Heap}
theorem ok_is_house (D : Df K mg "is_house" s_is_house ["thing"]) (T : Nms mg) {tF tN : Tok} (c_MOST_FLOORS : mg "MOST_FLOORS" = some (.int 4 tF)) (c_MOST_NUMBERS : mg "MOST_NUMBERS" = some (.int 6 tN))
    (c_is_tuple_of : CallOk P w K mg base CX0 1 "is_tuple_of" ["thing", "many"] spTupOf) (c_is_table : CallOk P w K mg base CX0 4 "is_table" ["thing", "m"] spTable) : CallOk P w K mg base CX0 5 "is_house" ["thing"] spHouse := by
  refine df_ok D sc_is_house (fun vs H Q E h => ?_) (fun f cdv A outer s H vs Q E hr h => ?_)
  · obtain ⟨v, p, d, rfl, _⟩ := h
    rfl
  · obtain ⟨v, p, d, rfl, hd, k⟩ := h
    have nd := sc_is_house.nd
    refine ⟨_, (pss_cons (ps_if (PW.pt (pw_or (pt_not (pt_val (pe_callB (r := rIsi K) call_isi (by rfl) T.n_isinstance (by decide +kernel) (pa_cons (pv 0) (pa_cons (pe_bltn (v := .ty "tuple") (by rfl) T.n_tuple (by decide +kernel) rfl) pa_nil))))) (pw_or1 (pt_not (pt_chain op_le op_le pe_int (pe_callB (r := rLenS K) call_lenS (by rfl) T.n_len (by decide +kernel) (pa_cons (pv 0) pa_nil)) (pe_glob (v := .int 4) rfl c_MOST_FLOORS ⟨_, rfl⟩)))))) (pss_one (ps_ret pe_bl)) pss_nil)
      (pss_cons (ps_for PassesOwn.never rfl (pi_tup (pv 0)) (pg_name (i := 1) nd rfl (Or.inl rfl)) (pss_one (ps_if (pt_not (pt_val (pe_cc c_is_tuple_of (hr.mono (by decide)) (pa_cons (pv 1) (pa_cons pe_int pa_nil))))) (pss_one (ps_ret pe_bl)) pss_nil)))
      (pss_cons (ps_set (i := 2) nd rfl (Or.inl rfl) (pe_ix (r := rIxT K) ix_tup (pe_ix (r := rIxT K) ix_tup (pv 0) pe_int (fun _ _ => rfl)) pe_int (fun _ _ => rfl)))
      (pss_cons (ps_if (PW.pt (pw_or (pt_not (pt_val (pe_callB (r := rIsi K) call_isi (by rfl) T.n_isinstance (by decide +kernel) (pa_cons (pv 2) (pa_cons (pe_bltn (v := .ty "tuple") (by rfl) T.n_tuple (by decide +kernel) rfl) pa_nil))))) (pw_or1 (pt_not (pt_chain op_le op_le pe_int (pe_callB (r := rLenS K) call_lenS (by rfl) T.n_len (by decide +kernel) (pa_cons (pv 2) pa_nil)) (pe_glob (v := .int 6) rfl c_MOST_NUMBERS ⟨_, rfl⟩)))))) (pss_one (ps_ret pe_bl)) pss_nil)
      (pss_cons (ps_for PassesOwn.never rfl (pi_tup (pv 0)) (pg_tup rfl (pgs_cons (pg_name (i := 3) nd rfl (Or.inl rfl)) (pgs_cons (pg_name (i := 4) nd rfl (Or.inl rfl)) pgs_nil))) (pss_one (ps_if (PW.pt (pw_or (pt_not (pt_val (pe_cc c_is_table (hr.mono (by decide)) (pa_cons (pv 3) (pa_cons (pe_callB (r := rLenS K) call_lenS (by rfl) T.n_len (by decide +kernel) (pa_cons (pv 2) pa_nil)) pa_nil))))) (pw_or1 (pt_not (pt_val (pe_cc c_is_table (hr.mono (by decide)) (pa_cons (pv 4) (pa_cons (pe_callB (r := rLenS K) call_lenS (by rfl) T.n_len (by decide +kernel) (pa_cons (pv 2) pa_nil)) pa_nil)))))))) (pss_one (ps_ret pe_bl)) pss_nil)))
      (pss_one (ps_ret pe_bl))))))), ?_⟩
    walk_at "op"
    walk_at "st"
    refine ⟨_, _, _, _, _, rfl, .ty _, hd.ty, kit_ty (kit_tuple d), ?_⟩
    walk_at "st"
    by_cases ht : isTu d = true
    · obtain ⟨ds, rfl⟩ := isTu_iff.mp ht
      obtain ⟨a, xs, rfl, ha, _, hs⟩ := hd.isTup
      refine iteF ?_
      walk_at "st"
      refine ⟨_, _, rfl, .inr (SqT.of ha), ?_⟩
      walk_at "st"
      by_cases hlo : 1 ≤ xs.length ∧ xs.length ≤ 4
      · rw [decide_eq_true (show (1 : Int) ≤ (xs.length : Int) by omega)]
        refine iteT ?_
        walk_at "st"
        rw [decide_eq_true (show (xs.length : Int) ≤ 4 by omega)]
        refine iteF ?_
        walk_at "st"
        refine ⟨⟨_, SqT.of ha⟩, fT (xs := xs) (fun i σ H' => H' = H ∧ (∃ u, σ = [some (.ref a), u, none, none, none]) ∧ ∀ j e, j < i → ds[j]? = some e → ∃ es, e = .tuple es ∧ es.length = 2)
          ⟨rfl, ⟨none, rfl⟩, fun j e hj => absurd hj (Nat.not_lt_zero j)⟩ (fun i σ H' _ ⟨e, _⟩ => by rw [e]; exact SqT.of ha) ?_ ?_⟩
        · rintro i x σ H' hx ⟨rfl, ⟨u, rfl⟩, hi⟩
          obtain ⟨e, he, hde⟩ := hs.at hx
          walk_at "op"
          walk_at "st"
          refine ⟨x, 2, p, e, rfl, hde, fun b hb => ?_⟩
          walk_at "st"
          cases b with
          | false =>
            refine iteT (k false ⟨fun z => Bool.noConfusion z, fun ⟨m, n, fs, e1, _, _, _, _, _, h3⟩ => ?_⟩)
            cases e1
            obtain ⟨s1, u1, e2, _⟩ := h3 e (List.mem_of_getElem? he)
            exact hb.mpr ⟨_, e2, rfl⟩
          | true =>
            refine iteF ⟨rfl, ⟨_, rfl⟩, fun j e' hj he' => ?_⟩
            by_cases hji : j = i
            · subst hji
              rw [he] at he'
              cases he'
              obtain ⟨es, e1, e2⟩ := hb.mp rfl
              exact ⟨es, e1, by omega⟩
            · exact hi j e' (by omega) he'
        · rintro σ H' ⟨rfl, ⟨u, rfl⟩, hi⟩
          have hpair : ∀ (j : Nat) (e : PyData), ds[j]? = some e → ∃ s1 u1, e = .tuple [s1, u1] := fun j e he => by
            obtain ⟨es, e1, e2⟩ := hi j e (by rw [hs.1]; exact (List.getElem?_eq_some_iff.mp he).1) he
            match es, e2 with
            | [s1, u1], _ => exact ⟨s1, u1, e1⟩
          have hd0 : ds[0]? = some ds[0] := List.getElem?_eq_getElem (by rw [← hs.1]; omega)
          obtain ⟨s0, u0, e0⟩ := hpair 0 _ hd0
          rw [e0] at hd0
          obtain ⟨x0, hx0, hdx0⟩ := hs.back hd0
          obtain ⟨a0, y0, rfl, ha0, _, hs0⟩ := hdx0.isTup
          obtain ⟨z0, hz0, hdz0⟩ := hs0.back (i := 0) (d := s0) rfl
          walk_at "op"
          walk_at "st"
          refine ⟨_, _, _, _, rfl, rfl, SqT.of ha, atI_nat (j := 0) hx0, ?_⟩
          walk_at "st"
          refine ⟨_, _, _, _, rfl, rfl, SqT.of ha0, atI_nat (j := 0) hz0, ?_⟩
          walk_at "st"
          refine ⟨_, _, _, _, _, rfl, .ty _, hdz0.ty, kit_ty (kit_tuple s0), ?_⟩
          walk_at "st"
          have hfirst : ∀ m n, HouseN m n (.tuple ds) → TabD m s0 := fun m n ⟨fs, e1, _, _, _, _, _, h3⟩ => by
            cases e1
            obtain ⟨s1, u1, e2, h4, _⟩ := h3 _ (List.mem_of_getElem? hd0)
            cases e2
            exact h4
          by_cases ht0 : isTu s0 = true
          · obtain ⟨es0, rfl⟩ := isTu_iff.mp ht0
            obtain ⟨af, yf, rfl, haf, _, hsf⟩ := hdz0.isTup
            refine iteF ?_
            walk_at "st"
            refine ⟨_, _, rfl, .inr (SqT.of haf), ?_⟩
            walk_at "st"
            have hm0 : ∀ m n, HouseN m n (.tuple ds) → m = yf.length ∧ 1 ≤ m ∧ m ≤ 6 := fun m n hN => by
              obtain ⟨rs, e1, e2, _⟩ := hfirst m n hN
              cases e1
              obtain ⟨_, _, _, _, _, q1, q2, _⟩ := hN
              exact ⟨by rw [hsf.1, e2], q1, q2⟩
            by_cases hm1 : 1 ≤ yf.length ∧ yf.length ≤ 6
            · rw [decide_eq_true (show (1 : Int) ≤ (yf.length : Int) by omega)]
              refine iteT ?_
              walk_at "st"
              rw [decide_eq_true (show (yf.length : Int) ≤ 6 by omega)]
              refine iteF ?_
              walk_at "st"
              refine ⟨⟨_, SqT.of ha⟩, fT (xs := xs) (fun i σ H1 => H1 = H' ∧ (∃ u1 u2 u3, σ = [some (.ref a), u1, some (.ref af), u2, u3]) ∧ ∀ j e, j < i → ds[j]? = some e → FloorD yf.length e)
                ⟨rfl, ⟨_, _, _, rfl⟩, fun j e hj => absurd hj (Nat.not_lt_zero j)⟩ (fun i σ H1 _ ⟨e, _⟩ => by rw [e]; exact SqT.of ha) ?_ ?_⟩
              · rintro i x σ H1 hx ⟨rfl, ⟨u1, u2, u3, rfl⟩, hfl⟩
                obtain ⟨e, he, hde⟩ := hs.at hx
                obtain ⟨s1, v1, rfl⟩ := hpair i e he
                obtain ⟨ai, yi, rfl, hai, _, hsi⟩ := hde.isTup
                have hlen : yi.length = 2 := hsi.1
                match yi, hlen with
                | [w1, w2], _ =>
                have hw1 : Dat H1 p w1 s1 := hsi.2 0 w1 s1 rfl rfl
                have hw2 : Dat H1 p w2 v1 := hsi.2 1 w2 v1 rfl rfl
                walk_at "op"
                refine ⟨ai, _, rfl, SqT.of hai, rfl, _, _, rfl, _, _, rfl, rfl, ?_⟩
                walk_at "op"
                walk_at "st"
                refine ⟨_, _, rfl, .inr (SqT.of haf), ?_⟩
                refine ⟨w1, yf.length, p, s1, rfl, by omega, hw1, fun b1 hb1 => ?_⟩
                walk_at "st"
                cases b1 with
                | false =>
                  refine iteT (iteT (k false ⟨fun z => Bool.noConfusion z, fun ⟨m, n, hN⟩ => ?_⟩))
                  obtain ⟨rfl, _, _⟩ := hm0 m n hN
                  obtain ⟨fs, e1, _, _, _, _, _, h3⟩ := hN
                  cases e1
                  obtain ⟨s2, v2, e2, h4, _⟩ := h3 _ (List.mem_of_getElem? he)
                  cases e2
                  exact hb1.mpr h4
                | true =>
                  refine iteF ?_
                  walk_at "st"
                  refine ⟨_, _, rfl, .inr (SqT.of haf), ?_⟩
                  refine ⟨w2, yf.length, p, v1, rfl, by omega, hw2, fun b2 hb2 => ?_⟩
                  walk_at "st"
                  cases b2 with
                  | false =>
                    refine iteT (k false ⟨fun z => Bool.noConfusion z, fun ⟨m, n, hN⟩ => ?_⟩)
                    obtain ⟨rfl, _, _⟩ := hm0 m n hN
                    obtain ⟨fs, e1, _, _, _, _, _, h3⟩ := hN
                    cases e1
                    obtain ⟨s2, v2, e2, _, h4⟩ := h3 _ (List.mem_of_getElem? he)
                    cases e2
                    exact hb2.mpr h4
                  | true =>
                    refine iteF ⟨rfl, ⟨_, _, _, rfl⟩, fun j e' hj he' => ?_⟩
                    by_cases hji : j = i
                    · subst hji
                      rw [he] at he'
                      cases he'
                      exact ⟨s1, v1, rfl, hb1.mp rfl, hb2.mp rfl⟩
                    · exact hfl j e' (by omega) he'
              · rintro σ H1 ⟨rfl, _, hfl⟩
                walk_at "op"
                refine k true ⟨fun _ => ⟨yf.length, xs.length, ds, rfl, hs.1.symm, hlo.1, hlo.2, hm1.1, hm1.2, fun e he => ?_⟩, fun _ => rfl⟩
                obtain ⟨j, hj⟩ := List.getElem?_of_mem he
                exact hfl j e (by rw [hs.1]; exact (List.getElem?_eq_some_iff.mp hj).1) hj
            · have no : ¬ HouseD (.tuple ds) := fun ⟨m, n, hN⟩ => by
                obtain ⟨e1, q1, q2⟩ := hm0 m n hN
                exact hm1 (by omega)
              by_cases h1 : 1 ≤ yf.length
              · rw [decide_eq_true (show (1 : Int) ≤ (yf.length : Int) by omega)]
                refine iteT ?_
                walk_at "st"
                rw [decide_eq_false (show ¬ (yf.length : Int) ≤ 6 by omega)]
                exact iteT (k false ⟨fun z => Bool.noConfusion z, fun z => (no z).elim⟩)
              · rw [decide_eq_false (show ¬ (1 : Int) ≤ (yf.length : Int) by omega)]
                refine iteF ?_
                walk_at "st"
                exact iteT (k false ⟨fun z => Bool.noConfusion z, fun z => (no z).elim⟩)
          · have no : ¬ HouseD (.tuple ds) := fun ⟨m, n, hN⟩ => by
              obtain ⟨rs, e1, _⟩ := hfirst m n hN
              exact ht0 (isTu_iff.mpr ⟨rs, e1⟩)
            rw [Bool.eq_false_iff.mpr ht0]
            exact iteT (iteT (k false ⟨fun z => Bool.noConfusion z, fun z => (no z).elim⟩))
      · have no : ¬ HouseD (.tuple ds) := fun ⟨m, n, fs, e1, e2, q1, q2, _⟩ => by
          cases e1
          exact hlo (by rw [hs.1]; omega)
        by_cases h1 : 1 ≤ xs.length
        · rw [decide_eq_true (show (1 : Int) ≤ (xs.length : Int) by omega)]
          refine iteT ?_
          walk_at "st"
          rw [decide_eq_false (show ¬ (xs.length : Int) ≤ 4 by omega)]
          exact iteT (k false ⟨fun z => Bool.noConfusion z, fun z => (no z).elim⟩)
        · rw [decide_eq_false (show ¬ (1 : Int) ≤ (xs.length : Int) by omega)]
          refine iteF ?_
          walk_at "st"
          exact iteT (k false ⟨fun z => Bool.noConfusion z, fun z => (no z).elim⟩)
    · have no : ¬ HouseD d := fun ⟨m, n, fs, e1, _⟩ => ht (isTu_iff.mpr ⟨fs, e1⟩)
      rw [Bool.eq_false_iff.mpr ht]
      exact iteT (iteT (k false ⟨fun z => Bool.noConfusion z, fun z => (no z).elim⟩))
end
end Fm
end FQ3
section FQ4
set_option Elab.async false
set_option linter.all false
set_option maxRecDepth 100000
set_option maxHeartbeats 4000000
local macro_rules | `(tactic| walk_at "ne") => `(tactic| first | assumption | (apply Ne.symm; assumption) | exact L2.ne_of_none (by assumption) (by assumption) | exact Ne.symm (L2.ne_of_none (by assumption) (by assumption)))
local macro_rules | `(tactic| walk_at "hl") => `(tactic| first | assumption | exact L2.upd_same | (refine Eq.trans (L2.upd_ne (by walk_at "ne")) ?_; walk_at "hl"))
local macro_rules | `(tactic| walk_at "sd") => `(tactic| first | (with_reducible show (_ : Int) < _; omega) | (with_reducible show (_ : Int) ≤ _; omega) | assumption | decide | exact ⟨by assumption, by assumption⟩ | exact ⟨by decide, by decide⟩ | exact Or.inr ⟨by decide, by decide⟩ | exact Or.inl ⟨by omega, by omega⟩)
local macro_rules | `(tactic| walk_at "st1") => `(tactic| first
  | refine ⟨_, rfl, ?_⟩
  | refine ⟨_, _, rfl, rfl, ?_⟩
  | refine ⟨_, _, rfl, ?_⟩
  | (refine ⟨_, _, _, _, rfl, rfl, L2.SqL.of (by walk_at "hl"), rfl, ?_⟩)
  | (refine ⟨_, _, _, _, rfl, rfl, L2.SqT.of (by walk_at "hl"), rfl, ?_⟩)
  | (refine ⟨_, _, _, _, rfl, rfl, (by walk_at "hl"), rfl, ?_⟩)
  | (refine And.intro (by walk_at "sd") ?_)
  )
local macro_rules | `(tactic| walk_at "st") => `(tactic| repeat walk_at "st1")
local macro_rules | `(tactic| walk_at "op") => `(tactic| try dsimp only [L2.tSeq, L2.tAsg, L2.tOp, L2.tVar, L2.tC, L2.gSub, L2.rI, L2.rI0, L2.rIxL, L2.rIxT, L2.rSetL, L2.tIfS, L2.tTest, L2.tRet, L2.gName, L2.tNext, L2.tAnd, L2.tOr, L2.tNot, L2.tAndV, L2.tOrV, L2.tNotV, L2.tB, L2.tCB, L2.tCons, L2.tNil, L2.tCall, L2.tTup, L2.tLst, L2.tChain, L2.tUn, L2.tPar, L2.tDrop, L2.tIf, L2.tBM, L2.tBM0, L2.rAppend, L2.rCat, L2.rCatA, L2.rRepT, L2.rIsi, L2.rIsiT, L2.gTup, L2.gCons, L2.gNil, Fm.tFor_eq, Fm.tLc_eq, L2.iTup, L2.iList, L2.iRng1, L2.iRng2, L2.tSl, L2.tPart, L2.tNoPart, L2.rSlA, L2.rSlL, L2.rEq, L2.rNe, L2.rU, L2.rSlT, L2.rEqD, L2.rNeD, Fm.tRevT, Fm.rTimes, Fm.rLenS, Fm.rTupOf, Fm.rLstOf, Fm.rOnce, L2.tDNewK, L2.tCallS, L2.WE, Fm.wKeep, Fm.rIsK, Fm.rIsKT, List.cons_append, List.nil_append, L2.tYes])
namespace Fm
open PySem PySem.Spec PyProof.Rows L2
abbrev s_size : Stmt := top 31
abbrev N_size : List Str := ["house"]
theorem sc_size : FnScope N_size ["house"] (defScope s_size) := ⟨rfl, rfl, rfl, by decide +kernel, rfl, by decide +kernel, by decide +kernel⟩
abbrev s_law_kind : Stmt := top 43
abbrev N_law_kind : List Str := ["thing", "caught", "told", "e", "others", "more"]
theorem sc_law_kind : FnScope N_law_kind ["thing"] (defScope s_law_kind) := ⟨rfl, rfl, rfl, by decide +kernel, rfl, by decide +kernel, by decide +kernel⟩
section
variable {P : Program} {w : World} {K : PySem.W.Frag} {mg : Str → Option Value} {base : Heap}
theorem ok_size (D : Df K mg "size" s_size ["house"]) (T : Nms mg) {C M : Addr} (EX : Exn K mg "NoHouse" C M) (c_is_house : CallOk P w K mg base CX0 5 "is_house" ["thing"] spHouse) : CallOk P w K mg base (L2.CX P w) 6 "size" ["house"] (spSize C) := by
  refine df_okX D sc_size (fun vs H Q E h => ?_) (fun f cdv A outer s H vs Q E hr h => ?_)
  · obtain ⟨v, p, d, rfl, _⟩ := h
    rfl
  · obtain ⟨v, p, d, rfl, hd, k1, k2⟩ := h
    have nd := sc_size.nd
    refine ⟨_, (pss_cons (ps_if (pt_not (pt_val (pe_cc c_is_house (hr.mono (by decide)) (pa_cons (pv 0) pa_nil)))) (pss_one (ps_raiseE rfl (takes_of rfl rfl rfl rfl) EX rfl)) pss_nil)
      (pss_one (ps_ret (pe_tup (pa_cons (pe_callB (r := rLenS K) call_lenS (by rfl) T.n_len (by decide +kernel) (pa_cons (pe_ix (r := rIxT K) ix_tup (pe_ix (r := rIxT K) ix_tup (pv 0) pe_int (fun _ _ => rfl)) pe_int (fun _ _ => rfl)) pa_nil)) (pa_cons (pe_callB (r := rLenS K) call_lenS (by rfl) T.n_len (by decide +kernel) (pa_cons (pv 0) pa_nil)) pa_nil)))))), ?_⟩
    walk_at "op"
    walk_at "st"
    refine ⟨v, p, d, rfl, hd, fun b hb => ?_⟩
    walk_at "st"
    cases b with
    | false => exact iteT (k2 fun z => Bool.noConfusion (hb.mpr z))
    | true =>
      obtain ⟨m, n, hN⟩ := hb.mp rfl
      obtain ⟨fs, rfl, hl, h1, _, _, _, hf⟩ := id hN
      obtain ⟨a, xs, rfl, ha, _, hs⟩ := hd.isTup
      have hd0 : fs[0]? = some fs[0] := List.getElem?_eq_getElem (by omega)
      obtain ⟨s0, u0, e0, ⟨rs, e1, e2, _⟩, _⟩ := hf fs[0] (List.getElem_mem _)
      rw [e0] at hd0
      subst e1
      obtain ⟨x0, hx0, hdx0⟩ := hs.back hd0
      obtain ⟨a0, y0, rfl, ha0, _, hs0⟩ := hdx0.isTup
      obtain ⟨z0, hz0, hdz0⟩ := hs0.back (i := 0) rfl
      obtain ⟨af, yf, rfl, haf, _, hsf⟩ := hdz0.isTup
      refine iteF ?_
      walk_at "op"
      walk_at "st"
      refine ⟨_, _, _, _, rfl, rfl, SqT.of ha, atI_nat (j := 0) hx0, ?_⟩
      walk_at "st"
      refine ⟨_, _, _, _, rfl, rfl, SqT.of ha0, atI_nat (j := 0) hz0, ?_⟩
      refine ⟨_, _, rfl, .inr (SqT.of haf), ?_⟩
      walk_at "st"
      refine ⟨_, _, rfl, .inr (SqT.of ha), ?_⟩
      refine ⟨by show 2 ≤ sizeLine; decide, fun q hq => ?_⟩
      refine k1 m n hN q _ hq ?_ (same_new hq)
      rw [upd_same, hsf.1, e2, hs.1, hl]
/-- _law_kind's promise -/
def spKind : Sp := fun vs H Q _ => ∃ (v : V) (p : Addr) (d : PyData), vs = [v] ∧ Dat H p v d ∧ (∀ m n, HouseN m n d → ∀ q H', H q = none → H' q = some (.tup [.int m, .int n]) → Same H H' → Q (.ref q) H') ∧
  (¬ HouseD d → ∀ H', Same H H' → Q (.str "none") H')
theorem ok_law_kind (D : Df K mg "_law_kind" s_law_kind ["thing"]) (T : Nms mg) (n_ValueError : mg "ValueError" = none) {C M : Addr} (EX : Exn K mg "NoHouse" C M) (g_MeetError : mg "MeetError" = some (.ref M))
    {a_Full a_NoCompany a_NoFloor a_NoLog a_NoMeeting a_NoName a_NoNumber a_NoRow a_NoSeen a_NoState a_NoStanding a_NoText a_NotFair a_Nothing a_NotLike a_NotSure a_Taken a_TooMany : Addr}
    (g_Full : mg "Full" = some (.ref a_Full)) (g_NoCompany : mg "NoCompany" = some (.ref a_NoCompany)) (g_NoFloor : mg "NoFloor" = some (.ref a_NoFloor)) (g_NoLog : mg "NoLog" = some (.ref a_NoLog)) (g_NoMeeting : mg "NoMeeting" = some (.ref a_NoMeeting))
    (g_NoName : mg "NoName" = some (.ref a_NoName)) (g_NoNumber : mg "NoNumber" = some (.ref a_NoNumber)) (g_NoRow : mg "NoRow" = some (.ref a_NoRow)) (g_NoSeen : mg "NoSeen" = some (.ref a_NoSeen)) (g_NoState : mg "NoState" = some (.ref a_NoState))
    (g_NoStanding : mg "NoStanding" = some (.ref a_NoStanding)) (g_NoText : mg "NoText" = some (.ref a_NoText)) (g_NotFair : mg "NotFair" = some (.ref a_NotFair)) (g_Nothing : mg "Nothing" = some (.ref a_Nothing)) (g_NotLike : mg "NotLike" = some (.ref a_NotLike))
    (g_NotSure : mg "NotSure" = some (.ref a_NotSure)) (g_Taken : mg "Taken" = some (.ref a_Taken)) (g_TooMany : mg "TooMany" = some (.ref a_TooMany))
    (z1 : PySem.W.kitAny K (.ref C) [.ref a_Full, .ref a_NoCompany, .ref a_NoFloor, .ref a_NoLog, .ref a_NoMeeting, .ref a_NoName, .ref a_NoNumber, .ref a_NoRow, .ref a_NoSeen, .ref a_NoState] = some false)
    (z2 : PySem.W.kitAny K (.ref C) [.ref a_NoStanding, .ref a_NoText, .ref a_NotFair, .ref a_Nothing, .ref a_NotLike, .ref a_NotSure, .ref a_Taken, .ref a_TooMany] = some false)
    (z3 : PySem.W.kitOne K (.ref C) (.type "ValueError") = some true) (z4 : PySem.W.kitOne K (.ref C) (.ref C) = some true)
    (c_size : CallOk P w K mg base (L2.CX P w) 6 "size" ["house"] (spSize C)) : CallOk P w K mg base CX0 7 "_law_kind" ["thing"] spKind := by
  refine df_ok D sc_law_kind (fun vs H Q E h => ?_) (fun f cdv A outer s H vs Q E hr h => ?_)
  · obtain ⟨v, p, d, rfl, _⟩ := h
    rfl
  · obtain ⟨v, p, d, rfl, hd, k1, k2⟩ := h
    have nd := sc_law_kind.nd
    have g_NoHouse := EX.g
    refine ⟨_, (pss_cons (ps_set (i := 1) nd rfl (Or.inl rfl) pe_non)
      (pss_cons (ps_set (i := 2) nd rfl (Or.inl rfl) pe_non)
      (pss_cons (ps_try_keep (i := 3) (j := 1) rfl rfl rfl nd rfl rfl rfl rfl ⟨rfl, by decide, .inl g_MeetError⟩ (by decide) (by decide) (by rfl) (by show 3 < List.length N_law_kind; decide) (fun W pn xe tk _ => (pss_one (ps_set (i := 2) nd rfl (Or.inl rfl) (pe_cs c_size tk (hr.mono (by decide)) (pa_cons (pv 0) pa_nil))))))
      (pss_cons (ps_if (pt_cmpR op_isN (pv 1) pe_non (nomark _)) (pss_one (ps_ret (pv 2))) pss_nil)
      (pss_cons (ps_set (i := 4) nd rfl (Or.inl rfl) (pe_callB (call_isKT EX.c) (by rfl) T.n_isinstance (by decide +kernel) (pa_cons (pv 1) (pa_cons (pe_tup (pa_cons (pe_glob (v := .ref a_Full) rfl g_Full rfl) (pa_cons (pe_glob (v := .ref a_NoCompany) rfl g_NoCompany rfl) (pa_cons (pe_glob (v := .ref a_NoFloor) rfl g_NoFloor rfl) (pa_cons (pe_glob (v := .ref a_NoLog) rfl g_NoLog rfl) (pa_cons (pe_glob (v := .ref a_NoMeeting) rfl g_NoMeeting rfl) (pa_cons (pe_glob (v := .ref a_NoName) rfl g_NoName rfl) (pa_cons (pe_glob (v := .ref a_NoNumber) rfl g_NoNumber rfl) (pa_cons (pe_glob (v := .ref a_NoRow) rfl g_NoRow rfl) (pa_cons (pe_glob (v := .ref a_NoSeen) rfl g_NoSeen rfl) (pa_cons (pe_glob (v := .ref a_NoState) rfl g_NoState rfl) pa_nil))))))))))) pa_nil))))
      (pss_cons (ps_set (i := 5) nd rfl (Or.inl rfl) (pe_callB (call_isKT EX.c) (by rfl) T.n_isinstance (by decide +kernel) (pa_cons (pv 1) (pa_cons (pe_tup (pa_cons (pe_glob (v := .ref a_NoStanding) rfl g_NoStanding rfl) (pa_cons (pe_glob (v := .ref a_NoText) rfl g_NoText rfl) (pa_cons (pe_glob (v := .ref a_NotFair) rfl g_NotFair rfl) (pa_cons (pe_glob (v := .ref a_Nothing) rfl g_Nothing rfl) (pa_cons (pe_glob (v := .ref a_NotLike) rfl g_NotLike rfl) (pa_cons (pe_glob (v := .ref a_NotSure) rfl g_NotSure rfl) (pa_cons (pe_glob (v := .ref a_Taken) rfl g_Taken rfl) (pa_cons (pe_glob (v := .ref a_TooMany) rfl g_TooMany rfl) pa_nil))))))))) pa_nil))))
      (pss_cons (ps_if (PW.pt (pw_or (pt_val (pv 4)) (pw_or (pt_val (pv 5)) (pw_or1 (pt_not (pt_val (pe_callB (call_isK EX.c) (by rfl) T.n_isinstance (by decide +kernel) (pa_cons (pv 1) (pa_cons (pe_bltn (v := .ty "ValueError") (by rfl) n_ValueError (by decide +kernel) rfl) pa_nil))))))))) (pss_one (ps_ret pe_str)) pss_nil)
      (pss_one (ps_ret (pe_ifExp (pt_val (pe_callB (call_isK EX.c) (by rfl) T.n_isinstance (by decide +kernel) (pa_cons (pv 1) (pa_cons (pe_glob (v := .ref C) rfl g_NoHouse rfl) pa_nil)))) pe_str pe_str)))))))))), ?_⟩
    walk_at "op"
    walk_at "st"
    refine ⟨v, p, d, rfl, hd, fun m n hN q H' hq hq2 hsm => ?_, fun hno => ?_⟩
    · walk_at "op"
      walk_at "st"
      exact k1 m n hN q H' hq hq2 hsm
    · refine ⟨EX.m, fun a ha => ?_⟩
      walk_at "op"
      walk_at "st"
      refine ⟨by show 10 ≤ sizeLine; decide, fun t1 ht1 => ?_⟩
      have n1 : a ≠ t1 := ne_of_none upd_same ht1
      refine ⟨a, t1, _, _, _, rfl, (by rw [upd_ne n1]; exact upd_same), upd_same, .cons (.own _) (.cons (.own _) (.cons (.own _) (.cons (.own _) (.cons (.own _) (.cons (.own _) (.cons (.own _) (.cons (.own _) (.cons (.own _) (.cons (.own _) .nil))))))))), z1, ?_⟩
      walk_at "st"
      refine ⟨by show 8 ≤ sizeLine; decide, fun t2 ht2 => ?_⟩
      have n2 : t1 ≠ t2 := ne_of_none upd_same ht2
      have n3 : a ≠ t2 := ne_of_none (by rw [upd_ne n1]; exact upd_same) ht2
      have ha3 : (upd (upd (upd H a (ExK (.ref C) none a)) t1 (.tup [.ref a_Full, .ref a_NoCompany, .ref a_NoFloor, .ref a_NoLog, .ref a_NoMeeting, .ref a_NoName, .ref a_NoNumber, .ref a_NoRow, .ref a_NoSeen, .ref a_NoState])) t2 (.tup [.ref a_NoStanding, .ref a_NoText, .ref a_NotFair, .ref a_Nothing, .ref a_NotLike, .ref a_NotSure, .ref a_Taken, .ref a_TooMany])) a = some (ExK (.ref C) none a) := by
        rw [upd_ne n3, upd_ne n1]
        exact upd_same
      refine ⟨a, t2, _, _, _, rfl, ha3, upd_same, .cons (.own _) (.cons (.own _) (.cons (.own _) (.cons (.own _) (.cons (.own _) (.cons (.own _) (.cons (.own _) (.cons (.own _) .nil))))))), z2, ?_⟩
      walk_at "st"
      refine ⟨a, _, _, _, rfl, ha3, .ty _, z3, ?_⟩
      walk_at "st"
      refine ⟨a, _, _, _, rfl, ha3, .own _, z4, ?_⟩
      walk_at "st"
      refine (k2 hno _ fun b o e => ?_)
      have q1 : b ≠ a := ne_of_none e ha
      have q2 : b ≠ t1 := ne_of_none (by rw [upd_ne q1]; exact e) ht1
      have q3 : b ≠ t2 := ne_of_none (by rw [upd_ne q2, upd_ne q1]; exact e) ht2
      rw [upd_ne q3, upd_ne q2, upd_ne q1]
      exact e
end
end Fm
end FQ4
section FQ5
set_option Elab.async false
set_option linter.all false
set_option maxRecDepth 100000
set_option maxHeartbeats 4000000
local macro_rules | `(tactic| walk_at "ne") => `(tactic| first | assumption | (apply Ne.symm; assumption) | exact L2.ne_of_none (by assumption) (by assumption) | exact Ne.symm (L2.ne_of_none (by assumption) (by assumption)))
local macro_rules | `(tactic| walk_at "hl") => `(tactic| first | assumption | exact L2.upd_same | (refine Eq.trans (L2.upd_ne (by walk_at "ne")) ?_; walk_at "hl"))
local macro_rules | `(tactic| walk_at "sd") => `(tactic| first | (with_reducible show (_ : Int) < _; omega) | (with_reducible show (_ : Int) ≤ _; omega) | assumption | decide | exact ⟨by assumption, by assumption⟩ | exact ⟨by decide, by decide⟩ | exact Or.inr ⟨by decide, by decide⟩ | exact Or.inl ⟨by omega, by omega⟩)
local macro_rules | `(tactic| walk_at "st1") => `(tactic| first
  | refine ⟨_, rfl, ?_⟩
  | refine ⟨_, _, rfl, rfl, ?_⟩
  | refine ⟨_, _, rfl, ?_⟩
  | (refine ⟨_, _, _, _, rfl, rfl, L2.SqL.of (by walk_at "hl"), rfl, ?_⟩)
  | (refine ⟨_, _, _, _, rfl, rfl, L2.SqT.of (by walk_at "hl"), rfl, ?_⟩)
  | (refine ⟨_, _, _, _, rfl, rfl, (by walk_at "hl"), rfl, ?_⟩)
  | (refine And.intro (by walk_at "sd") ?_)
  )
local macro_rules | `(tactic| walk_at "st") => `(tactic| repeat walk_at "st1")
local macro_rules | `(tactic| walk_at "op") => `(tactic| try dsimp only [L2.tSeq, L2.tAsg, L2.tOp, L2.tVar, L2.tC, L2.gSub, L2.rI, L2.rI0, L2.rIxL, L2.rIxT, L2.rSetL, L2.tIfS, L2.tTest, L2.tRet, L2.gName, L2.tNext, L2.tAnd, L2.tOr, L2.tNot, L2.tAndV, L2.tOrV, L2.tNotV, L2.tB, L2.tCB, L2.tCons, L2.tNil, L2.tCall, L2.tTup, L2.tLst, L2.tChain, L2.tUn, L2.tPar, L2.tDrop, L2.tIf, L2.tBM, L2.tBM0, L2.rAppend, L2.rCat, L2.rCatA, L2.rRepT, L2.rIsi, L2.rIsiT, L2.gTup, L2.gCons, L2.gNil, Fm.tFor_eq, Fm.tLc_eq, L2.iTup, L2.iList, L2.iRng1, L2.iRng2, L2.tSl, L2.tPart, L2.tNoPart, L2.rSlA, L2.rSlL, L2.rEq, L2.rNe, L2.rU, L2.rSlT, L2.rEqD, L2.rNeD, Fm.tRevT, Fm.rTimes, Fm.rLenS, Fm.rTupOf, Fm.rLstOf, Fm.rOnce, L2.tDNewK, L2.tCallS, L2.WE, Fm.wKeep, Fm.rIsK, Fm.rIsKT, List.cons_append, List.nil_append, L2.tYes])
namespace Fm
open PySem PySem.Spec PyProof.Rows L2
abbrev s_law_bag : Stmt := top 33
abbrev N_law_bag : List Str := ["cell"]
theorem sc_law_bag : FnScope N_law_bag ["cell"] (defScope s_law_bag) := ⟨rfl, rfl, rfl, by decide +kernel, rfl, by decide +kernel, by decide +kernel⟩
abbrev s_law_pick : Stmt := top 34
abbrev N_law_pick : List Str := ["bag", "many", "told", "first", "second"]
theorem sc_law_pick : FnScope N_law_pick ["bag", "many"] (defScope s_law_pick) := ⟨rfl, rfl, rfl, by decide +kernel, rfl, by decide +kernel, by decide +kernel⟩
abbrev s_law_table : Stmt := top 35
abbrev N_law_table : List Str := ["bag", "m", "way", "free", "k", "rows", "a", "row", "b", "least", "most", "some"]
theorem sc_law_table : FnScope N_law_table ["bag", "m"] (defScope s_law_table) := ⟨rfl, rfl, rfl, by decide +kernel, rfl, by decide +kernel, by decide +kernel⟩
section
variable {P : Program} {w : World} {K : PySem.W.Frag} {mg : Str → Option Value} {base : Heap}
theorem atI_of {xs : List V} {i : Int} {v : V} (h0 : 0 ≤ i) (h : xs[i.toNat]? = some v) : atI xs i = some v := by
  have e := atI_nat h
  rw [Int.toNat_of_nonneg h0] at e
  exact e
theorem ok_law_bag (D : Df K mg "_law_bag" s_law_bag ["cell"]) (T : Nms mg) : CallOk P w K mg base CX0 1 "_law_bag" ["cell"] spBag := by
  refine df_ok D sc_law_bag (fun vs H Q E h => ?_) (fun f cdv A outer s H vs Q E hr h => ?_)
  · obtain ⟨c, rfl, _⟩ := h
    rfl
  · obtain ⟨c, rfl, k⟩ := h
    have nd := sc_law_bag.nd
    refine ⟨_, (pss_one (ps_ret (pe_lst (pa_cons (pe_callB (call_max2 rfl) (by rfl) T.n_max (by decide +kernel) (pa_cons pe_int (pa_cons (pe_op op_sub (pv 0) (pe_op op_pow pe_int pe_int)) pa_nil))) (pa_cons (pv 0) (pa_cons pe_int pa_nil)))))), ?_⟩
    walk_at "op"
    walk_at "st"
    refine ⟨by show 3 ≤ sizeLine; decide, fun q hq => ?_⟩
    exact k q _ hq ⟨_, _, _, upd_same⟩ (same_new hq)
theorem ok_law_pick (D : Df K mg "_law_pick" s_law_pick ["bag", "many"]) (T : Nms mg) : CallOk P w K mg base CX0 1 "_law_pick" ["bag", "many"] spPick := by
  refine df_ok D sc_law_pick (fun vs H Q E h => ?_) (fun f cdv A outer s H vs Q E hr h => ?_)
  · obtain ⟨p, m, rfl, _⟩ := h
    rfl
  · obtain ⟨p, m, rfl, m0, ml, ⟨x, y, c, hp⟩, k⟩ := h
    have nd := sc_law_pick.nd
    refine ⟨_, (pss_cons (ps_asg (pe_op op_add (pe_ix (r := rIxL K) ix_list (pv 0) pe_int (fun _ _ => rfl)) pe_int) (pg_sub (pv 0) pe_int set_list))
      (pss_cons (ps_if (pt_cmpR op_gt (pe_ix (r := rIxL K) ix_list (pv 0) pe_int (fun _ _ => rfl)) pe_int (nomark _)) (pss_cons (ps_set (i := 2) nd rfl (Or.inl rfl) (pe_op op_mod (pe_ix (r := rIxL K) ix_list (pv 0) pe_int (fun _ _ => rfl)) (pv 1)))
      (pss_cons (ps_asg (pe_op op_fdivW (pe_ix (r := rIxL K) ix_list (pv 0) pe_int (fun _ _ => rfl)) (pv 1)) (pg_sub (pv 0) pe_int set_list))
      (pss_one (ps_ret (pv 2))))) pss_nil)
      (pss_cons (ps_set (i := 3) nd rfl (Or.inl rfl) (pe_op op_mod (pe_op op_add (pe_op op_add (pe_op op_mul (pe_op op_mod (pe_ix (r := rIxL K) ix_list (pv 0) pe_int (fun _ _ => rfl)) pe_int) pe_int) (pe_op op_mul (pe_ix (r := rIxL K) ix_list (pv 0) pe_int (fun _ _ => rfl)) pe_int)) pe_int) pe_int))
      (pss_cons (ps_set (i := 4) nd rfl (Or.inl rfl) (pe_op op_mod (pe_op op_add (pe_op op_mul (pv 3) (pv 3)) (pe_op op_mul (pe_ix (r := rIxL K) ix_list (pv 0) pe_int (fun _ _ => rfl)) pe_int)) pe_int))
      (pss_one (ps_ret (pe_op op_mod (pe_op op_fdivW (pe_op op_add (pe_op op_mul (pv 3) pe_int) (pv 4)) pe_int) (pv 1)))))))), ?_⟩
    walk_at "op"
    walk_at "st"
    refine ite2 (fun c0 => ?_) (fun c0 => ?_)
    · walk_at "st"
      refine k _ _ (Int.emod_nonneg _ (by omega)) (Int.emod_lt_of_pos _ m0) ⟨_, _, _, upd_same⟩ (ext_at.trans ext_at)
    · walk_at "st"
      refine k _ _ (Int.emod_nonneg _ (by omega)) (Int.emod_lt_of_pos _ m0) ⟨_, _, _, upd_same⟩ ext_at
/-- the seven ways of a table's number -/
def ways7 (fs : List Int) (m a b : Int) : List Int :=
  let lo := if b < a then b else a
  let hi := if b > a then b else a
  [fs.getD (lo * 6 + hi).toNat 0, hi, lo, (a + b) % m, if m - 1 < a + b then m - 1 else a + b, fs.getD 0 0, a * b % m]
theorem ways7_comm (fs : List Int) (m a b : Int) : ways7 fs m a b = ways7 fs m b a := by
  have e1 : (if b < a then b else a) = if a < b then a else b := by split <;> split <;> omega
  have e2 : (if b > a then b else a) = if a > b then a else b := by split <;> split <;> omega
  unfold ways7
  rw [e1, e2, Int.add_comm b a, Int.mul_comm b a]
theorem ways7_in {fs : List Int} {m : Nat} {a b : Nat} (hf : ∀ f ∈ fs, 0 ≤ f ∧ f < (m : Int)) (hl : fs.length = 36) (hm : m ≤ 6) (ha : a < m) (hb : b < m) : ∀ e ∈ ways7 fs m a b, 0 ≤ e ∧ e < (m : Int) := by
  have gd : ∀ i, i < 36 → 0 ≤ fs.getD i 0 ∧ fs.getD i 0 < (m : Int) := fun i hi => by
    rw [List.getD_eq_getElem?_getD, List.getElem?_eq_getElem (show i < fs.length by omega), Option.getD_some]
    exact hf _ (List.getElem_mem _)
  intro e he
  unfold ways7 at he
  simp only [List.mem_cons, List.not_mem_nil, or_false] at he
  have m0 : (0 : Int) < m := by omega
  rcases he with rfl | rfl | rfl | rfl | rfl | rfl | rfl
  · apply gd
    split <;> split <;> omega
  · split <;> omega
  · split <;> omega
  · exact ⟨Int.emod_nonneg _ (by omega), Int.emod_lt_of_pos _ m0⟩
  · split <;> omega
  · exact gd 0 (by omega)
  · exact ⟨Int.emod_nonneg _ (by omega), Int.emod_lt_of_pos _ m0⟩
def spTab : Sp := fun vs H Q _ => ∃ (p : Addr) (m : Nat), vs = [.ref p, .int m] ∧ 1 ≤ m ∧ m ≤ 6 ∧ Bag H p ∧ ∀ (v : V) (d : PyData) (H' : Hp), Bag H' p → Ext p H H' → Dat H' p v d → TabD m d → Q v H'
/-- rows made by a function of two places -/
theorem tab_of {m : Nat} {G : Nat → Nat → Int} (hs : ∀ a b, G a b = G b a) (hb : ∀ a b, a < m → b < m → 0 ≤ G a b ∧ G a b < (m : Int)) :
    TabD m (.tuple ((List.range m).map fun a => .tuple ((List.range m).map fun b => .int (G a b)))) := by
  refine ⟨_, rfl, by simp, fun r hr => ?_, fun a b ha hb => ?_⟩
  · obtain ⟨a, ha, rfl⟩ := List.mem_map.mp hr
    refine ⟨_, rfl, by simp, fun e he => ?_⟩
    obtain ⟨b, hb', rfl⟩ := List.mem_map.mp he
    exact ⟨_, rfl, hb a b (List.mem_range.mp ha) (List.mem_range.mp hb')⟩
  · have c : ∀ x y, x < m → y < m → cellD ((List.range m).map fun a => PyData.tuple ((List.range m).map fun b => .int (G a b))) x y = .int (G x y) := fun x y hx hy => by
      unfold cellD
      simp [hx, hy]
    rw [c a b ha hb, c b a hb ha, hs]
theorem range_snoc {α : Type} (f : Nat → α) (n : Nat) : (List.range (n + 1)).map f = (List.range n).map f ++ [f n] := by
  rw [List.range_succ, List.map_append]
  rfl
theorem Ext.off {H H' : Hp} {p L : Addr} {o : HO} (e : Ext p H H') (h : H L = none) : Ext p H (upd H' L o) := fun b u eb n => by
  rw [upd_ne (ne_of_none eb h)]
  exact e b u eb n
theorem Bag.up {H : Hp} {p L : Addr} {o : HO} (h : Bag H p) (n : p ≠ L) : Bag (upd H L o) p := by
  obtain ⟨x, y, c, q⟩ := h
  exact ⟨x, y, c, by rw [upd_ne n]; exact q⟩
theorem Bag.ne {H : Hp} {p L : Addr} (h : Bag H p) (n : H L = none) : p ≠ L := by
  obtain ⟨x, y, c, q⟩ := h
  exact ne_of_none q n
theorem Bag.here {H : Hp} {p : Addr} (h : Bag H p) : ∃ u, H p = some u := by
  obtain ⟨x, y, c, q⟩ := h
  exact ⟨_, q⟩
theorem ext_new {H : Hp} {p L : Addr} {o : HO} (h : H L = none) : Ext p H (upd H L o) := fun b u eb _ => by
  rw [upd_ne (ne_of_none eb h)]
  exact eb
theorem len_le {n : Nat} (h : n ≤ 1000) : n ≤ sizeLine := Nat.le_of_lt (small1000 h)
/-- what both makers of tables share: the rows so far -/
def RowsAt (H : Hp) (p R : Addr) (m a : Nat) (G : Nat → Nat → Int) : Prop :=
  ∃ xs, H R = some (.lst xs) ∧ Dats H p xs ((List.range a).map fun x => .tuple ((List.range m).map fun y => .int (G x y)))
def RowAt (H : Hp) (W : Addr) (a b : Nat) (G : Nat → Nat → Int) : Prop := H W = some (.lst (((List.range b).map fun y => G a y).map V.int))
theorem Ext.free {H H' : Hp} {p S : Addr} (e : Ext p H H') (n : S ≠ p) (h : H' S = none) : H S = none := by
  cases q : H S with
  | none => rfl
  | some u =>
    rw [e S u q n] at h
    cases h
theorem Dat.setL {H : Hp} {p R : Addr} {xs ys : List V} {v : V} {d : PyData} (hR : H R = some (.lst xs)) (h : Dat H p v d) : noList d = true → Dat (upd H R (.lst ys)) p v d := by
  induction h with
  | non => exact fun _ => .non
  | bl b => exact fun _ => .bl b
  | int i => exact fun _ => .int i
  | str x => exact fun _ => .str x
  | tup h1 h2 h3 h4 ih => exact fun hn => .tup (by rw [upd_ne (ne_of h1 hR (by intro z; cases z))]; exact h1) h2 h3 fun i x d a b => ih i x d a b (noList_tup hn d (List.mem_of_getElem? b))
  | lst h1 h2 h3 h4 ih => exact fun hn => by unfold noList at hn; cases hn
  | dct h1 h2 => exact fun _ => .dct (by rw [upd_ne (ne_of h1 hR (by intro z; cases z))]; exact h1) h2
theorem Dats.setL {H : Hp} {p R : Addr} {xs ys zs : List V} {ds : List PyData} (hR : H R = some (.lst xs)) (h : Dats H p zs ds) (hn : ∀ d ∈ ds, noList d = true) : Dats (upd H R (.lst ys)) p zs ds :=
  ⟨h.1, fun i x d a b => (h.2 i x d a b).setL hR (hn d (List.mem_of_getElem? b))⟩
theorem noList_ints {α : Type} (l : List α) (f : α → Int) : noList (.tuple (l.map fun x => .int (f x))) = true := noList_of fun d hd => by
  obtain ⟨x, _, rfl⟩ := List.mem_map.mp hd
  unfold noList
  rfl
theorem fs_at {fs : List Int} {i : Nat} (h : i < fs.length) : (fs.map V.int)[i]? = some (.int (fs.getD i 0)) := by
  rw [List.getElem?_map, List.getElem?_eq_getElem h, List.getD_eq_getElem?_getD, List.getElem?_eq_getElem h]
  rfl
theorem ok_law_table (D : Df K mg "_law_table" s_law_table ["bag", "m"]) (T : Nms mg) (c_law_pick : CallOk P w K mg base CX0 1 "_law_pick" ["bag", "many"] spPick) : CallOk P w K mg base CX0 2 "_law_table" ["bag", "m"] spTab := by
  refine df_ok D sc_law_table (fun vs H Q E h => ?_) (fun f cdv A outer s H vs Q E hr h => ?_)
  · obtain ⟨p, m, rfl, _⟩ := h
    rfl
  · obtain ⟨p, m, rfl, hm1, hm6, hB, k⟩ := h
    have nd := sc_law_table.nd
    have ml : (m : Int).natAbs.log2 < 9000 := Nat.lt_of_le_of_lt (Nat.log2_le_self _) (by omega)
    refine ⟨_, (pss_cons (ps_set (i := 2) nd rfl (Or.inl rfl) (pe_cc c_law_pick (hr.mono (by decide)) (pa_cons (pv 0) (pa_cons pe_int pa_nil))))
      (pss_cons (ps_setLc (i := 3) (own := [("k", 4)]) (g := (gName 4)) (tt := tYes) (by rfl) nd rfl rfl (sw_true rfl rfl rfl (by decide +kernel)) (pi_range1 rfl T.n_range (pa_cons pe_int pa_nil)) (blkOk_by (own := [("k", 4)]) (N := N_law_table) (sc := defScope s_law_table) (by decide +kernel)) (fun _ _ _ _ _ => (pg_name (i := 4) nd rfl (Or.inl rfl))) (fun _ _ _ _ _ => pts_nil) (fun _ _ _ _ _ => (pe_cc c_law_pick (hr.mono (by decide)) (pa_cons (pv 0) (pa_cons (pv 1) pa_nil)))))
      (pss_cons (ps_set (i := 5) nd rfl (Or.inl rfl) (pe_lst pa_nil))
      (pss_cons (ps_for PassesOwn.never rfl (pi_range1 rfl T.n_range (pa_cons (pv 1) pa_nil)) (pg_name (i := 6) nd rfl (Or.inl rfl)) (pss_cons (ps_set (i := 7) nd rfl (Or.inl rfl) (pe_lst pa_nil))
      (pss_cons (ps_for PassesOwn.never rfl (pi_range1 rfl T.n_range (pa_cons (pv 1) pa_nil)) (pg_name (i := 8) nd rfl (Or.inl rfl)) (pss_cons (ps_par (i := 9) (j := 10) (by rfl) nd rfl rfl (by decide) rfl rfl (pa_cons (pe_callB (call_min2 rfl) (by rfl) T.n_min (by decide +kernel) (pa_cons (pv 6) (pa_cons (pv 8) pa_nil))) (pa_cons (pe_callB (call_max2 rfl) (by rfl) T.n_max (by decide +kernel) (pa_cons (pv 6) (pa_cons (pv 8) pa_nil))) pa_nil)) (by rfl))
      (pss_cons (ps_set (i := 11) nd rfl (Or.inl rfl) (pe_lst (pa_cons (pe_ix (r := rIxL K) ix_list (pv 3) (pe_op op_add (pe_op op_mul (pv 9) pe_int) (pv 10)) (fun _ _ => rfl)) (pa_cons (pv 10) (pa_cons (pv 9) (pa_cons (pe_op op_mod (pe_op op_add (pv 6) (pv 8)) (pv 1)) (pa_cons (pe_callB (call_min2 rfl) (by rfl) T.n_min (by decide +kernel) (pa_cons (pe_op op_add (pv 6) (pv 8)) (pa_cons (pe_op op_sub (pv 1) pe_int) pa_nil))) (pa_cons (pe_ix (r := rIxL K) ix_list (pv 3) pe_int (fun _ _ => rfl)) (pa_cons (pe_op op_mod (pe_op op_mul (pv 6) (pv 8)) (pv 1)) pa_nil)))))))))
      (pss_one (ps_expr (pe_bm PySem.F.plainAttrs_list PySem.F.slot_list_append PySem.F.type_list_append mt_append (pv 7) (pa_cons (pe_ix (r := rIxL K) ix_list (pv 11) (pv 2) (fun _ _ => rfl)) pa_nil)))))))
      (pss_one (ps_expr (pe_bm PySem.F.plainAttrs_list PySem.F.slot_list_append PySem.F.type_list_append mt_append (pv 5) (pa_cons (pe_callTy (r := rTupOf K) call_tupOf (by rfl) T.n_tuple (by decide +kernel) (pa_cons (pv 7) pa_nil)) pa_nil)))))))
      (pss_one (ps_ret (pe_callTy (r := rTupOf K) call_tupOf (by rfl) T.n_tuple (by decide +kernel) (pa_cons (pv 5) pa_nil)))))))), ?_⟩
    walk_at "op"
    walk_at "st"
    refine fun way H1 hw0 hw7 hB1 x1 => ?_
    walk_at "st"
    refine fun L hL => ?_
    have nL := hB1.ne hL
    refine lR (fun i H2 => Bag H2 p ∧ Ext p H1 H2 ∧ ∃ fs : List Int, H2 L = some (.lst (fs.map V.int)) ∧ fs.length = i ∧ ∀ e ∈ fs, 0 ≤ e ∧ e < (m : Int)) ?_ ?_ ?_
    · exact ⟨hB1.up nL, ext_new hL, [], upd_same, rfl, fun e he => by simp at he⟩
    · rintro i H2 hi ⟨hB2, x2, fs, hLs, hl, hf⟩
      walk_at "op"
      refine ⟨rfl, ?_⟩
      walk_at "st"
      refine fun k' H3 k0 k1 hB3 x3 => ?_
      have hL3 := x3 _ _ hLs nL.symm
      refine ⟨_, hL3, by rw [List.length_map, hl]; exact small1000 (by have : Int.toNat 36 = 36 := rfl; omega), hB3.up nL, (x2.trans x3).off hL, fs ++ [k'], ?_, by simp [hl], fun e he => ?_⟩
      · rw [upd_same, List.map_append]
        rfl
      · rcases List.mem_append.mp he with he | he
        · exact hf e he
        · simp at he
          subst he
          exact ⟨k0, k1⟩
    · rintro H2 ⟨hB2, x2, fs, hLs, hl, hf⟩
      have hl36 : fs.length = 36 := hl
      clear hl
      have x02 := x1.trans x2
      let G : Nat → Nat → Int := fun a b => (ways7 fs m a b).getD way.toNat 0
      have hG : ∀ a b, G a b = G b a := fun a b => by show (ways7 fs m a b).getD _ 0 = (ways7 fs m b a).getD _ 0; rw [ways7_comm]
      have hGat : ∀ a b : Nat, (ways7 fs m a b)[way.toNat]? = some (G a b) := fun a b => by
        have hlen : way.toNat < (ways7 fs m a b).length := by show way.toNat < 7; omega
        show _ = some ((ways7 fs m a b).getD way.toNat 0)
        rw [List.getD_eq_getElem?_getD, List.getElem?_eq_getElem hlen, Option.getD_some]
      have hGb : ∀ a b, a < m → b < m → 0 ≤ G a b ∧ G a b < (m : Int) := fun a b ha hb => ways7_in hf hl36 hm6 ha hb _ (List.mem_of_getElem? (hGat a b))
      refine ⟨by show 0 ≤ sizeLine; omega, fun R hR => ?_⟩
      have nR := hB2.ne hR
      have nLR : L ≠ R := ne_of_none hLs hR
      walk_at "st"
      rw [Int.toNat_natCast]
      refine fR (fun a σ H3 => Bag H3 p ∧ Ext p H2 H3 ∧ (∃ u4 u6 u7 u8 u9 u10 u11, σ = [some (.ref p), some (.int m), some (.int way), some (.ref L), u4, some (.ref R), u6, u7, u8, u9, u10, u11]) ∧ RowsAt H3 p R m a G)
        ⟨hB2.up nR, ext_new hR, ⟨_, _, _, _, _, _, _, rfl⟩, [], upd_same, Dats.nil⟩ ?_ ?_
      · rintro a σ H3 ha ⟨hB3, x3, ⟨u4, u6, u7, u8, u9, u10, u11, rfl⟩, xs, hRs, hD⟩
        rw [Int.zero_add]
        have hL3 := x3 _ _ hLs nL.symm
        walk_at "op"
        refine ⟨by show 0 ≤ sizeLine; omega, fun W hW => ?_⟩
        have nW := hB3.ne hW
        have nLW : L ≠ W := ne_of_none hL3 hW
        have nRW : R ≠ W := ne_of_none hRs hW
        walk_at "st"
        rw [Int.toNat_natCast]
        refine fR (fun b σ H4 => Bag H4 p ∧ Ext p H3 H4 ∧ (∃ u8 u9 u10 u11, σ = [some (.ref p), some (.int m), some (.int way), some (.ref L), u4, some (.ref R), some (.int a), some (.ref W), u8, u9, u10, u11]) ∧ RowAt H4 W a b G)
          ⟨hB3.up nW, ext_new hW, ⟨_, _, _, _, rfl⟩, upd_same⟩ ?_ ?_
        · rintro b σ H4 hb ⟨hB4, x4, ⟨u8, u9, u10, u11, rfl⟩, hWs⟩
          rw [Int.zero_add]
          have hL4 := x4 _ _ hL3 nL.symm
          walk_at "op"
          walk_at "st"
          refine ⟨_, _, _, _, rfl, rfl, SqL.of hL4, atI_of (by split <;> split <;> omega) (fs_at (by rw [hl36]; split <;> split <;> omega)), ?_⟩
          walk_at "st"
          refine ⟨_, _, _, _, rfl, rfl, SqL.of hL4, atI_of (i := 0) (by decide) (fs_at (by rw [hl36]; decide)), ?_⟩
          walk_at "st"
          refine ⟨by show 7 ≤ sizeLine; decide, fun S hS => ?_⟩
          have nWS : W ≠ S := ne_of_none hWs hS
          have nS := hB4.ne hS
          walk_at "st"
          have hW5 : ∀ o, upd H4 S o W = some (.lst (((List.range b).map fun y => G a y).map V.int)) := fun o => by rw [upd_ne nWS]; exact hWs
          refine ⟨.inl ⟨rfl, _, SqL.of (hW5 _)⟩, ?_⟩
          walk_at "st"
          refine ⟨_, _, _, _, rfl, rfl, SqL.of upd_same, atI_of (v := .int (G a b)) hw0 (by show ((ways7 fs m a b).map V.int)[way.toNat]? = _; rw [List.getElem?_map, hGat]; rfl), ?_⟩
          refine ⟨_, _, _, rfl, rfl, hW5 _, by rw [List.length_map, List.length_map, List.length_range]; exact small1000 (by omega), ?_⟩
          refine ⟨(hB4.up nS).up nW, (x4.off (x4.free nS.symm hS)).off hW, ⟨_, _, _, _, rfl⟩, ?_⟩
          show _ = _
          rw [upd_same, range_snoc, List.map_append]
          rfl
        · rintro σ H4 ⟨hB4, x4, ⟨u8, u9, u10, u11, rfl⟩, hWs⟩
          have hR4 := x4 _ _ hRs nR.symm
          walk_at "op"
          walk_at "st"
          refine ⟨.inl ⟨rfl, _, SqL.of hR4⟩, ?_⟩
          walk_at "st"
          refine ⟨_, _, rfl, .inl ⟨SqL.of hWs, fun t ht => ?_⟩⟩
          have nRt : R ≠ t := ne_of_none hR4 ht
          have nt := hB4.ne ht
          refine ⟨_, _, _, rfl, rfl, (by rw [upd_ne nRt]; exact hR4), by rw [hD.1, List.length_map, List.length_range]; exact small1000 (by omega), ?_⟩
          refine ⟨(hB4.up nt).up nR, ((x3.trans x4).off ((x3.trans x4).free nt.symm ht)).off hR, ⟨_, _, _, _, _, _, _, rfl⟩, _, upd_same, ?_⟩
          rw [range_snoc]
          have hD4 : Dats (upd H4 t (.tup (((List.range m).map fun y => G a y).map V.int))) p xs _ := (hD.ext x4).ext (ext_new ht)
          refine Dats.snoc (hD4.setL (by rw [upd_ne nRt]; exact hR4) fun d hd => ?_) (Dat.setL (by rw [upd_ne nRt]; exact hR4) (Dat.new ht nt.symm ?_) (noList_ints _ _))
          · obtain ⟨x, _, rfl⟩ := List.mem_map.mp hd
            exact noList_ints _ _
          · have q := Dats.ints (H := H4) (p := p) ((List.range m).map fun y => G a y)
            rw [List.map_map (g := PyData.int)] at q
            exact q
      · rintro σ H3 ⟨hB3, x3, ⟨u4, u6, u7, u8, u9, u10, u11, rfl⟩, xs, hRs, hD⟩
        walk_at "op"
        walk_at "st"
        refine ⟨_, _, rfl, .inl ⟨SqL.of hRs, fun t ht => ?_⟩⟩
        have nt := hB3.ne ht
        exact k _ _ _ (hB3.up nt) ((x02.trans x3).trans (ext_new ht)) (Dat.new ht nt.symm hD) (tab_of hG hGb)
end
end Fm
end FQ5
section FQ6
set_option Elab.async false
set_option linter.all false
set_option maxRecDepth 100000
set_option maxHeartbeats 4000000
local macro_rules | `(tactic| walk_at "ne") => `(tactic| first | assumption | (apply Ne.symm; assumption) | exact L2.ne_of_none (by assumption) (by assumption) | exact Ne.symm (L2.ne_of_none (by assumption) (by assumption)))
local macro_rules | `(tactic| walk_at "hl") => `(tactic| first | assumption | exact L2.upd_same | (refine Eq.trans (L2.upd_ne (by walk_at "ne")) ?_; walk_at "hl"))
local macro_rules | `(tactic| walk_at "sd") => `(tactic| first | (with_reducible show (_ : Int) < _; omega) | (with_reducible show (_ : Int) ≤ _; omega) | assumption | decide | exact ⟨by assumption, by assumption⟩ | exact ⟨by decide, by decide⟩ | exact Or.inr ⟨by decide, by decide⟩ | exact Or.inl ⟨by omega, by omega⟩)
local macro_rules | `(tactic| walk_at "st1") => `(tactic| first
  | refine ⟨_, rfl, ?_⟩
  | refine ⟨_, _, rfl, rfl, ?_⟩
  | refine ⟨_, _, rfl, ?_⟩
  | (refine ⟨_, _, _, _, rfl, rfl, L2.SqL.of (by walk_at "hl"), rfl, ?_⟩)
  | (refine ⟨_, _, _, _, rfl, rfl, L2.SqT.of (by walk_at "hl"), rfl, ?_⟩)
  | (refine ⟨_, _, _, _, rfl, rfl, (by walk_at "hl"), rfl, ?_⟩)
  | (refine And.intro (by walk_at "sd") ?_)
  )
local macro_rules | `(tactic| walk_at "st") => `(tactic| repeat walk_at "st1")
local macro_rules | `(tactic| walk_at "op") => `(tactic| try dsimp only [L2.tSeq, L2.tAsg, L2.tOp, L2.tVar, L2.tC, L2.gSub, L2.rI, L2.rI0, L2.rIxL, L2.rIxT, L2.rSetL, L2.tIfS, L2.tTest, L2.tRet, L2.gName, L2.tNext, L2.tAnd, L2.tOr, L2.tNot, L2.tAndV, L2.tOrV, L2.tNotV, L2.tB, L2.tCB, L2.tCons, L2.tNil, L2.tCall, L2.tTup, L2.tLst, L2.tChain, L2.tUn, L2.tPar, L2.tDrop, L2.tIf, L2.tBM, L2.tBM0, L2.rAppend, L2.rCat, L2.rCatA, L2.rRepT, L2.rIsi, L2.rIsiT, L2.gTup, L2.gCons, L2.gNil, Fm.tFor_eq, Fm.tLc_eq, L2.iTup, L2.iList, L2.iRng1, L2.iRng2, L2.tSl, L2.tPart, L2.tNoPart, L2.rSlA, L2.rSlL, L2.rEq, L2.rNe, L2.rU, L2.rSlT, L2.rEqD, L2.rNeD, Fm.tRevT, Fm.rTimes, Fm.rLenS, Fm.rTupOf, Fm.rLstOf, Fm.rOnce, L2.tDNewK, L2.tCallS, L2.WE, Fm.wKeep, Fm.rIsK, Fm.rIsKT, List.cons_append, List.nil_append, L2.tYes])
namespace Fm
open PySem PySem.Spec PyProof.Rows L2
abbrev s_law_up : Stmt := top 36
abbrev N_law_up : List Str := ["bag", "m", "stay", "way", "free", "k", "rows", "a", "row", "b", "least", "most", "some"]
theorem sc_law_up : FnScope N_law_up ["bag", "m", "stay"] (defScope s_law_up) := ⟨rfl, rfl, rfl, by decide +kernel, rfl, by decide +kernel, by decide +kernel⟩
section
variable {P : Program} {w : World} {K : PySem.W.Frag} {mg : Str → Option Value} {base : Heap}
/-- a number of rows of data -/
def cellI (rs : List PyData) (a b : Nat) : Int := match cellD rs a b with
  | .int i => i
  | _ => 0
theorem cellI_in {m : Nat} {rs : List PyData} (hl : rs.length = m) (hr : ∀ r ∈ rs, RowD m r) {a b : Nat} (ha : a < m) (hb : b < m) : 0 ≤ cellI rs a b ∧ cellI rs a b < (m : Int) := by
  have e1 : rs[a]? = some rs[a] := List.getElem?_eq_getElem (by omega)
  obtain ⟨es, he, hes, hi⟩ := hr rs[a] (List.getElem_mem _)
  have e2 : es[b]? = some es[b] := List.getElem?_eq_getElem (by omega)
  obtain ⟨i, hei, h0, h1⟩ := hi es[b] (List.getElem_mem _)
  have : cellD rs a b = .int i := by
    unfold cellD
    rw [e1, he]
    simp only [e2, hei, Option.getD_some]
  unfold cellI
  rw [this]
  exact ⟨h0, h1⟩
theorem cellI_comm {m : Nat} {rs : List PyData} (h : ∀ a b, a < m → b < m → cellD rs a b = cellD rs b a) {a b : Nat} (ha : a < m) (hb : b < m) : cellI rs a b = cellI rs b a := by
  unfold cellI
  rw [h a b ha hb]
theorem tab_of2 {m : Nat} {G : Nat → Nat → Int} (hs : ∀ a b, a < m → b < m → G a b = G b a) (hb : ∀ a b, a < m → b < m → 0 ≤ G a b ∧ G a b < (m : Int)) :
    TabD m (.tuple ((List.range m).map fun a => .tuple ((List.range m).map fun b => .int (G a b)))) := by
  refine ⟨_, rfl, by simp, fun r hr => ?_, fun a b ha hb => ?_⟩
  · obtain ⟨a, ha, rfl⟩ := List.mem_map.mp hr
    refine ⟨_, rfl, by simp, fun e he => ?_⟩
    obtain ⟨b, hb', rfl⟩ := List.mem_map.mp he
    exact ⟨_, rfl, hb a b (List.mem_range.mp ha) (List.mem_range.mp hb')⟩
  · have c : ∀ x y, x < m → y < m → cellD ((List.range m).map fun a => PyData.tuple ((List.range m).map fun b => .int (G a b))) x y = .int (G x y) := fun x y hx hy => by
      unfold cellD
      simp [hx, hy]
    rw [c a b ha hb, c b a hb ha, hs a b ha hb]
/-- the six ways of an up table's number -/
def ways6 (fs : List Int) (c m a b : Int) : List Int :=
  let lo := if b < a then b else a
  let hi := if b > a then b else a
  [fs.getD (lo * 6 + hi).toNat 0, lo, hi, (a + b) / m, fs.getD 0 0, c]
theorem ways6_comm (fs : List Int) (c m a b : Int) : ways6 fs c m a b = ways6 fs c m b a := by
  have e1 : (if b < a then b else a) = if a < b then a else b := by split <;> split <;> omega
  have e2 : (if b > a then b else a) = if a > b then a else b := by split <;> split <;> omega
  unfold ways6
  rw [e1, e2, Int.add_comm b a]
theorem ways6_in {fs : List Int} {c : Int} {m : Nat} {a b : Nat} (hf : ∀ f ∈ fs, 0 ≤ f ∧ f < (m : Int)) (hl : fs.length = 36) (hm : m ≤ 6) (ha : a < m) (hb : b < m) (hc : 0 ≤ c ∧ c < (m : Int)) : ∀ e ∈ ways6 fs c m a b, 0 ≤ e ∧ e < (m : Int) := by
  have gd : ∀ i, i < 36 → 0 ≤ fs.getD i 0 ∧ fs.getD i 0 < (m : Int) := fun i hi => by
    rw [List.getD_eq_getElem?_getD, List.getElem?_eq_getElem (show i < fs.length by omega), Option.getD_some]
    exact hf _ (List.getElem_mem _)
  intro e he
  unfold ways6 at he
  simp only [List.mem_cons, List.not_mem_nil, or_false] at he
  have m0 : (0 : Int) < m := by omega
  rcases he with rfl | rfl | rfl | rfl | rfl | rfl
  · apply gd
    split <;> split <;> omega
  · split <;> omega
  · split <;> omega
  · refine ⟨Int.ediv_nonneg (by omega) (by omega), ?_⟩
    apply Int.ediv_lt_of_lt_mul m0
    by_cases h1 : m = 1
    · subst h1
      omega
    · have : (m : Int) * m ≥ 2 * m := Int.mul_le_mul_of_nonneg_right (by omega) (by omega)
      omega
  · exact gd 0 (by omega)
  · exact hc
def spUp : Sp := fun vs H Q _ => ∃ (p : Addr) (m : Nat) (sv : V) (sd : PyData), vs = [.ref p, .int m, sv] ∧ 1 ≤ m ∧ m ≤ 6 ∧ Bag H p ∧ Dat H p sv sd ∧ TabD m sd ∧ ∀ (v : V) (d : PyData) (H' : Hp), Bag H' p → Ext p H H' → Dat H' p v d → TabD m d → Q v H'
theorem ok_law_up (D : Df K mg "_law_up" s_law_up ["bag", "m", "stay"]) (T : Nms mg) (c_law_pick : CallOk P w K mg base CX0 1 "_law_pick" ["bag", "many"] spPick) : CallOk P w K mg base CX0 2 "_law_up" ["bag", "m", "stay"] spUp := by
  refine df_ok D sc_law_up (fun vs H Q E h => ?_) (fun f cdv A outer s H vs Q E hr h => ?_)
  · obtain ⟨p, m, sv, sd, rfl, _⟩ := h
    rfl
  · obtain ⟨p, m, sv, sd, rfl, hm1, hm6, hB, hSD, hST, k⟩ := h
    obtain ⟨srs, rfl, hsl, hsr, hss⟩ := hST
    obtain ⟨sa, sx, rfl, hsa, hsp, hsD⟩ := hSD.isTup
    have nd := sc_law_up.nd
    have m0 : (0 : Int) < m := by omega
    have ml : (m : Int).natAbs.log2 < 9000 := Nat.lt_of_le_of_lt (Nat.log2_le_self _) (by omega)
    refine ⟨_, (pss_cons (ps_set (i := 3) nd rfl (Or.inl rfl) (pe_cc c_law_pick (hr.mono (by decide)) (pa_cons (pv 0) (pa_cons pe_int pa_nil))))
      (pss_cons (ps_setLc (i := 4) (own := [("k", 5)]) (g := (gName 5)) (tt := tYes) (by rfl) nd rfl rfl (sw_true rfl rfl rfl (by decide +kernel)) (pi_range1 rfl T.n_range (pa_cons pe_int pa_nil)) (blkOk_by (own := [("k", 5)]) (N := N_law_up) (sc := defScope s_law_up) (by decide +kernel)) (fun _ _ _ _ _ => (pg_name (i := 5) nd rfl (Or.inl rfl))) (fun _ _ _ _ _ => pts_nil) (fun _ _ _ _ _ => (pe_cc c_law_pick (hr.mono (by decide)) (pa_cons (pv 0) (pa_cons (pv 1) pa_nil)))))
      (pss_cons (ps_set (i := 6) nd rfl (Or.inl rfl) (pe_lst pa_nil))
      (pss_cons (ps_for PassesOwn.never rfl (pi_range1 rfl T.n_range (pa_cons (pv 1) pa_nil)) (pg_name (i := 7) nd rfl (Or.inl rfl)) (pss_cons (ps_set (i := 8) nd rfl (Or.inl rfl) (pe_lst pa_nil))
      (pss_cons (ps_for PassesOwn.never rfl (pi_range1 rfl T.n_range (pa_cons (pv 1) pa_nil)) (pg_name (i := 9) nd rfl (Or.inl rfl)) (pss_cons (ps_par (i := 10) (j := 11) (by rfl) nd rfl rfl (by decide) rfl rfl (pa_cons (pe_callB (call_min2 rfl) (by rfl) T.n_min (by decide +kernel) (pa_cons (pv 7) (pa_cons (pv 9) pa_nil))) (pa_cons (pe_callB (call_max2 rfl) (by rfl) T.n_max (by decide +kernel) (pa_cons (pv 7) (pa_cons (pv 9) pa_nil))) pa_nil)) (by rfl))
      (pss_cons (ps_set (i := 12) nd rfl (Or.inl rfl) (pe_lst (pa_cons (pe_ix (r := rIxL K) ix_list (pv 4) (pe_op op_add (pe_op op_mul (pv 10) pe_int) (pv 11)) (fun _ _ => rfl)) (pa_cons (pv 10) (pa_cons (pv 11) (pa_cons (pe_op op_fdivW (pe_op op_add (pv 7) (pv 9)) (pv 1)) (pa_cons (pe_ix (r := rIxL K) ix_list (pv 4) pe_int (fun _ _ => rfl)) (pa_cons (pe_ix (r := rIxT K) ix_tup (pe_ix (r := rIxT K) ix_tup (pv 2) (pv 7) (fun _ _ => rfl)) (pv 9) (fun _ _ => rfl)) pa_nil))))))))
      (pss_one (ps_expr (pe_bm PySem.F.plainAttrs_list PySem.F.slot_list_append PySem.F.type_list_append mt_append (pv 8) (pa_cons (pe_ix (r := rIxL K) ix_list (pv 12) (pv 3) (fun _ _ => rfl)) pa_nil)))))))
      (pss_one (ps_expr (pe_bm PySem.F.plainAttrs_list PySem.F.slot_list_append PySem.F.type_list_append mt_append (pv 6) (pa_cons (pe_callTy (r := rTupOf K) call_tupOf (by rfl) T.n_tuple (by decide +kernel) (pa_cons (pv 8) pa_nil)) pa_nil)))))))
      (pss_one (ps_ret (pe_callTy (r := rTupOf K) call_tupOf (by rfl) T.n_tuple (by decide +kernel) (pa_cons (pv 6) pa_nil)))))))), ?_⟩
    walk_at "op"
    walk_at "st"
    refine fun way H1 hw0 hw7 hB1 x1 => ?_
    walk_at "st"
    refine fun L hL => ?_
    have nL := hB1.ne hL
    refine lR (fun i H2 => Bag H2 p ∧ Ext p H1 H2 ∧ ∃ fs : List Int, H2 L = some (.lst (fs.map V.int)) ∧ fs.length = i ∧ ∀ e ∈ fs, 0 ≤ e ∧ e < (m : Int)) ?_ ?_ ?_
    · exact ⟨hB1.up nL, ext_new hL, [], upd_same, rfl, fun e he => by simp at he⟩
    · rintro i H2 hi ⟨hB2, x2, fs, hLs, hl, hf⟩
      walk_at "op"
      refine ⟨rfl, ?_⟩
      walk_at "st"
      refine fun k' H3 k0 k1 hB3 x3 => ?_
      have hL3 := x3 _ _ hLs nL.symm
      refine ⟨_, hL3, by rw [List.length_map, hl]; exact small1000 (by have : Int.toNat 36 = 36 := rfl; omega), hB3.up nL, (x2.trans x3).off hL, fs ++ [k'], ?_, by simp [hl], fun e he => ?_⟩
      · rw [upd_same, List.map_append]
        rfl
      · rcases List.mem_append.mp he with he | he
        · exact hf e he
        · simp at he
          subst he
          exact ⟨k0, k1⟩
    · rintro H2 ⟨hB2, x2, fs, hLs, hl, hf⟩
      have hl36 : fs.length = 36 := hl
      clear hl
      have x02 := x1.trans x2
      let G : Nat → Nat → Int := fun a b => (ways6 fs (cellI srs a b) m a b).getD way.toNat 0
      have hG : ∀ a b, a < m → b < m → G a b = G b a := fun a b ha hb => by show (ways6 fs (cellI srs a b) m a b).getD _ 0 = (ways6 fs (cellI srs b a) m b a).getD _ 0; rw [ways6_comm, cellI_comm hss ha hb]
      have hGat : ∀ a b : Nat, (ways6 fs (cellI srs a b) m a b)[way.toNat]? = some (G a b) := fun a b => by
        have hlen : way.toNat < (ways6 fs (cellI srs a b) m a b).length := by show way.toNat < 6; omega
        show _ = some ((ways6 fs (cellI srs a b) m a b).getD way.toNat 0)
        rw [List.getD_eq_getElem?_getD, List.getElem?_eq_getElem hlen, Option.getD_some]
      have hGb : ∀ a b, a < m → b < m → 0 ≤ G a b ∧ G a b < (m : Int) := fun a b ha hb => ways6_in hf hl36 hm6 ha hb (cellI_in hsl hsr ha hb) _ (List.mem_of_getElem? (hGat a b))
      refine ⟨by show 0 ≤ sizeLine; omega, fun R hR => ?_⟩
      have nR := hB2.ne hR
      have nLR : L ≠ R := ne_of_none hLs hR
      walk_at "st"
      rw [Int.toNat_natCast]
      refine fR (fun a σ H3 => Bag H3 p ∧ Ext p H2 H3 ∧ (∃ u4 u6 u7 u8 u9 u10 u11, σ = [some (.ref p), some (.int m), some (.ref sa), some (.int way), some (.ref L), u4, some (.ref R), u6, u7, u8, u9, u10, u11]) ∧ RowsAt H3 p R m a G)
        ⟨hB2.up nR, ext_new hR, ⟨_, _, _, _, _, _, _, rfl⟩, [], upd_same, Dats.nil⟩ ?_ ?_
      · rintro a σ H3 ha ⟨hB3, x3, ⟨u4, u6, u7, u8, u9, u10, u11, rfl⟩, xs, hRs, hD⟩
        rw [Int.zero_add]
        have hL3 := x3 _ _ hLs nL.symm
        walk_at "op"
        refine ⟨by show 0 ≤ sizeLine; omega, fun W hW => ?_⟩
        have nW := hB3.ne hW
        have nLW : L ≠ W := ne_of_none hL3 hW
        have nRW : R ≠ W := ne_of_none hRs hW
        walk_at "st"
        rw [Int.toNat_natCast]
        refine fR (fun b σ H4 => Bag H4 p ∧ Ext p H3 H4 ∧ (∃ u8 u9 u10 u11, σ = [some (.ref p), some (.int m), some (.ref sa), some (.int way), some (.ref L), u4, some (.ref R), some (.int a), some (.ref W), u8, u9, u10, u11]) ∧ RowAt H4 W a b G)
          ⟨hB3.up nW, ext_new hW, ⟨_, _, _, _, rfl⟩, upd_same⟩ ?_ ?_
        · rintro b σ H4 hb ⟨hB4, x4, ⟨u8, u9, u10, u11, rfl⟩, hWs⟩
          rw [Int.zero_add]
          have hL4 := x4 _ _ hL3 nL.symm
          walk_at "op"
          walk_at "st"
          refine ⟨_, _, _, _, rfl, rfl, SqL.of hL4, atI_of (by split <;> split <;> omega) (fs_at (by rw [hl36]; split <;> split <;> omega)), ?_⟩
          walk_at "st"
          refine ⟨_, _, _, _, rfl, rfl, SqL.of hL4, atI_of (i := 0) (by decide) (fs_at (by rw [hl36]; decide)), ?_⟩
          walk_at "st"
          have hsa4 := x4 _ _ (x3 _ _ (x2 _ _ (x1 _ _ hsa hsp) hsp) hsp) hsp
          obtain ⟨ra, ys, ci, a1, a2, a3, a4, _⟩ := cell_at ((((hsD.ext x1).ext x2).ext x3).ext x4) hsl hsr (a := a) (b := b) (by omega) (by omega)
          have hci : ci = cellI srs a b := by unfold cellI; rw [a4]
          subst hci
          refine ⟨_, _, _, _, rfl, rfl, SqT.of hsa4, atI_nat a1, ?_⟩
          walk_at "st"
          refine ⟨_, _, _, _, rfl, rfl, SqT.of a2, atI_nat a3, ?_⟩
          refine ⟨by show 6 ≤ sizeLine; decide, fun S hS => ?_⟩
          have nWS : W ≠ S := ne_of_none hWs hS
          have nS := hB4.ne hS
          walk_at "st"
          have hW5 : ∀ o, upd H4 S o W = some (.lst (((List.range b).map fun y => G a y).map V.int)) := fun o => by rw [upd_ne nWS]; exact hWs
          refine ⟨.inl ⟨rfl, _, SqL.of (hW5 _)⟩, ?_⟩
          walk_at "st"
          refine ⟨_, _, _, _, rfl, rfl, SqL.of upd_same, atI_of (v := .int (G a b)) hw0 (by show ((ways6 fs (cellI srs a b) m a b).map V.int)[way.toNat]? = _; rw [List.getElem?_map, hGat]; rfl), ?_⟩
          refine ⟨_, _, _, rfl, rfl, hW5 _, by rw [List.length_map, List.length_map, List.length_range]; exact small1000 (by omega), ?_⟩
          refine ⟨(hB4.up nS).up nW, (x4.off (x4.free nS.symm hS)).off hW, ⟨_, _, _, _, rfl⟩, ?_⟩
          show _ = _
          rw [upd_same, range_snoc, List.map_append]
          rfl
        · rintro σ H4 ⟨hB4, x4, ⟨u8, u9, u10, u11, rfl⟩, hWs⟩
          have hR4 := x4 _ _ hRs nR.symm
          walk_at "op"
          walk_at "st"
          refine ⟨.inl ⟨rfl, _, SqL.of hR4⟩, ?_⟩
          walk_at "st"
          refine ⟨_, _, rfl, .inl ⟨SqL.of hWs, fun t ht => ?_⟩⟩
          have nRt : R ≠ t := ne_of_none hR4 ht
          have nt := hB4.ne ht
          refine ⟨_, _, _, rfl, rfl, (by rw [upd_ne nRt]; exact hR4), by rw [hD.1, List.length_map, List.length_range]; exact small1000 (by omega), ?_⟩
          refine ⟨(hB4.up nt).up nR, ((x3.trans x4).off ((x3.trans x4).free nt.symm ht)).off hR, ⟨_, _, _, _, _, _, _, rfl⟩, _, upd_same, ?_⟩
          rw [range_snoc]
          have hD4 : Dats (upd H4 t (.tup (((List.range m).map fun y => G a y).map V.int))) p xs _ := (hD.ext x4).ext (ext_new ht)
          refine Dats.snoc (hD4.setL (by rw [upd_ne nRt]; exact hR4) fun d hd => ?_) (Dat.setL (by rw [upd_ne nRt]; exact hR4) (Dat.new ht nt.symm ?_) (noList_ints _ _))
          · obtain ⟨x, _, rfl⟩ := List.mem_map.mp hd
            exact noList_ints _ _
          · have q := Dats.ints (H := H4) (p := p) ((List.range m).map fun y => G a y)
            rw [List.map_map (g := PyData.int)] at q
            exact q
      · rintro σ H3 ⟨hB3, x3, ⟨u4, u6, u7, u8, u9, u10, u11, rfl⟩, xs, hRs, hD⟩
        walk_at "op"
        walk_at "st"
        refine ⟨_, _, rfl, .inl ⟨SqL.of hRs, fun t ht => ?_⟩⟩
        have nt := hB3.ne ht
        exact k _ _ _ (hB3.up nt) ((x02.trans x3).trans (ext_new ht)) (Dat.new ht nt.symm hD) (tab_of2 hG hGb)
end
end Fm
end FQ6
section FQ7
set_option Elab.async false
set_option linter.all false
set_option maxRecDepth 100000
set_option maxHeartbeats 4000000
local macro_rules | `(tactic| walk_at "ne") => `(tactic| first | assumption | (apply Ne.symm; assumption) | exact L2.ne_of_none (by assumption) (by assumption) | exact Ne.symm (L2.ne_of_none (by assumption) (by assumption)))
local macro_rules | `(tactic| walk_at "hl") => `(tactic| first | assumption | exact L2.upd_same | (refine Eq.trans (L2.upd_ne (by walk_at "ne")) ?_; walk_at "hl"))
local macro_rules | `(tactic| walk_at "sd") => `(tactic| first | (with_reducible show (_ : Int) < _; omega) | (with_reducible show (_ : Int) ≤ _; omega) | assumption | decide | exact ⟨by assumption, by assumption⟩ | exact ⟨by decide, by decide⟩ | exact Or.inr ⟨by decide, by decide⟩ | exact Or.inl ⟨by omega, by omega⟩)
local macro_rules | `(tactic| walk_at "st1") => `(tactic| first
  | refine ⟨_, rfl, ?_⟩
  | refine ⟨_, _, rfl, rfl, ?_⟩
  | refine ⟨_, _, rfl, ?_⟩
  | (refine ⟨_, _, _, _, rfl, rfl, L2.SqL.of (by walk_at "hl"), rfl, ?_⟩)
  | (refine ⟨_, _, _, _, rfl, rfl, L2.SqT.of (by walk_at "hl"), rfl, ?_⟩)
  | (refine ⟨_, _, _, _, rfl, rfl, (by walk_at "hl"), rfl, ?_⟩)
  | (refine And.intro (by walk_at "sd") ?_)
  )
local macro_rules | `(tactic| walk_at "st") => `(tactic| repeat walk_at "st1")
local macro_rules | `(tactic| walk_at "op") => `(tactic| try dsimp only [L2.tSeq, L2.tAsg, L2.tOp, L2.tVar, L2.tC, L2.gSub, L2.rI, L2.rI0, L2.rIxL, L2.rIxT, L2.rSetL, L2.tIfS, L2.tTest, L2.tRet, L2.gName, L2.tNext, L2.tAnd, L2.tOr, L2.tNot, L2.tAndV, L2.tOrV, L2.tNotV, L2.tB, L2.tCB, L2.tCons, L2.tNil, L2.tCall, L2.tTup, L2.tLst, L2.tChain, L2.tUn, L2.tPar, L2.tDrop, L2.tIf, L2.tBM, L2.tBM0, L2.rAppend, L2.rCat, L2.rCatA, L2.rRepT, L2.rIsi, L2.rIsiT, L2.gTup, L2.gCons, L2.gNil, Fm.tFor_eq, Fm.tLc_eq, L2.iTup, L2.iList, L2.iRng1, L2.iRng2, L2.tSl, L2.tPart, L2.tNoPart, L2.rSlA, L2.rSlL, L2.rEq, L2.rNe, L2.rU, L2.rSlT, L2.rEqD, L2.rNeD, Fm.tRevT, Fm.rTimes, Fm.rLenS, Fm.rTupOf, Fm.rLstOf, Fm.rOnce, L2.tDNewK, L2.tCallS, L2.WE, Fm.wKeep, Fm.rIsK, Fm.rIsKT, List.cons_append, List.nil_append, L2.tYes])
namespace Fm
open PySem PySem.Spec PyProof.Rows L2
abbrev s_law_house : Stmt := top 37
abbrev N_law_house : List Str := ["bag", "m", "floors", "found", "k", "stay"]
theorem sc_law_house : FnScope N_law_house ["bag"] (defScope s_law_house) := ⟨rfl, rfl, rfl, by decide +kernel, rfl, by decide +kernel, by decide +kernel⟩
section
variable {P : Program} {w : World} {K : PySem.W.Frag} {mg : Str → Option Value} {base : Heap}
theorem row_fit {m : Nat} {d : PyData} (hm : m ≤ 6) (h : RowD m d) : Fit 300 1 d ∧ noList d = true ∧ d.hasDict = false := by
  obtain ⟨ds, rfl, hl, hd⟩ := h
  have h1 : ∀ e ∈ ds, Fit 41 0 e := fun e he => by
    obtain ⟨i, rfl, h0, hi⟩ := hd e he
    refine fit_int ?_
    have : i.natAbs < 10 := by omega
    exact Nat.lt_of_lt_of_le this (by decide)
  have h2 : ∀ e ∈ ds, noList e = true := fun e he => by
    obtain ⟨i, rfl, _⟩ := hd e he
    unfold noList
    rfl
  have h3 : ∀ e ∈ ds, e.hasDict = false := fun e he => by
    obtain ⟨i, rfl, _⟩ := hd e he
    simp only [PyData.hasDict]
  exact ⟨(fit_tup h1 h2).mono (by rw [hl]; omega) (by omega), noList_of h2, by simp only [PyData.hasDict]; exact hasDict_all h3⟩
theorem tab_fit {m : Nat} {d : PyData} (hm : m ≤ 6) (h : TabD m d) : Fit 2000 2 d ∧ noList d = true ∧ d.hasDict = false := by
  obtain ⟨ds, rfl, hl, hd, _⟩ := h
  have h1 := fun e he => row_fit hm (hd e he)
  exact ⟨(fit_tup (fun e he => (h1 e he).1) fun e he => (h1 e he).2.1).mono (by rw [hl]; omega) (by omega), noList_of fun e he => (h1 e he).2.1, by simp only [PyData.hasDict]; exact hasDict_all fun e he => (h1 e he).2.2⟩
theorem floor_fit {m : Nat} {d : PyData} (hm : m ≤ 6) (h : FloorD m d) : Fit 5000 3 d ∧ noList d = true ∧ d.hasDict = false := by
  obtain ⟨s, u, rfl, hs, hu⟩ := h
  have h1 : ∀ e ∈ [s, u], Fit 2000 2 e ∧ noList e = true ∧ e.hasDict = false := fun e he => by
    simp only [List.mem_cons, List.not_mem_nil, or_false] at he
    rcases he with rfl | rfl
    · exact tab_fit hm hs
    · exact tab_fit hm hu
  exact ⟨(fit_tup (fun e he => (h1 e he).1) fun e he => (h1 e he).2.1).mono (by show _ * 2 + 3 ≤ _; omega) (by omega), noList_of fun e he => (h1 e he).2.1, by simp only [PyData.hasDict]; exact hasDict_all fun e he => (h1 e he).2.2⟩
theorem house_fit {m n : Nat} {d : PyData} (h : HouseN m n d) : Fit 30000 4 d ∧ noList d = true ∧ d.hasDict = false := by
  obtain ⟨ds, rfl, hl, h1, h4, _, hm, hd⟩ := h
  have h1 := fun e he => floor_fit hm (hd e he)
  exact ⟨(fit_tup (fun e he => (h1 e he).1) fun e he => (h1 e he).2.1).mono (by rw [hl]; omega) (by omega), noList_of fun e he => (h1 e he).2.1, by simp only [PyData.hasDict]; exact hasDict_all fun e he => (h1 e he).2.2⟩
def spMkHouse : Sp := fun vs H Q _ => ∃ p : Addr, vs = [.ref p] ∧ Bag H p ∧ ∀ (v : V) (d : PyData) (m n : Nat) (H' : Hp), Bag H' p → Ext p H H' → Dat H' p v d → HouseN m n d → Q v H'
theorem ok_law_house (D : Df K mg "_law_house" s_law_house ["bag"]) (T : Nms mg) (c_law_pick : CallOk P w K mg base CX0 1 "_law_pick" ["bag", "many"] spPick) (c_law_table : CallOk P w K mg base CX0 2 "_law_table" ["bag", "m"] spTab)
    (c_law_up : CallOk P w K mg base CX0 2 "_law_up" ["bag", "m", "stay"] spUp) : CallOk P w K mg base CX0 3 "_law_house" ["bag"] spMkHouse := by
  refine df_ok D sc_law_house (fun vs H Q E h => ?_) (fun f cdv A outer s H vs Q E hr h => ?_)
  · obtain ⟨p, rfl, _⟩ := h
    rfl
  · obtain ⟨p, rfl, hB, k⟩ := h
    have nd := sc_law_house.nd
    refine ⟨_, (pss_cons (ps_par (i := 1) (j := 2) (by rfl) nd rfl rfl (by decide) rfl rfl (pa_cons (pe_op op_add pe_int (pe_cc c_law_pick (hr.mono (by decide)) (pa_cons (pv 0) (pa_cons (pe_ix (r := rIxL K) ix_list (pe_lst (pa_cons pe_int (pa_cons pe_int pa_nil))) (pe_cc c_law_pick (hr.mono (by decide)) (pa_cons (pv 0) (pa_cons pe_int pa_nil))) (fun _ _ => rfl)) pa_nil)))) (pa_cons (pe_op op_add pe_int (pe_cc c_law_pick (hr.mono (by decide)) (pa_cons (pv 0) (pa_cons pe_int pa_nil)))) pa_nil)) (by rfl))
      (pss_cons (ps_set (i := 3) nd rfl (Or.inl rfl) (pe_lst pa_nil))
      (pss_cons (ps_for PassesOwn.never rfl (pi_range1 rfl T.n_range (pa_cons (pv 2) pa_nil)) (pg_name (i := 4) nd rfl (Or.inl rfl)) (pss_cons (ps_set (i := 5) nd rfl (Or.inl rfl) (pe_cc c_law_table (hr.mono (by decide)) (pa_cons (pv 0) (pa_cons (pv 1) pa_nil))))
      (pss_one (ps_expr (pe_bm PySem.F.plainAttrs_list PySem.F.slot_list_append PySem.F.type_list_append mt_append (pv 3) (pa_cons (pe_tup (pa_cons (pv 5) (pa_cons (pe_cc c_law_up (hr.mono (by decide)) (pa_cons (pv 0) (pa_cons (pv 1) (pa_cons (pv 5) pa_nil)))) pa_nil))) pa_nil))))))
      (pss_one (ps_ret (pe_callTy (r := rTupOf K) call_tupOf (by rfl) T.n_tuple (by decide +kernel) (pa_cons (pv 3) pa_nil))))))), ?_⟩
    walk_at "op"
    walk_at "st"
    refine fun q0 hq0 => ?_
    have hB0 := hB.up (o := .lst [.int 3, .int 6]) (hB.ne hq0)
    have n0 := hB.ne hq0
    walk_at "st"
    refine fun k0 H1 k00 k02 hB1 x1 => ?_
    obtain ⟨c, hc, c1, c6⟩ : ∃ c : Int, atI [V.int 3, V.int 6] k0 = some (.int c) ∧ 1 ≤ c ∧ c ≤ 6 := by
      rcases (show k0 = 0 ∨ k0 = 1 by omega) with rfl | rfl
      · exact ⟨3, rfl, by decide, by decide⟩
      · exact ⟨6, rfl, by decide, by decide⟩
    have hq1 := x1 _ _ (upd_same (H := H) (a := q0)) n0.symm
    have cl : c.natAbs.log2 < 9000 := Nat.lt_of_le_of_lt (Nat.log2_le_self _) (by omega)
    refine ⟨_, _, _, _, rfl, rfl, SqL.of hq1, hc, ?_⟩
    walk_at "st"
    refine fun m1 H2 m10 m11 hB2 x2 => ?_
    walk_at "st"
    refine fun n1 H3 n10 n11 hB3 x3 => ?_
    obtain ⟨m, hm⟩ : ∃ m : Nat, (m : Int) = 1 + m1 := ⟨(1 + m1).toNat, by omega⟩
    obtain ⟨n, hn⟩ : ∃ n : Nat, (n : Int) = 1 + n1 := ⟨(1 + n1).toNat, by omega⟩
    have hm6 : m ≤ 6 := by omega
    have hm1 : 1 ≤ m := by omega
    have hn4 : n ≤ 4 := by omega
    have x03 : Ext p H H3 := (((ext_new hq0).trans x1).trans x2).trans x3
    walk_at "st"
    rw [← hm, ← hn]
    refine fun R hR => ?_
    have nR := hB3.ne hR
    walk_at "st"
    rw [Int.toNat_natCast]
    refine fR (fun i σ H4 => Bag H4 p ∧ Ext p H3 H4 ∧ (∃ u4 u5, σ = [some (.ref p), some (.int m), some (.int n), some (.ref R), u4, u5]) ∧ ∃ xs ds, H4 R = some (.lst xs) ∧ Dats H4 p xs ds ∧ ds.length = i ∧ ∀ e ∈ ds, FloorD m e)
      ⟨hB3.up nR, ext_new hR, ⟨_, _, rfl⟩, [], [], upd_same, Dats.nil, rfl, fun e he => by simp at he⟩ ?_ ?_
    · rintro i σ H4 hi ⟨hB4, x4, ⟨u4, u5, rfl⟩, xs, ds, hRs, hD, hl, hf⟩
      walk_at "op"
      walk_at "st"
      refine fun sv sd H5 hB5 x5 hsd hst => ?_
      have hR5 := x5 _ _ hRs nR.symm
      walk_at "st"
      refine ⟨.inl ⟨rfl, _, SqL.of hR5⟩, ?_⟩
      walk_at "st"
      refine ⟨p, m, sv, sd, rfl, hm1, hm6, hB5, hsd, hst, fun uv ud H6 hB6 x6 hud hut => ?_⟩
      have hR6 := x6 _ _ hR5 nR.symm
      refine ⟨by show 2 ≤ sizeLine; decide, fun t ht => ?_⟩
      have nt := hB6.ne ht
      have nRt : R ≠ t := ne_of_none hR6 ht
      have x36 := (x4.trans x5).trans x6
      refine ⟨_, _, _, rfl, rfl, (by rw [upd_ne nRt]; exact hR6), by rw [hD.1, hl]; exact small1000 (by omega), ?_⟩
      have hD6 : Dats (upd H6 t (.tup [sv, uv])) p xs ds := ((hD.ext x5).ext x6).ext (ext_new ht)
      have hN : Dat (upd H6 t (.tup [sv, uv])) p (.ref t) (.tuple [sd, ud]) := Dat.new ht nt.symm (Dats.cons (hsd.ext x6) (Dats.cons hud Dats.nil))
      have hFN : FloorD m (.tuple [sd, ud]) := ⟨sd, ud, rfl, hst, hut⟩
      refine ⟨(hB6.up nt).up nR, (x36.off (x36.free nt.symm ht)).off hR, ⟨_, _, rfl⟩, _, _, upd_same, Dats.snoc (hD6.setL (by rw [upd_ne nRt]; exact hR6) fun e he => (floor_fit hm6 (hf e he)).2.1) (hN.setL (by rw [upd_ne nRt]; exact hR6) (floor_fit hm6 hFN).2.1), by simp [hl], fun e he => ?_⟩
      rcases List.mem_append.mp he with he | he
      · exact hf e he
      · simp at he
        subst he
        exact hFN
    · rintro σ H4 ⟨hB4, x4, ⟨u4, u5, rfl⟩, xs, ds, hRs, hD, hl, hf⟩
      walk_at "op"
      walk_at "st"
      refine ⟨_, _, rfl, .inl ⟨SqL.of hRs, fun t ht => ?_⟩⟩
      have nt := hB4.ne ht
      exact k _ _ m n _ (hB4.up nt) ((x03.trans x4).trans (ext_new ht)) (Dat.new ht nt.symm hD) ⟨ds, rfl, hl, by omega, hn4, hm1, hm6, hf⟩
end
end Fm
end FQ7
section FQ8
set_option Elab.async false
set_option linter.all false
set_option maxRecDepth 100000
set_option maxHeartbeats 4000000
local macro_rules | `(tactic| walk_at "ne") => `(tactic| first | assumption | (apply Ne.symm; assumption) | exact L2.ne_of_none (by assumption) (by assumption) | exact Ne.symm (L2.ne_of_none (by assumption) (by assumption)))
local macro_rules | `(tactic| walk_at "hl") => `(tactic| first | assumption | exact L2.upd_same | (refine Eq.trans (L2.upd_ne (by walk_at "ne")) ?_; walk_at "hl"))
local macro_rules | `(tactic| walk_at "sd") => `(tactic| first | (with_reducible show (_ : Int) < _; omega) | (with_reducible show (_ : Int) ≤ _; omega) | assumption | decide | exact ⟨by assumption, by assumption⟩ | exact ⟨by decide, by decide⟩ | exact Or.inr ⟨by decide, by decide⟩ | exact Or.inl ⟨by omega, by omega⟩)
local macro_rules | `(tactic| walk_at "st1") => `(tactic| first
  | refine ⟨_, rfl, ?_⟩
  | refine ⟨_, _, rfl, rfl, ?_⟩
  | refine ⟨_, _, rfl, ?_⟩
  | (refine ⟨_, _, _, _, rfl, rfl, L2.SqL.of (by walk_at "hl"), rfl, ?_⟩)
  | (refine ⟨_, _, _, _, rfl, rfl, L2.SqT.of (by walk_at "hl"), rfl, ?_⟩)
  | (refine ⟨_, _, _, _, rfl, rfl, (by walk_at "hl"), rfl, ?_⟩)
  | (refine And.intro (by walk_at "sd") ?_)
  )
local macro_rules | `(tactic| walk_at "st") => `(tactic| repeat walk_at "st1")
local macro_rules | `(tactic| walk_at "op") => `(tactic| try dsimp only [L2.tSeq, L2.tAsg, L2.tOp, L2.tVar, L2.tC, L2.gSub, L2.rI, L2.rI0, L2.rIxL, L2.rIxT, L2.rSetL, L2.tIfS, L2.tTest, L2.tRet, L2.gName, L2.tNext, L2.tAnd, L2.tOr, L2.tNot, L2.tAndV, L2.tOrV, L2.tNotV, L2.tB, L2.tCB, L2.tCons, L2.tNil, L2.tCall, L2.tTup, L2.tLst, L2.tChain, L2.tUn, L2.tPar, L2.tDrop, L2.tIf, L2.tBM, L2.tBM0, L2.rAppend, L2.rCat, L2.rCatA, L2.rRepT, L2.rIsi, L2.rIsiT, L2.gTup, L2.gCons, L2.gNil, Fm.tFor_eq, Fm.tLc_eq, L2.iTup, L2.iList, L2.iRng1, L2.iRng2, L2.tSl, L2.tPart, L2.tNoPart, L2.rSlA, L2.rSlL, L2.rEq, L2.rNe, L2.rU, L2.rSlT, L2.rEqD, L2.rNeD, Fm.tRevT, Fm.rTimes, Fm.rLenS, Fm.rTupOf, Fm.rLstOf, Fm.rOnce, L2.tDNewK, L2.tCallS, L2.WE, Fm.wKeep, Fm.rIsK, Fm.rIsKT, List.cons_append, List.nil_append, L2.tYes])
namespace Fm
open PySem PySem.Spec PyProof.Rows L2
abbrev s_law_is_table : Stmt := top 38
abbrev N_law_is_table : List Str := ["m", "thing", "row", "number", "k"]
theorem sc_law_is_table : FnScope N_law_is_table ["m", "thing"] (defScope s_law_is_table) := ⟨rfl, rfl, rfl, by decide +kernel, rfl, by decide +kernel, by decide +kernel⟩
section
variable {P : Program} {w : World} {K : PySem.W.Frag} {mg : Str → Option Value} {base : Heap}
def spTable2 : Sp := fun vs H Q _ => ∃ (v : V) (m : Nat) (p : Addr) (d : PyData), vs = [.int m, v] ∧ 0 < m ∧ m ≤ 6 ∧ Dat H p v d ∧ ∀ (b : Bool) (H' : Hp), (b = true ↔ TabD m d) → Same H H' → Q (.bl b) H'
theorem dpAll_ints {K : PySem.W.Frag} {H : Hp} : ∀ ns : List Int, DpAll K H (ns.map V.int) (ns.map PyData.int)
  | [] => .nil
  | n :: r => .cons (.int n) (dpAll_ints r)
theorem lay_ints : ∀ ns : List Int, PyData.canLayAll0 (ns.map PyData.int) = true ∧ PyData.depthAll (ns.map PyData.int) = 0
  | [] => by simp [PyData.canLayAll0, PyData.depthAll]
  | n :: r => by
    obtain ⟨h1, h2⟩ := lay_ints r
    simp [PyData.canLayAll0, PyData.canLay0, PyData.depthAll, PyData.depth, h1, h2]
theorem shaped_ints (ns : List Int) : SeqAt.shaped (.list (ns.map PyData.int)) = true := by
  obtain ⟨h1, h2⟩ := lay_ints ns
  simp [SeqAt.shaped, PyData.canLay0, PyData.depth, h1, h2]
theorem eqv_empty (ns : List Int) : PyData.eqv (.list (ns.map PyData.int)) (.list []) = ns.isEmpty := by
  cases ns with
  | nil => simp [PyData.eqv, PyData.eqvAll]
  | cons n r => simp [PyData.eqv, PyData.eqvAll]
theorem sym_of {m : Nat} {rs : List PyData} (m0 : 0 < m) (h : ∀ j, j < m * m → cellD rs (j / m) (j % m) = cellD rs (j % m) (j / m)) : ∀ a b, a < m → b < m → cellD rs a b = cellD rs b a := fun a b ha hb => by
  have h1 : a * m + b < m * m := by
    have : a * m + m ≤ m * m := by
      rw [← Nat.succ_mul]
      exact Nat.mul_le_mul_right m ha
    omega
  have q := h (a * m + b) h1
  have e1 : (a * m + b) / m = a := by
    rw [Nat.mul_comm, Nat.mul_add_div m0, Nat.div_eq_of_lt hb, Nat.add_zero]
  have e2 : (a * m + b) % m = b := by
    rw [Nat.mul_comm, Nat.mul_add_mod, Nat.mod_eq_of_lt hb]
  rw [e1, e2] at q
  exact q
theorem ok_law_is_table (D : Df K mg "_law_is_table" s_law_is_table ["m", "thing"]) (T : Nms mg) : CallOk P w K mg base CX0 1 "_law_is_table" ["m", "thing"] spTable2 := by
  refine df_ok D sc_law_is_table (fun vs H Q E h => ?_) (fun f cdv A outer s H vs Q E hr h => ?_)
  · obtain ⟨v, m, p, d, rfl, _⟩ := h
    rfl
  · obtain ⟨v, m, p, d, rfl, hm0, hm6, hd, k⟩ := h
    have nd := sc_law_is_table.nd
    have m0 : (0 : Int) < m := by omega
    have ml : (m : Int).natAbs.log2 < 9000 := Nat.lt_of_le_of_lt (Nat.log2_le_self _) (by omega)
    refine ⟨_, (pss_cons (ps_if (PW.pt (pw_or (pt_not (pt_val (pe_callB (r := rIsi K) call_isi (by rfl) T.n_isinstance (by decide +kernel) (pa_cons (pv 1) (pa_cons (pe_bltn (v := .ty "tuple") (by rfl) T.n_tuple (by decide +kernel) rfl) pa_nil))))) (pw_or1 (pt_cmpR op_ne (pe_callB (r := rLenS K) call_lenS (by rfl) T.n_len (by decide +kernel) (pa_cons (pv 1) pa_nil)) (pv 0) (nomark _))))) (pss_one (ps_ret pe_bl)) pss_nil)
      (pss_cons (ps_for PassesOwn.never rfl (pi_tup (pv 1)) (pg_name (i := 2) nd rfl (Or.inl rfl)) (pss_cons (ps_if (PW.pt (pw_or (pt_not (pt_val (pe_callB (r := rIsi K) call_isi (by rfl) T.n_isinstance (by decide +kernel) (pa_cons (pv 2) (pa_cons (pe_bltn (v := .ty "tuple") (by rfl) T.n_tuple (by decide +kernel) rfl) pa_nil))))) (pw_or1 (pt_cmpR op_ne (pe_callB (r := rLenS K) call_lenS (by rfl) T.n_len (by decide +kernel) (pa_cons (pv 2) pa_nil)) (pv 0) (nomark _))))) (pss_one (ps_ret pe_bl)) pss_nil)
      (pss_one (ps_for PassesOwn.never rfl (pi_tup (pv 2)) (pg_name (i := 3) nd rfl (Or.inl rfl)) (pss_one (ps_if (PW.pt (pw_or (pt_val (pe_callB (r := rIsi K) call_isi (by rfl) T.n_isinstance (by decide +kernel) (pa_cons (pv 3) (pa_cons (pe_bltn (v := .ty "bool") (by rfl) T.n_bool (by decide +kernel) rfl) pa_nil)))) (pw_or (pt_not (pt_val (pe_callB (r := rIsi K) call_isi (by rfl) T.n_isinstance (by decide +kernel) (pa_cons (pv 3) (pa_cons (pe_bltn (v := .ty "int") (by rfl) T.n_int (by decide +kernel) rfl) pa_nil))))) (pw_or1 (pt_not (pt_chain op_le op_lt pe_int (pv 3) (pv 0))))))) (pss_one (ps_ret pe_bl)) pss_nil))))))
      (pss_one (ps_ret (pe_cmpR (op_eqD hr.units) (pe_lc (own := [("k", 4)]) (g := (gName 4)) (by rfl) nd (pi_range1 rfl T.n_range (pa_cons (pe_op op_mul (pv 0) (pv 0)) pa_nil)) (blkOk_by (own := [("k", 4)]) (N := N_law_is_table) (sc := defScope s_law_is_table) (by decide +kernel)) (fun _ _ _ _ _ => (pg_name (i := 4) nd rfl (Or.inl rfl))) (fun _ _ _ _ _ => (pts_one (pt_cmpR op_ne (pe_ix (r := rIxT K) ix_tup (pe_ix (r := rIxT K) ix_tup (pv 1) (pe_op op_fdivW (pv 4) (pv 0)) (fun _ _ => rfl)) (pe_op op_mod (pv 4) (pv 0)) (fun _ _ => rfl)) (pe_ix (r := rIxT K) ix_tup (pe_ix (r := rIxT K) ix_tup (pv 1) (pe_op op_mod (pv 4) (pv 0)) (fun _ _ => rfl)) (pe_op op_fdivW (pv 4) (pv 0)) (fun _ _ => rfl)) (nomark _)))) (fun _ _ _ _ _ => (pv 4))) (pe_lst pa_nil) (nomark _)))))), ?_⟩
    walk_at "op"
    walk_at "st"
    refine ⟨_, _, _, _, _, rfl, .ty _, hd.ty, kit_ty (kit_tuple d), ?_⟩
    walk_at "st"
    by_cases ht : isTu d = true
    · obtain ⟨ds, rfl⟩ := isTu_iff.mp ht
      obtain ⟨a, xs, rfl, ha, _, hs⟩ := hd.isTup
      refine iteF ?_
      walk_at "st"
      refine ⟨_, _, rfl, .inr (SqT.of ha), ?_⟩
      walk_at "st"
      by_cases hl : ds.length = m
      · rw [show (decide (V.int (xs.length : Int) = V.int (m : Int))) = true from decide_eq_true (by rw [hs.1, hl])]
        refine iteF ?_
        walk_at "st"
        refine ⟨⟨_, SqT.of ha⟩, fT (xs := xs) (fun i σ H' => H' = H ∧ (∃ u1 u2 u3, σ = [some (.int m), some (.ref a), u1, u2, u3]) ∧ ∀ j e, j < i → ds[j]? = some e → RowD m e)
          ⟨rfl, ⟨_, _, _, rfl⟩, fun j e hj => absurd hj (Nat.not_lt_zero j)⟩ (fun i σ H' _ ⟨e, _⟩ => by rw [e]; exact SqT.of ha) ?_ ?_⟩
        · rintro i x σ H' hx ⟨rfl, ⟨u1, u2, u3, rfl⟩, hi⟩
          obtain ⟨e, he, hde⟩ := hs.at hx
          have bad : ∀ b : Bool, ¬ RowD m e → (b = true ↔ TabD m (.tuple ds)) → b = false := fun b hn hb => by
            cases b with
            | false => rfl
            | true =>
              obtain ⟨es, e1, _, h2, _⟩ := hb.mp rfl
              cases e1
              exact (hn (h2 e (List.mem_of_getElem? he))).elim
          have kF : ¬ RowD m e → Q (.bl false) H' := fun hn => k false H' ⟨fun z => Bool.noConfusion z, fun z => by
            obtain ⟨es, e1, _, h2, _⟩ := z
            cases e1
            exact (hn (h2 e (List.mem_of_getElem? he))).elim⟩ (Same.refl _)
          walk_at "op"
          walk_at "st"
          refine ⟨_, _, _, _, _, rfl, .ty _, hde.ty, kit_ty (kit_tuple e), ?_⟩
          walk_at "st"
          by_cases hte : isTu e = true
          · obtain ⟨es, rfl⟩ := isTu_iff.mp hte
            obtain ⟨ae, ye, rfl, hae, _, hse⟩ := hde.isTup
            refine iteF ?_
            walk_at "st"
            refine ⟨_, _, rfl, .inr (SqT.of hae), ?_⟩
            walk_at "st"
            by_cases hle : es.length = m
            · rw [show (decide (V.int (ye.length : Int) = V.int (m : Int))) = true from decide_eq_true (by rw [hse.1, hle])]
              refine iteF ?_
              walk_at "st"
              refine ⟨⟨_, SqT.of hae⟩, fT (xs := ye) (fun j σ H1 => H1 = H' ∧ (∃ u2 u3, σ = [some (.int m), some (.ref a), some (.ref ae), u2, u3]) ∧ ∀ l z, l < j → es[l]? = some z → ∃ n : Int, z = .int n ∧ 0 ≤ n ∧ n < m)
                ⟨rfl, ⟨_, _, rfl⟩, fun l z hj => absurd hj (Nat.not_lt_zero l)⟩ (fun j σ H1 _ ⟨e, _⟩ => by rw [e]; exact SqT.of hae) ?_ ?_⟩
              · rintro j y σ H1 hy ⟨rfl, ⟨u2, u3, rfl⟩, hj⟩
                obtain ⟨z, hz, hdz⟩ := hse.at hy
                have kN : (¬ ∃ n : Int, z = .int n ∧ 0 ≤ n ∧ n < m) → Q (.bl false) H1 := fun hn => kF fun ⟨fs, e1, _, h2⟩ => by
                  cases e1
                  exact hn (h2 z (List.mem_of_getElem? hz))
                walk_at "op"
                walk_at "st"
                refine ⟨_, _, _, _, _, rfl, .ty _, hdz.ty, kit_ty (kit_bool z), ?_⟩
                walk_at "st"
                by_cases hzb : isB z = true
                · rw [hzb]
                  refine iteT (iteT (kN fun ⟨n, e1, _⟩ => ?_))
                  rw [e1] at hzb
                  cases hzb
                · rw [Bool.eq_false_iff.mpr hzb]
                  refine iteF ?_
                  walk_at "st"
                  refine ⟨_, _, _, _, _, rfl, .ty _, hdz.ty, kit_ty (kit_int z), ?_⟩
                  walk_at "st"
                  by_cases hzi : isI z = true
                  · obtain ⟨n, rfl⟩ : ∃ n, z = .int n := by
                      cases z <;> simp_all [isI, isB]
                    obtain rfl := hdz.isInt
                    refine iteF ?_
                    walk_at "st"
                    by_cases hn0 : 0 ≤ n
                    · rw [decide_eq_true hn0]
                      refine iteT ?_
                      walk_at "st"
                      by_cases hnm : n < m
                      · rw [decide_eq_true hnm]
                        refine iteF ⟨rfl, ⟨_, _, rfl⟩, fun l z' hl' hz' => ?_⟩
                        by_cases hlj : l = j
                        · subst hlj
                          rw [hz] at hz'
                          cases hz'
                          exact ⟨n, rfl, hn0, hnm⟩
                        · exact hj l z' (by omega) hz'
                      · rw [decide_eq_false hnm]
                        refine iteT (kN fun ⟨n', e1, _, h3⟩ => ?_)
                        cases e1
                        exact hnm h3
                    · rw [decide_eq_false hn0]
                      refine iteF ?_
                      walk_at "st"
                      refine iteT (kN fun ⟨n', e1, h3, _⟩ => ?_)
                      cases e1
                      exact hn0 h3
                  · rw [Bool.eq_false_iff.mpr hzi]
                    refine iteT (iteT (kN fun ⟨n, e1, _⟩ => ?_))
                    rw [e1] at hzi
                    exact hzi rfl
              · rintro σ H1 ⟨rfl, ⟨u2, u3, rfl⟩, hj⟩
                refine ⟨rfl, ⟨_, _, _, rfl⟩, fun l e' hl' he' => ?_⟩
                by_cases hli : l = i
                · subst hli
                  rw [he] at he'
                  cases he'
                  refine ⟨es, rfl, hle, fun z hz => ?_⟩
                  obtain ⟨q, hq⟩ := List.getElem?_of_mem hz
                  exact hj q z (by rw [hse.1]; exact (List.getElem?_eq_some_iff.mp hq).1) hq
                · exact hi l e' (by omega) he'
            · rw [show (decide (V.int (ye.length : Int) = V.int (m : Int))) = false from decide_eq_false (fun z => by cases (V.int.inj z); apply hle; have := hse.1; have q := V.int.inj z; omega)]
              refine iteT (kF fun ⟨fs, e1, h2, _⟩ => ?_)
              cases e1
              exact hle h2
          · rw [Bool.eq_false_iff.mpr hte]
            refine iteT (iteT (kF fun ⟨fs, e1, _⟩ => hte (isTu_iff.mpr ⟨fs, e1⟩)))
        · rintro σ H' ⟨rfl, ⟨u1, u2, u3, rfl⟩, hi⟩
          have hrow : ∀ r ∈ ds, RowD m r := fun r hr => by
            obtain ⟨j, hj⟩ := List.getElem?_of_mem hr
            exact hi j r (by rw [hs.1]; exact (List.getElem?_eq_some_iff.mp hj).1) hj
          walk_at "op"
          walk_at "st"
          have hmm : (m : Int) * m = ((m * m : Nat) : Int) := (Int.natCast_mul m m).symm
          have hmb : m * m ≤ 36 := Nat.mul_le_mul hm6 hm6
          rw [hmm]
          refine ⟨by omega, by omega, fun L hL => ?_⟩
          rw [Int.toNat_natCast]
          refine lR (fun i H1 => Same H' H1 ∧ ∃ ks : List Int, H1 L = some (.lst (ks.map V.int)) ∧ ks.length ≤ i ∧ (ks = [] ↔ ∀ j, j < i → cellD ds (j / m) (j % m) = cellD ds (j % m) (j / m)))
            ⟨same_new hL, [], upd_same, Nat.le_refl _, ⟨fun _ j hj => absurd hj (Nat.not_lt_zero j), fun _ => rfl⟩⟩ ?_ ?_
          · rintro i H1 hi1 ⟨sm, ks, hks, hkl, hkk⟩
            rw [Int.zero_add]
            have b1 : i / m < m := Nat.div_lt_of_lt_mul hi1
            have b2 : i % m < m := Nat.mod_lt _ hm0
            have c1 : (i : Int) / (m : Int) = ((i / m : Nat) : Int) := rfl
            have c2 : (i : Int) % (m : Int) = ((i % m : Nat) : Int) := rfl
            have hs1 : Dats H1 p xs ds := hs.ext (Same.ext sm p)
            obtain ⟨ra, ya, x1, a1, a2, a3, a4, _⟩ := cell_at hs1 hl hrow b1 b2
            obtain ⟨rb, yb, x2, d1, d2, d3, d4, _⟩ := cell_at hs1 hl hrow b2 b1
            walk_at "op"
            refine ⟨rfl, ?_⟩
            walk_at "st"
            rw [c1]
            refine ⟨_, _, _, _, rfl, rfl, SqT.of (sm _ _ ha), atI_nat a1, ?_⟩
            walk_at "st"
            rw [c2]
            refine ⟨_, _, _, _, rfl, rfl, SqT.of a2, atI_nat a3, ?_⟩
            walk_at "st"
            rw [c2]
            refine ⟨_, _, _, _, rfl, rfl, SqT.of (sm _ _ ha), atI_nat d1, ?_⟩
            walk_at "st"
            rw [c1]
            refine ⟨_, _, _, _, rfl, rfl, SqT.of d2, atI_nat d3, rfl, ?_⟩
            walk_at "st"
            have nL : ∀ o, Same H' (upd H1 L o) := fun o b u e => by
              rw [upd_ne (ne_of_none e hL)]
              exact sm b u e
            refine ite2 (fun c0 => ?_) (fun c0 => ?_)
            · walk_at "st"
              refine ⟨_, hks, by rw [List.length_map]; exact small1000 (by omega), nL _, ks ++ [(i : Int)], by rw [upd_same, List.map_append]; rfl, by simp; omega, ⟨fun z => by simp at z, fun z => ?_⟩⟩
              have q := z i (by omega)
              rw [a4, d4] at q
              cases q
              simp at c0
            · refine ⟨sm, ks, hks, by omega, ⟨fun z j hj => ?_, fun z => hkk.mpr fun j hj => z j (by omega)⟩⟩
              by_cases hji : j = i
              · subst hji
                rw [a4, d4]
                simp at c0
                rw [c0]
              · exact hkk.mp z j (by omega)
          · rintro H1 ⟨sm, ks, hks, hkl, hkk⟩
            walk_at "st"
            refine fun Z hZ => ?_
            have nLZ : L ≠ Z := ne_of_none hks hZ
            refine ⟨.list (ks.map PyData.int), .list [], .lst (SqL.of (by rw [upd_ne nLZ]; exact hks)) (dpAll_ints ks), .lst (SqL.of upd_same) .nil, ?_, ?_, ?_⟩
            · exact shaped_ints ks
            · exact shaped_ints []
            · rw [eqv_empty]
              refine k _ _ ⟨fun z => ⟨ds, rfl, hl, hrow, ?_⟩, fun z => ?_⟩ (fun b u e => ?_)
              · exact sym_of hm0 (hkk.mp (by simpa using z))
              · obtain ⟨fs, e1, _, _, h3⟩ := z
                cases e1
                have := hkk.mpr fun j hj => h3 _ _ (Nat.div_lt_of_lt_mul hj) (Nat.mod_lt _ hm0)
                rw [this]
                rfl
              · rw [upd_ne (ne_of_none (sm b u e) hZ)]
                exact sm b u e
      · rw [show (decide (V.int (xs.length : Int) = V.int (m : Int))) = false from decide_eq_false (fun z => hl (by have q := V.int.inj z; have := hs.1; omega))]
        refine iteT (k false H ⟨fun z => Bool.noConfusion z, fun ⟨fs, e1, h2, _⟩ => ?_⟩ (Same.refl _))
        cases e1
        exact (hl h2).elim
    · rw [Bool.eq_false_iff.mpr ht]
      refine iteT (iteT (k false H ⟨fun z => Bool.noConfusion z, fun ⟨fs, e1, _⟩ => (ht (isTu_iff.mpr ⟨fs, e1⟩)).elim⟩ (Same.refl _)))
end
end Fm
end FQ8
section FQ9
set_option Elab.async false
set_option linter.all false
set_option maxRecDepth 100000
set_option maxHeartbeats 4000000
local macro_rules | `(tactic| walk_at "ne") => `(tactic| first | assumption | (apply Ne.symm; assumption) | exact L2.ne_of_none (by assumption) (by assumption) | exact Ne.symm (L2.ne_of_none (by assumption) (by assumption)))
local macro_rules | `(tactic| walk_at "hl") => `(tactic| first | assumption | exact L2.upd_same | (refine Eq.trans (L2.upd_ne (by walk_at "ne")) ?_; walk_at "hl"))
local macro_rules | `(tactic| walk_at "sd") => `(tactic| first | (with_reducible show (_ : Int) < _; omega) | (with_reducible show (_ : Int) ≤ _; omega) | assumption | decide | exact ⟨by assumption, by assumption⟩ | exact ⟨by decide, by decide⟩ | exact Or.inr ⟨by decide, by decide⟩ | exact Or.inl ⟨by omega, by omega⟩)
local macro_rules | `(tactic| walk_at "st1") => `(tactic| first
  | refine ⟨_, rfl, ?_⟩
  | refine ⟨_, _, rfl, rfl, ?_⟩
  | refine ⟨_, _, rfl, ?_⟩
  | (refine ⟨_, _, _, _, rfl, rfl, L2.SqL.of (by walk_at "hl"), rfl, ?_⟩)
  | (refine ⟨_, _, _, _, rfl, rfl, L2.SqT.of (by walk_at "hl"), rfl, ?_⟩)
  | (refine ⟨_, _, _, _, rfl, rfl, (by walk_at "hl"), rfl, ?_⟩)
  | (refine And.intro (by walk_at "sd") ?_)
  )
local macro_rules | `(tactic| walk_at "st") => `(tactic| repeat walk_at "st1")
local macro_rules | `(tactic| walk_at "op") => `(tactic| try dsimp only [L2.tSeq, L2.tAsg, L2.tOp, L2.tVar, L2.tC, L2.gSub, L2.rI, L2.rI0, L2.rIxL, L2.rIxT, L2.rSetL, L2.tIfS, L2.tTest, L2.tRet, L2.gName, L2.tNext, L2.tAnd, L2.tOr, L2.tNot, L2.tAndV, L2.tOrV, L2.tNotV, L2.tB, L2.tCB, L2.tCons, L2.tNil, L2.tCall, L2.tTup, L2.tLst, L2.tChain, L2.tUn, L2.tPar, L2.tDrop, L2.tIf, L2.tBM, L2.tBM0, L2.rAppend, L2.rCat, L2.rCatA, L2.rRepT, L2.rIsi, L2.rIsiT, L2.gTup, L2.gCons, L2.gNil, Fm.tFor_eq, Fm.tLc_eq, L2.iTup, L2.iList, L2.iRng1, L2.iRng2, L2.tSl, L2.tPart, L2.tNoPart, L2.rSlA, L2.rSlL, L2.rEq, L2.rNe, L2.rU, L2.rSlT, L2.rEqD, L2.rNeD, Fm.tRevT, Fm.rTimes, Fm.rLenS, Fm.rTupOf, Fm.rLstOf, Fm.rOnce, L2.tDNewK, L2.tCallS, L2.WE, Fm.wKeep, Fm.rIsK, Fm.rIsKT, List.cons_append, List.nil_append, L2.tYes])
namespace Fm
open PySem PySem.Spec PyProof.Rows L2
abbrev s_law_due : Stmt := top 39
abbrev N_law_due : List Str := ["thing", "floor", "m"]
theorem sc_law_due : FnScope N_law_due ["thing"] (defScope s_law_due) := ⟨rfl, rfl, rfl, by decide +kernel, rfl, by decide +kernel, by decide +kernel⟩
section
variable {P : Program} {w : World} {K : PySem.W.Frag} {mg : Str → Option Value} {base : Heap}
def spDue : Sp := fun vs H Q _ => ∃ (v : V) (p : Addr) (d : PyData), vs = [v] ∧ Dat H p v d ∧ ∀ (b : Bool) (H' : Hp), (b = true ↔ HouseD d) → Same H H' → Q (.bl b) H'
theorem ok_law_due (D : Df K mg "_law_due" s_law_due ["thing"]) (T : Nms mg) (c_law_is_table : CallOk P w K mg base CX0 1 "_law_is_table" ["m", "thing"] spTable2) : CallOk P w K mg base CX0 2 "_law_due" ["thing"] spDue := by
  refine df_ok D sc_law_due (fun vs H Q E h => ?_) (fun f cdv A outer s H vs Q E hr h => ?_)
  · obtain ⟨v, p, d, rfl, _⟩ := h
    rfl
  · obtain ⟨v, p, d, rfl, hd, k⟩ := h
    have nd := sc_law_due.nd
    refine ⟨_, (pss_cons (ps_if (PW.pt (pw_or (pt_not (pt_val (pe_callB (r := rIsi K) call_isi (by rfl) T.n_isinstance (by decide +kernel) (pa_cons (pv 0) (pa_cons (pe_bltn (v := .ty "tuple") (by rfl) T.n_tuple (by decide +kernel) rfl) pa_nil))))) (pw_or1 (pt_not (pt_chain op_lt op_lt pe_int (pe_callB (r := rLenS K) call_lenS (by rfl) T.n_len (by decide +kernel) (pa_cons (pv 0) pa_nil)) pe_int))))) (pss_one (ps_ret pe_bl)) pss_nil)
      (pss_cons (ps_for PassesOwn.never rfl (pi_tup (pv 0)) (pg_name (i := 1) nd rfl (Or.inl rfl)) (pss_cons (ps_if (PW.pt (pw_or (pt_not (pt_val (pe_callB (r := rIsi K) call_isi (by rfl) T.n_isinstance (by decide +kernel) (pa_cons (pv 1) (pa_cons (pe_bltn (v := .ty "tuple") (by rfl) T.n_tuple (by decide +kernel) rfl) pa_nil))))) (pw_or (pt_cmpR op_ne (pe_callB (r := rLenS K) call_lenS (by rfl) T.n_len (by decide +kernel) (pa_cons (pv 1) pa_nil)) pe_int (nomark _)) (pw_or1 (pt_not (pt_val (pe_callB (r := rIsi K) call_isi (by rfl) T.n_isinstance (by decide +kernel) (pa_cons (pe_ix (r := rIxT K) ix_tup (pv 1) pe_int (fun _ _ => rfl)) (pa_cons (pe_bltn (v := .ty "tuple") (by rfl) T.n_tuple (by decide +kernel) rfl) pa_nil))))))))) (pss_one (ps_ret pe_bl)) pss_nil)
      (pss_cons (ps_set (i := 2) nd rfl (Or.inl rfl) (pe_callB (r := rLenS K) call_lenS (by rfl) T.n_len (by decide +kernel) (pa_cons (pe_ix (r := rIxT K) ix_tup (pe_ix (r := rIxT K) ix_tup (pv 0) pe_int (fun _ _ => rfl)) pe_int (fun _ _ => rfl)) pa_nil)))
      (pss_one (ps_if (PW.pt (pw_or (pt_not (pt_chain op_lt op_lt pe_int (pv 2) pe_int)) (pw_or (pt_not (pt_val (pe_cc c_law_is_table (hr.mono (by decide)) (pa_cons (pv 2) (pa_cons (pe_ix (r := rIxT K) ix_tup (pv 1) pe_int (fun _ _ => rfl)) pa_nil))))) (pw_or1 (pt_not (pt_val (pe_cc c_law_is_table (hr.mono (by decide)) (pa_cons (pv 2) (pa_cons (pe_ix (r := rIxT K) ix_tup (pv 1) pe_int (fun _ _ => rfl)) pa_nil))))))))) (pss_one (ps_ret pe_bl)) pss_nil)))))
      (pss_one (ps_ret pe_bl)))), ?_⟩
    walk_at "op"
    walk_at "st"
    refine ⟨_, _, _, _, _, rfl, .ty _, hd.ty, kit_ty (kit_tuple d), ?_⟩
    walk_at "st"
    have kF : ¬ HouseD d → ∀ H', Same H H' → Q (.bl false) H' := fun hn H' sm => k false H' ⟨fun z => Bool.noConfusion z, fun z => (hn z).elim⟩ sm
    by_cases ht : isTu d = true
    · obtain ⟨ds, rfl⟩ := isTu_iff.mp ht
      obtain ⟨a, xs, rfl, ha, _, hs⟩ := hd.isTup
      refine iteF ?_
      walk_at "st"
      refine ⟨_, _, rfl, .inr (SqT.of ha), ?_⟩
      walk_at "st"
      by_cases hlo : 1 ≤ xs.length ∧ xs.length ≤ 4
      · rw [decide_eq_true (show (0 : Int) < (xs.length : Int) by omega)]
        refine iteT ?_
        walk_at "st"
        rw [decide_eq_true (show (xs.length : Int) < 5 by omega)]
        refine iteF ?_
        walk_at "st"
        refine ⟨⟨_, SqT.of ha⟩, fT (xs := xs) (fun i σ H' => Same H H' ∧ (∃ u1 u2, σ = [some (.ref a), u1, u2]) ∧ (0 < i → ∃ es0 u0, ds[0]? = some (.tuple [.tuple es0, u0]) ∧ 1 ≤ es0.length ∧ es0.length ≤ 6 ∧ ∀ j e, j < i → ds[j]? = some e → FloorD es0.length e))
          ⟨Same.refl _, ⟨_, _, rfl⟩, fun z => absurd z (Nat.lt_irrefl 0)⟩ (fun i σ H' _ ⟨e, _⟩ => SqT.of (e _ _ ha)) ?_ ?_⟩
        · rintro i x σ H' hx ⟨sm, ⟨u1, u2, rfl⟩, hi⟩
          have hs' : Dats H' p xs ds := hs.ext (Same.ext sm p)
          have ha' := sm _ _ ha
          obtain ⟨e, he, hde⟩ := hs'.at hx
          have bad : ¬ (∃ es u, e = .tuple [.tuple es, u]) → Q (.bl false) H' := fun hn => kF (fun ⟨m, n, fs, e1, _, _, _, _, _, h3⟩ => by
            cases e1
            obtain ⟨s1, u1, e2, ⟨rs, e3, _⟩, _⟩ := h3 e (List.mem_of_getElem? he)
            exact hn ⟨rs, u1, by rw [e2, e3]⟩) H' sm
          walk_at "op"
          walk_at "st"
          refine ⟨_, _, _, _, _, rfl, .ty _, hde.ty, kit_ty (kit_tuple e), ?_⟩
          walk_at "st"
          by_cases hte : isTu e = true
          · obtain ⟨es, rfl⟩ := isTu_iff.mp hte
            obtain ⟨ae, ye, rfl, hae, _, hse⟩ := hde.isTup
            refine iteF ?_
            walk_at "st"
            refine ⟨_, _, rfl, .inr (SqT.of hae), ?_⟩
            walk_at "st"
            by_cases hle : es.length = 2
            · rw [show (decide (V.int (ye.length : Int) = V.int 2)) = true from decide_eq_true (by rw [hse.1, hle]; rfl)]
              refine iteF ?_
              walk_at "st"
              match es, hle with
              | [e0, e1], _ =>
              obtain ⟨y0, hy0, hdy0⟩ := hse.back (i := 0) (d := e0) rfl
              obtain ⟨y1, hy1, hdy1⟩ := hse.back (i := 1) (d := e1) rfl
              refine ⟨_, _, _, _, rfl, rfl, SqT.of hae, atI_nat (j := 0) hy0, ?_⟩
              walk_at "st"
              refine ⟨_, _, _, _, _, rfl, .ty _, hdy0.ty, kit_ty (kit_tuple e0), ?_⟩
              walk_at "st"
              by_cases ht0 : isTu e0 = true
              · obtain ⟨f0, rfl⟩ := isTu_iff.mp ht0
                refine iteF ?_
                obtain ⟨es0, u0, hz0, hrest⟩ : ∃ es0 u0, ds[0]? = some (.tuple [.tuple es0, u0]) ∧ (0 < i → 1 ≤ es0.length ∧ es0.length ≤ 6 ∧ ∀ j e, j < i → ds[j]? = some e → FloorD es0.length e) := by
                  cases i with
                  | zero => exact ⟨f0, e1, he, fun z => absurd z (Nat.lt_irrefl 0)⟩
                  | succ i =>
                    obtain ⟨es0, u0, q1, q2⟩ := hi (Nat.succ_pos i)
                    exact ⟨es0, u0, q1, fun _ => q2⟩
                obtain ⟨x0, hx0, hdx0⟩ := hs'.back hz0
                obtain ⟨a0, z0, rfl, ha0, _, hs0⟩ := hdx0.isTup
                obtain ⟨w0, hw0, hdw0⟩ := hs0.back (i := 0) (d := .tuple es0) rfl
                obtain ⟨af, yf, rfl, haf, _, hsf⟩ := hdw0.isTup
                walk_at "st"
                refine ⟨_, _, _, _, rfl, rfl, SqT.of ha', atI_nat (j := 0) hx0, ?_⟩
                walk_at "st"
                refine ⟨_, _, _, _, rfl, rfl, SqT.of ha0, atI_nat (j := 0) hw0, ?_⟩
                refine ⟨_, _, rfl, .inr (SqT.of haf), ?_⟩
                rw [hsf.1]
                have hm0 : ∀ m n, HouseN m n (.tuple ds) → m = es0.length ∧ 1 ≤ m ∧ m ≤ 6 := fun m n ⟨fs, q1, _, _, _, q2, q3, h3⟩ => by
                  cases q1
                  obtain ⟨s1, v1, q4, ⟨rs, q5, q6, _⟩, _⟩ := h3 _ (List.mem_of_getElem? hz0)
                  rw [q5] at q4
                  cases q4
                  exact ⟨q6.symm, q2, q3⟩
                walk_at "st"
                by_cases hm1 : 1 ≤ es0.length ∧ es0.length ≤ 6
                · rw [decide_eq_true (show (0 : Int) < (es0.length : Int) by omega)]
                  refine iteT ?_
                  walk_at "st"
                  rw [decide_eq_true (show (es0.length : Int) < 7 by omega)]
                  refine iteF ?_
                  walk_at "st"
                  refine ⟨_, _, _, _, rfl, rfl, SqT.of hae, atI_nat (j := 0) hy0, ?_⟩
                  refine ⟨y0, es0.length, p, _, rfl, by omega, by omega, hdy0, fun b1 H1 hb1 sm1 => ?_⟩
                  have nt : ∀ m n, HouseN m n (.tuple ds) → TabD es0.length (.tuple f0) ∧ TabD es0.length e1 := fun m n hN => by
                    obtain ⟨rfl, _, _⟩ := hm0 m n hN
                    obtain ⟨fs, q1, _, _, _, _, _, h3⟩ := hN
                    cases q1
                    obtain ⟨s1, v1, q4, q5, q6⟩ := h3 _ (List.mem_of_getElem? he)
                    cases q4
                    exact ⟨q5, q6⟩
                  walk_at "st"
                  cases b1 with
                  | false =>
                    refine iteT (iteT (kF (fun ⟨m, n, hN⟩ => Bool.noConfusion (hb1.mpr (nt m n hN).1)) _ (sm.trans sm1)))
                  | true =>
                    refine iteF ?_
                    walk_at "st"
                    refine ⟨_, _, _, _, rfl, rfl, SqT.of (sm1 _ _ hae), atI_nat (j := 1) hy1, ?_⟩
                    refine ⟨y1, es0.length, p, _, rfl, by omega, by omega, hdy1.same sm1, fun b2 H2 hb2 sm2 => ?_⟩
                    walk_at "st"
                    cases b2 with
                    | false =>
                      refine iteT (kF (fun ⟨m, n, hN⟩ => Bool.noConfusion (hb2.mpr (nt m n hN).2)) _ ((sm.trans sm1).trans sm2))
                    | true =>
                      refine iteF ⟨(sm.trans sm1).trans sm2, ⟨_, _, rfl⟩, fun _ => ⟨es0, u0, hz0, hm1.1, hm1.2, fun j e' hj he' => ?_⟩⟩
                      by_cases hji : j = i
                      · subst hji
                        rw [he] at he'
                        cases he'
                        exact ⟨_, _, rfl, hb1.mp rfl, hb2.mp rfl⟩
                      · exact (hrest (by omega)).2.2 j e' (by omega) he'
                · have no : ¬ HouseD (.tuple ds) := fun ⟨m, n, hN⟩ => by
                    obtain ⟨q1, q2, q3⟩ := hm0 m n hN
                    exact hm1 (by omega)
                  by_cases h1 : 1 ≤ es0.length
                  · rw [decide_eq_true (show (0 : Int) < (es0.length : Int) by omega)]
                    refine iteT ?_
                    walk_at "st"
                    rw [decide_eq_false (show ¬ (es0.length : Int) < 7 by omega)]
                    exact iteT (iteT (kF no _ sm))
                  · rw [decide_eq_false (show ¬ (0 : Int) < (es0.length : Int) by omega)]
                    refine iteF ?_
                    walk_at "st"
                    exact iteT (iteT (kF no _ sm))
              · rw [Bool.eq_false_iff.mpr ht0]
                refine iteT (bad fun ⟨es', u', e2⟩ => ?_)
                cases e2
                exact ht0 rfl
            · rw [show (decide (V.int (ye.length : Int) = V.int 2)) = false from decide_eq_false (fun z => hle (by have q := V.int.inj z; have := hse.1; omega))]
              refine iteT (iteT (bad fun ⟨es', u', e2⟩ => ?_))
              cases e2
              exact hle rfl
          · rw [Bool.eq_false_iff.mpr hte]
            refine iteT (iteT (bad fun ⟨es', u', e2⟩ => hte (by rw [e2]; rfl)))
        · rintro σ H' ⟨sm, ⟨u1, u2, rfl⟩, hi⟩
          obtain ⟨es0, u0, q1, q2, q3, q4⟩ := hi (by omega)
          walk_at "op"
          refine k true _ ⟨fun _ => ⟨es0.length, ds.length, ds, rfl, rfl, by rw [← hs.1]; exact hlo.1, by rw [← hs.1]; exact hlo.2, q2, q3, fun e he => ?_⟩, fun _ => rfl⟩ sm
          obtain ⟨j, hj⟩ := List.getElem?_of_mem he
          exact q4 j e (by rw [hs.1]; exact (List.getElem?_eq_some_iff.mp hj).1) hj
      · have no : ¬ HouseD (.tuple ds) := fun ⟨m, n, fs, e1, e2, q1, q2, _⟩ => by
          cases e1
          exact hlo (by rw [hs.1]; omega)
        by_cases h1 : 1 ≤ xs.length
        · rw [decide_eq_true (show (0 : Int) < (xs.length : Int) by omega)]
          refine iteT ?_
          walk_at "st"
          rw [decide_eq_false (show ¬ (xs.length : Int) < 5 by omega)]
          exact iteT (kF no _ (Same.refl _))
        · rw [decide_eq_false (show ¬ (0 : Int) < (xs.length : Int) by omega)]
          refine iteF ?_
          walk_at "st"
          exact iteT (kF no _ (Same.refl _))
    · have no : ¬ HouseD d := fun ⟨m, n, fs, e1, _⟩ => ht (isTu_iff.mpr ⟨fs, e1⟩)
      rw [Bool.eq_false_iff.mpr ht]
      exact iteT (iteT (kF no _ (Same.refl _)))
end
end Fm
end FQ9
section FQ10
set_option Elab.async false
set_option linter.all false
set_option maxRecDepth 100000
set_option maxHeartbeats 4000000
local macro_rules | `(tactic| walk_at "ne") => `(tactic| first | assumption | (apply Ne.symm; assumption) | exact L2.ne_of_none (by assumption) (by assumption) | exact Ne.symm (L2.ne_of_none (by assumption) (by assumption)))
local macro_rules | `(tactic| walk_at "hl") => `(tactic| first | assumption | exact L2.upd_same | (refine Eq.trans (L2.upd_ne (by walk_at "ne")) ?_; walk_at "hl"))
local macro_rules | `(tactic| walk_at "sd") => `(tactic| first | (with_reducible show (_ : Int) < _; omega) | (with_reducible show (_ : Int) ≤ _; omega) | assumption | decide | exact ⟨by assumption, by assumption⟩ | exact ⟨by decide, by decide⟩ | exact Or.inr ⟨by decide, by decide⟩ | exact Or.inl ⟨by omega, by omega⟩)
local macro_rules | `(tactic| walk_at "st1") => `(tactic| first
  | refine ⟨_, rfl, ?_⟩
  | refine ⟨_, _, rfl, rfl, ?_⟩
  | refine ⟨_, _, rfl, ?_⟩
  | (refine ⟨_, _, _, _, rfl, rfl, L2.SqL.of (by walk_at "hl"), rfl, ?_⟩)
  | (refine ⟨_, _, _, _, rfl, rfl, L2.SqT.of (by walk_at "hl"), rfl, ?_⟩)
  | (refine ⟨_, _, _, _, rfl, rfl, (by walk_at "hl"), rfl, ?_⟩)
  | (refine And.intro (by walk_at "sd") ?_)
  )
local macro_rules | `(tactic| walk_at "st") => `(tactic| repeat walk_at "st1")
local macro_rules | `(tactic| walk_at "op") => `(tactic| try dsimp only [L2.tSeq, L2.tAsg, L2.tOp, L2.tVar, L2.tC, L2.gSub, L2.rI, L2.rI0, L2.rIxL, L2.rIxT, L2.rSetL, L2.tIfS, L2.tTest, L2.tRet, L2.gName, L2.tNext, L2.tAnd, L2.tOr, L2.tNot, L2.tAndV, L2.tOrV, L2.tNotV, L2.tB, L2.tCB, L2.tCons, L2.tNil, L2.tCall, L2.tTup, L2.tLst, L2.tChain, L2.tUn, L2.tPar, L2.tDrop, L2.tIf, L2.tBM, L2.tBM0, L2.rAppend, L2.rCat, L2.rCatA, L2.rRepT, L2.rIsi, L2.rIsiT, L2.gTup, L2.gCons, L2.gNil, Fm.tFor_eq, Fm.tLc_eq, L2.iTup, L2.iList, L2.iRng1, L2.iRng2, L2.tSl, L2.tPart, L2.tNoPart, L2.rSlA, L2.rSlL, L2.rEq, L2.rNe, L2.rU, L2.rSlT, L2.rEqD, L2.rNeD, Fm.tRevT, Fm.rTimes, Fm.rLenS, Fm.rTupOf, Fm.rLstOf, Fm.rOnce, L2.tDNewK, L2.tCallS, L2.WE, Fm.wKeep, Fm.rIsK, Fm.rIsKT, List.cons_append, List.nil_append, L2.tYes])
namespace Fm
open PySem PySem.Spec PyProof.Rows L2
abbrev s_law_odd : Stmt := top 40
abbrev N_law_odd : List Str := ["bag", "some"]
theorem sc_law_odd : FnScope N_law_odd ["bag"] (defScope s_law_odd) := ⟨rfl, rfl, rfl, by decide +kernel, rfl, by decide +kernel, by decide +kernel⟩
section
variable {P : Program} {w : World} {K : PySem.W.Frag} {mg : Str → Option Value} {base : Heap}
def spOdd : Sp := fun vs H Q _ => ∃ p : Addr, vs = [.ref p] ∧ Bag H p ∧ ∀ (v : V) (d : PyData) (H' : Hp), Bag H' p → Ext p H H' → Dat H' p v d → Fit 100 2 d → Q v H'
theorem ok_law_odd (D : Df K mg "_law_odd" s_law_odd ["bag"]) (T : Nms mg) (c_law_pick : CallOk P w K mg base CX0 1 "_law_pick" ["bag", "many"] spPick) : CallOk P w K mg base CX0 2 "_law_odd" ["bag"] spOdd := by
  refine df_ok D sc_law_odd (fun vs H Q E h => ?_) (fun f cdv A outer s H vs Q E hr h => ?_)
  · obtain ⟨p, rfl, _⟩ := h
    rfl
  · obtain ⟨p, rfl, hB, k⟩ := h
    have nd := sc_law_odd.nd
    refine ⟨_, (pss_cons (ps_set (i := 1) nd rfl (Or.inl rfl) (pe_lst (pa_cons pe_non (pa_cons pe_bl (pa_cons pe_bl (pa_cons pe_int (pa_cons pe_int (pa_cons (pe_un un_neg pe_int) (pa_cons pe_int (pa_cons pe_int (pa_cons pe_str (pa_cons pe_str (pa_cons (pe_lst pa_nil) (pa_cons (pe_tup pa_nil) (pa_cons pe_dnewK (pa_cons (pe_tup (pa_cons pe_int pa_nil)) (pa_cons (pe_tup (pa_cons (pe_tup (pa_cons pe_int pa_nil)) pa_nil)) (pa_cons (pe_op op_pow pe_int pe_int) pa_nil))))))))))))))))))
      (pss_one (ps_ret (pe_ix (r := rIxL K) ix_list (pv 1) (pe_cc c_law_pick (hr.mono (by decide)) (pa_cons (pv 0) (pa_cons pe_int pa_nil))) (fun _ _ => rfl))))), ?_⟩
    walk_at "op"
    walk_at "st"
    refine fun L1 h1 => ?_
    have n1 := hB.ne h1
    have b1 := hB.up (o := .lst []) n1
    have d1 : Dat (upd H L1 (.lst [])) p (.ref L1) (.list []) := Dat.newL h1 n1.symm Dats.nil
    walk_at "st"
    refine fun T1 h2 => ?_
    have n2 := b1.ne h2
    have b2 := b1.up (o := .tup []) n2
    have d2 : Dat (upd (upd H L1 (.lst [])) T1 (.tup [])) p (.ref T1) (.tuple []) := Dat.new h2 n2.symm Dats.nil
    have d12 := d1.ext (p := p) (ext_new (o := .tup []) h2)
    refine fun D1 h3 => ?_
    have n3 := b2.ne h3
    have b3 := b2.up (o := .dK []) n3
    have d3 : Dat (upd (upd (upd H L1 (.lst [])) T1 (.tup [])) D1 (.dK [])) p (.ref D1) (.dict []) := .dct upd_same n3.symm
    have d13 := d12.ext (ext_new (o := .dK []) h3)
    have d23 := d2.ext (ext_new (o := .dK []) h3)
    walk_at "st"
    refine fun T2 h4 => ?_
    have n4 := b3.ne h4
    have b4 := b3.up (o := .tup [.int 0]) n4
    have d4 : Dat (upd (upd (upd (upd H L1 (.lst [])) T1 (.tup [])) D1 (.dK [])) T2 (.tup [.int 0])) p (.ref T2) (.tuple [.int 0]) := Dat.new h4 n4.symm (Dats.cons (.int 0) Dats.nil)
    have x4 := ext_new (p := p) (o := .tup [.int 0]) h4
    walk_at "st"
    refine fun T3 h5 => ?_
    have n5 := b4.ne h5
    have b5 := b4.up (o := .tup [.int 0]) n5
    have d5 : Dat (upd (upd (upd (upd (upd H L1 (.lst [])) T1 (.tup [])) D1 (.dK [])) T2 (.tup [.int 0])) T3 (.tup [.int 0])) p (.ref T3) (.tuple [.int 0]) := Dat.new h5 n5.symm (Dats.cons (.int 0) Dats.nil)
    have x5 := ext_new (p := p) (o := .tup [.int 0]) h5
    refine ⟨by show 1 ≤ sizeLine; decide, fun T4 h6 => ?_⟩
    have n6 := b5.ne h6
    have b6 := b5.up (o := .tup [.ref T3]) n6
    have d6 : Dat (upd (upd (upd (upd (upd (upd H L1 (.lst [])) T1 (.tup [])) D1 (.dK [])) T2 (.tup [.int 0])) T3 (.tup [.int 0])) T4 (.tup [.ref T3])) p (.ref T4) (.tuple [.tuple [.int 0]]) := Dat.new h6 n6.symm (Dats.cons d5 Dats.nil)
    have x6 := ext_new (p := p) (o := .tup [.ref T3]) h6
    walk_at "st"
    refine ⟨by show 16 ≤ sizeLine; decide, fun S h7 => ?_⟩
    have n7 := b6.ne h7
    have b7 := b6.up (o := .lst [V.non, V.bl true, V.bl false, V.int 0, V.int 1, V.int (-1), V.int 6, V.int 7, V.str (Str.ofString ""), V.str (Str.ofString "0"), V.ref L1, V.ref T1, V.ref D1, V.ref T2, V.ref T4, V.int (10 ^ Int.toNat 20)]) n7
    have x7 := ext_new (p := p) (o := .lst [V.non, V.bl true, V.bl false, V.int 0, V.int 1, V.int (-1), V.int 6, V.int 7, V.str (Str.ofString ""), V.str (Str.ofString "0"), V.ref L1, V.ref T1, V.ref D1, V.ref T2, V.ref T4, V.int (10 ^ Int.toNat 20)]) h7
    walk_at "st"
    refine fun k' H8 k0 k16 hB8 x8 => ?_
    have hS := x8 _ _ upd_same n7.symm
    have x37 := ((x4.trans x5).trans x6).trans (x7.trans x8)
    have x08 : Ext p H H8 := ((((ext_new h1).trans (ext_new h2)).trans (ext_new h3)).trans x37)
    have fz : Fit 41 0 (.int 0) := fit_int (by decide)
    have t1 : Fit 46 1 (.tuple [.int 0]) := fit_tup (n := 41) (k := 0) (ds := [.int 0]) (fun d hd => by simp at hd; subst hd; exact fz) (fun d hd => by simp at hd; subst hd; unfold noList; rfl)
    rcases (show k' = 0 ∨ k' = 1 ∨ k' = 2 ∨ k' = 3 ∨ k' = 4 ∨ k' = 5 ∨ k' = 6 ∨ k' = 7 ∨ k' = 8 ∨ k' = 9 ∨ k' = 10 ∨ k' = 11 ∨ k' = 12 ∨ k' = 13 ∨ k' = 14 ∨ k' = 15 by omega) with rfl | rfl | rfl | rfl | rfl | rfl | rfl | rfl | rfl | rfl | rfl | rfl | rfl | rfl | rfl | rfl
    all_goals refine ⟨_, _, _, _, rfl, rfl, SqL.of hS, rfl, ?_⟩
    · exact k _ _ _ hB8 x08 .non (fit_none.mono (by decide) (by decide))
    · exact k _ _ _ hB8 x08 (.bl _) ((fit_bool _).mono (by decide) (by decide))
    · exact k _ _ _ hB8 x08 (.bl _) ((fit_bool _).mono (by decide) (by decide))
    · exact k _ _ _ hB8 x08 (.int _) ((fit_int (by decide)).mono (by decide) (by decide))
    · exact k _ _ _ hB8 x08 (.int _) ((fit_int (by decide)).mono (by decide) (by decide))
    · exact k _ _ _ hB8 x08 (.int _) ((fit_int (by decide)).mono (by decide) (by decide))
    · exact k _ _ _ hB8 x08 (.int _) ((fit_int (by decide)).mono (by decide) (by decide))
    · exact k _ _ _ hB8 x08 (.int _) ((fit_int (by decide)).mono (by decide) (by decide))
    · exact k _ _ _ hB8 x08 (.str _) ((fit_str (by decide +kernel)).mono (by decide) (by decide))
    · exact k _ _ _ hB8 x08 (.str _) ((fit_str (by decide +kernel)).mono (by decide) (by decide))
    · exact k _ _ _ hB8 x08 (d13.ext x37) ((fit_lst (n := 0) (k := 0) (ds := []) (fun d hd => by simp at hd) (fun d hd => by simp at hd)).mono (by decide) (by decide))
    · exact k _ _ _ hB8 x08 (d23.ext x37) ((fit_tup (n := 0) (k := 0) (ds := []) (fun d hd => by simp at hd) (fun d hd => by simp at hd)).mono (by decide) (by decide))
    · exact k _ _ _ hB8 x08 (d3.ext x37) ⟨by simp only [PyData.shown]; decide, by simp only [PyData.depth, PyData.depthKv]; decide, by simp only [PyData.showable, PyData.showableKv], .inr (by unfold noList; rfl)⟩
    · exact k _ _ _ hB8 x08 (d4.ext ((x5.trans x6).trans (x7.trans x8))) (t1.mono (by decide) (by decide))
    · exact k _ _ _ hB8 x08 (d6.ext (x7.trans x8)) ((fit_tup (n := 46) (k := 1) (ds := [.tuple [.int 0]]) (fun d hd => by simp at hd; subst hd; exact t1) (fun d hd => by simp at hd; subst hd; exact noList_of fun e he => by simp at he; subst he; unfold noList; rfl)).mono (by decide) (by decide))
    · exact k _ _ _ hB8 x08 (.int _) ((fit_int (by decide)).mono (by decide) (by decide))
end
end Fm
end FQ10
section FQ11
set_option Elab.async false
set_option linter.all false
set_option maxRecDepth 100000
set_option maxHeartbeats 4000000
local macro_rules | `(tactic| walk_at "ne") => `(tactic| first | assumption | (apply Ne.symm; assumption) | exact L2.ne_of_none (by assumption) (by assumption) | exact Ne.symm (L2.ne_of_none (by assumption) (by assumption)))
local macro_rules | `(tactic| walk_at "hl") => `(tactic| first | assumption | exact L2.upd_same | (refine Eq.trans (L2.upd_ne (by walk_at "ne")) ?_; walk_at "hl"))
local macro_rules | `(tactic| walk_at "sd") => `(tactic| first | (with_reducible show (_ : Int) < _; omega) | (with_reducible show (_ : Int) ≤ _; omega) | assumption | decide | exact ⟨by assumption, by assumption⟩ | exact ⟨by decide, by decide⟩ | exact Or.inr ⟨by decide, by decide⟩ | exact Or.inl ⟨by omega, by omega⟩ | rfl)
local macro_rules | `(tactic| walk_at "st1") => `(tactic| first
  | refine ⟨_, rfl, ?_⟩
  | refine ⟨_, _, rfl, rfl, ?_⟩
  | refine ⟨_, _, rfl, ?_⟩
  | (refine ⟨_, _, _, _, rfl, rfl, L2.SqL.of (by walk_at "hl"), rfl, ?_⟩)
  | (refine ⟨_, _, _, _, rfl, rfl, L2.SqT.of (by walk_at "hl"), rfl, ?_⟩)
  | (refine ⟨_, _, _, _, rfl, rfl, (by walk_at "hl"), rfl, ?_⟩)
  | (refine And.intro (by walk_at "sd") ?_)
  )
local macro_rules | `(tactic| walk_at "st") => `(tactic| repeat walk_at "st1")
local macro_rules | `(tactic| walk_at "op") => `(tactic| try dsimp only [L2.tSeq, L2.tAsg, L2.tOp, L2.tVar, L2.tC, L2.gSub, L2.rI, L2.rI0, L2.rIxL, L2.rIxT, L2.rSetL, L2.tIfS, L2.tTest, L2.tRet, L2.gName, L2.tNext, L2.tAnd, L2.tOr, L2.tNot, L2.tAndV, L2.tOrV, L2.tNotV, L2.tB, L2.tCB, L2.tCons, L2.tNil, L2.tCall, L2.tTup, L2.tLst, L2.tChain, L2.tUn, L2.tPar, L2.tDrop, L2.tIf, L2.tBM, L2.tBM0, L2.rAppend, L2.rCat, L2.rIsi, L2.rIsiT, L2.gTup, L2.gCons, L2.gNil, Fm.tFor_eq, Fm.tLc_eq, L2.iTup, L2.iList, L2.iRng1, L2.iRng2, L2.tSl, L2.tPart, L2.tNoPart, L2.rSlL, L2.rEq, L2.rNe, L2.rU, L2.rEqD, L2.rNeD, Fm.tRevT, Fm.rLenS, Fm.rTupOf, Fm.rLstOf, L2.tDNewK, L2.tCallS, L2.WE, Fm.wKeep, Fm.rIsK, Fm.rIsKT, List.cons_append, List.nil_append, L2.tYes])
namespace Fm
open PySem PySem.Spec PyProof.Rows L2
abbrev s_law_bent : Stmt := top 41
abbrev N_law_bent : List Str := ["bag", "thing", "deep", "at", "some", "part"]
theorem sc_law_bent : FnScope N_law_bent ["bag", "thing", "deep"] (defScope s_law_bent) := ⟨rfl, rfl, rfl, by decide +kernel, rfl, by decide +kernel, by decide +kernel⟩
section
variable {P : Program} {w : World} {K : PySem.W.Frag} {mg : Str → Option Value} {base : Heap}
/-- parts of a house: numbers, rows of them .. -/
def Pure : Nat → PyData → Prop
  | 0, d => ∃ i : Int, d = .int i ∧ 0 ≤ i ∧ i < 7
  | j + 1, d => ∃ ds, d = .tuple ds ∧ 1 ≤ ds.length ∧ ds.length ≤ 6 ∧ ∀ e ∈ ds, Pure j e
/-- how long what comes of them is shown -/
def big : Nat → Nat
  | 0 => 100
  | j + 1 => (big j + 2) * 14 + 3
theorem pure_fit : ∀ {j : Nat} {d : PyData}, Pure j d → Fit (big j) (j + 2) d ∧ noList d = true ∧ d.hasDict = false ∧ PyData.canLay0 d = true
  | 0, d, ⟨i, e, h0, h1⟩ => by
    subst e
    refine ⟨(fit_int ?_).mono (by decide) (by omega), by unfold noList; rfl, by simp only [PyData.hasDict], by simp only [PyData.canLay0]⟩
    have : i.natAbs < 10 := by omega
    exact Nat.lt_of_lt_of_le this (by decide)
  | j + 1, d, ⟨ds, e, h0, h1, h⟩ => by
    subst e
    have q := fun e he => pure_fit (h e he)
    have lay : ∀ l : List PyData, (∀ e ∈ l, PyData.canLay0 e = true) → PyData.canLayAll0 l = true := fun l => by
      induction l with
      | nil => intro _; simp [PyData.canLayAll0]
      | cons x r ih =>
        intro hl
        simp only [PyData.canLayAll0, hl x List.mem_cons_self, ih fun e he => hl e (List.mem_cons_of_mem _ he), Bool.and_self]
    refine ⟨(fit_tup (fun e he => (q e he).1) fun e he => (q e he).2.1).mono ?_ (by omega), noList_of fun e he => (q e he).2.1, by simp only [PyData.hasDict]; exact hasDict_all fun e he => (q e he).2.2.1, by simp only [PyData.canLay0]; exact lay ds fun e he => (q e he).2.2.2⟩
    show (big j + 2) * ds.length + 3 ≤ (big j + 2) * 14 + 3
    exact Nat.add_le_add_right (Nat.mul_le_mul_left _ (by omega)) 3
theorem house_pure {m n : Nat} {d : PyData} (h : HouseN m n d) : Pure 4 d := by
  obtain ⟨fs, rfl, hl, h1, h4, hm1, hm6, hf⟩ := h
  have tab : ∀ t, TabD m t → Pure 2 t := fun t ⟨rs, e, hl, hr, _⟩ => ⟨rs, e, by omega, by omega, fun r hr' => by
    obtain ⟨ns, e1, h2, h3⟩ := hr r hr'
    refine ⟨ns, e1, by omega, by omega, fun x hx => ?_⟩
    obtain ⟨i, e2, i0, i1⟩ := h3 x hx
    exact ⟨i, e2, i0, by omega⟩⟩
  refine ⟨fs, rfl, by omega, by omega, fun f hf' => ?_⟩
  obtain ⟨s, u, rfl, hs, hu⟩ := hf f hf'
  refine ⟨[s, u], rfl, by show 1 ≤ 2; decide, by show 2 ≤ 6; decide, fun e he => ?_⟩
  simp only [List.mem_cons, List.not_mem_nil, or_false] at he
  rcases he with rfl | rfl
  · exact tab _ hs
  · exact tab _ hu
theorem dpAll_of {K : PySem.W.Frag} {H : Hp} : ∀ {xs : List V} {ds : List PyData}, xs.length = ds.length → (∀ (i : Nat) (x : V) (d : PyData), xs[i]? = some x → ds[i]? = some d → Dp K H x d) → DpAll K H xs ds
  | [], [], _, _ => .nil
  | [], _ :: _, h, _ => by simp at h
  | _ :: _, [], h, _ => by simp at h
  | x :: xs, d :: ds, h, k => .cons (k 0 x d rfl rfl) (dpAll_of (by simpa using h) fun i y e a b => k (i + 1) y e (by simpa using a) (by simpa using b))
theorem hasDict_parts : ∀ {ds : List PyData}, PyData.hasDictAll ds = false → ∀ e ∈ ds, e.hasDict = false
  | [], _, e, he => by simp at he
  | d :: r, h, e, he => by
    simp only [PyData.hasDictAll, Bool.or_eq_false_iff] at h
    rcases List.mem_cons.mp he with rfl | he
    · exact h.1
    · exact hasDict_parts h.2 e he
theorem Dat.dp {K : PySem.W.Frag} {H : Hp} {p : Addr} {d : PyData} {v : V} (h : Dat H p v d) : d.hasDict = false → Dp K H v d := by
  induction h with
  | non => exact fun _ => .non
  | bl b => exact fun _ => .bl b
  | int i => exact fun _ => .int i
  | str x => exact fun _ => .str x
  | tup h1 _ h3 h4 ih => exact fun z => .tup (SqT.of h1) (dpAll_of h3 fun i x d a b => ih i x d a b (hasDict_parts (by simpa only [PyData.hasDict] using z) d (List.mem_of_getElem? b)))
  | lst h1 _ h3 h4 ih => exact fun z => .lst (SqL.of h1) (dpAll_of h3 fun i x d a b => ih i x d a b (hasDict_parts (by simpa only [PyData.hasDict] using z) d (List.mem_of_getElem? b)))
  | dct h1 _ => exact fun z => by simp only [PyData.hasDict] at z; cases z
theorem comb_fit {j : Nat} {es : List PyData} (h : ∀ e ∈ es, Fit (big j) (j + 2) e) (hl : es.length ≤ 14) (hok : (∀ e ∈ es, e.hasDict = false) ∨ ∀ e ∈ es, noList e = true) : Fit (big (j + 1)) (j + 3) (.tuple es) := by
  have hz : (big j + 2) * es.length + 3 ≤ big (j + 1) := Nat.add_le_add_right (Nat.mul_le_mul_left _ hl) 3
  rcases hok with q | q
  · exact (fit_tupD h q).mono hz (by omega)
  · exact (fit_tup h q).mono hz (by omega)
theorem big_ge : ∀ j, 100 ≤ big j
  | 0 => Nat.le_refl _
  | j + 1 => by
    have := big_ge j
    show 100 ≤ (big j + 2) * 14 + 3
    omega
/-- parts of a house with one other thing among them -/
theorem mix_fit {j : Nat} {es : List PyData} {o : PyData} (ho : Fit (big j) (j + 2) o) (h : ∀ e ∈ es, Pure j e ∨ e = o) (hl : es.length ≤ 14) : Fit (big (j + 1)) (j + 3) (.tuple es) := by
  refine comb_fit (fun e he => ?_) hl ?_
  · rcases h e he with q | rfl
    · exact (pure_fit q).1
    · exact ho
  · rcases ho.ok with q | q
    · exact .inl fun e he => by
        rcases h e he with z | rfl
        · exact (pure_fit z).2.2.1
        · exact q
    · exact .inr fun e he => by
        rcases h e he with z | rfl
        · exact (pure_fit z).2.1
        · exact q
theorem Dats.take {H : Hp} {p : Addr} {xs : List V} {ds : List PyData} (h : Dats H p xs ds) (n : Nat) : Dats H p (xs.take n) (ds.take n) := by
  refine ⟨by rw [List.length_take, List.length_take, h.1], fun i x d a b => ?_⟩
  rw [List.getElem?_take] at a b
  split at a
  · rename_i hi
    rw [if_pos hi] at b
    exact h.2 i x d a b
  · cases a
theorem Dats.drop {H : Hp} {p : Addr} {xs : List V} {ds : List PyData} (h : Dats H p xs ds) (n : Nat) : Dats H p (xs.drop n) (ds.drop n) := by
  refine ⟨by rw [List.length_drop, List.length_drop, h.1], fun i x d a b => ?_⟩
  rw [List.getElem?_drop] at a b
  exact h.2 _ x d a b
theorem Dats.append {H : Hp} {p : Addr} {xs ys : List V} {ds es : List PyData} (h : Dats H p xs ds) (k : Dats H p ys es) : Dats H p (xs ++ ys) (ds ++ es) := by
  refine ⟨by simp [h.1, k.1], fun i x d a b => ?_⟩
  by_cases hi : i < xs.length
  · rw [List.getElem?_append_left hi] at a
    rw [List.getElem?_append_left (by rw [← h.1]; exact hi)] at b
    exact h.2 i x d a b
  · rw [List.getElem?_append_right (by omega)] at a
    rw [List.getElem?_append_right (by rw [← h.1]; omega), ← h.1] at b
    exact k.2 _ x d a b
theorem Dats.reverse {H : Hp} {p : Addr} {xs : List V} {ds : List PyData} (h : Dats H p xs ds) : Dats H p xs.reverse ds.reverse := by
  refine ⟨by simp [h.1], fun i x d a b => ?_⟩
  have hi : i < xs.length := by
    have := (List.getElem?_eq_some_iff.mp a).1
    simpa using this
  rw [List.getElem?_reverse hi] at a
  rw [List.getElem?_reverse (by rw [← h.1]; exact hi), ← h.1] at b
  exact h.2 _ x d a b
/-- a cut of a tuple's data -/
def cutD (ds : List PyData) (lo hi : Option Int) : List PyData := (ds.drop (HT.sIx ds.length 0 lo)).take (HT.sIx ds.length ds.length hi - HT.sIx ds.length 0 lo)
theorem rd_slA {K : PySem.W.Frag} {H : Hp} {Q : VK} {p : Addr} {v : V} {ds : List PyData} {lo hi : Option Int} (hB : Bag H p) (hd : Dat H p v (.tuple ds))
    (k : ∀ v' H', Bag H' p → Ext p H H' → Dat H' p v' (.tuple (cutD ds lo hi)) → Q v' H') : rSlA K v lo hi H Q := by
  obtain ⟨a, xs, rfl, ha, hap, hs⟩ := hd.isTup
  refine ⟨a, xs, rfl, SqT.of ha, fun hw => ?_, fun hw q hq => ?_⟩
  · refine k _ _ hB (Ext.refl p H) ?_
    have e : cutD ds lo hi = ds := by
      unfold cutD
      rw [← hs.1, hw.1, hw.2, List.drop_zero, Nat.sub_zero, hs.1, List.take_length]
    rw [e]
    exact hd
  · refine k _ _ (hB.up (hB.ne hq)) (ext_new hq) (Dat.new hq (hB.ne hq).symm ?_)
    unfold cutV cutD
    rw [hs.1]
    exact (hs.drop _).take _
theorem rd_catA {K : PySem.W.Frag} {H : Hp} {Q : VK} {p : Addr} {v u : V} {ds es : List PyData} (hB : Bag H p) (hd : Dat H p v (.tuple ds)) (he : Dat H p u (.tuple es)) (hl : ds.length + es.length ≤ 1000)
    (k : ∀ v' H', Bag H' p → Ext p H H' → Dat H' p v' (.tuple (ds ++ es)) → Q v' H') : rCatA K v u H Q := by
  obtain ⟨a, xs, rfl, ha, hap, hs⟩ := hd.isTup
  obtain ⟨b, ys, rfl, hb, hbp, ht⟩ := he.isTup
  refine ⟨a, b, xs, ys, rfl, rfl, SqT.of ha, SqT.of hb, by rw [hs.1, ht.1]; exact len_le hl, fun z => ?_, fun _ z => ?_, fun _ _ q hq => ?_⟩
  · refine k _ _ hB (Ext.refl p H) ?_
    have : ds = [] := List.eq_nil_of_length_eq_zero (by rw [← hs.1, z]; rfl)
    rw [this]
    exact he
  · refine k _ _ hB (Ext.refl p H) ?_
    have : es = [] := List.eq_nil_of_length_eq_zero (by rw [← ht.1, z]; rfl)
    rw [this, List.append_nil]
    exact hd
  · exact k _ _ (hB.up (hB.ne hq)) (ext_new hq) (Dat.new hq (hB.ne hq).symm (hs.append ht))
theorem cutD_sub {ds : List PyData} {lo hi : Option Int} : (∀ e ∈ cutD ds lo hi, e ∈ ds) ∧ (cutD ds lo hi).length ≤ ds.length := by
  unfold cutD
  refine ⟨fun e he => List.mem_of_mem_drop (List.mem_of_mem_take he), ?_⟩
  rw [List.length_take, List.length_drop]
  omega
theorem eqv_nonempty {ds : List PyData} (h : 1 ≤ ds.length) : PyData.eqv (.tuple ds) (.tuple []) = false := by
  cases ds with
  | nil => simp at h
  | cons d r => simp [PyData.eqv, PyData.eqvAll]
theorem shaped_pure {j : Nat} {d : PyData} (h : Pure j d) (hj : j ≤ 11) : SeqAt.shaped d = true := by
  obtain ⟨F, _, _, c⟩ := pure_fit h
  have := F.dep
  simp only [SeqAt.shaped, c, Bool.true_and, decide_eq_true_eq]
  omega
/-- what bent makes of a part -/
def spBent : Nat → Sp
  | 0 => fun _ _ _ _ => False
  | j + 1 => fun vs H Q _ => ∃ (p : Addr) (v : V) (d : PyData) (deep : Nat), vs = [.ref p, v, .int deep] ∧ Bag H p ∧ Dat H p v d ∧ Pure j d ∧ j < deep ∧ ∀ (v' : V) (d' : PyData) (H' : Hp), Bag H' p → Ext p H H' → Dat H' p v' d' → Fit (big j) (j + 2) d' → Q v' H'
theorem never_ok {x : Str} {st : Stmt} {ps : List Str} (D : Df K mg x st ps) : CallOk P w K mg base CX0 0 x ps (fun _ _ _ _ => False) := by
  obtain ⟨f, fd, F, hm, hb⟩ := D.ex
  exact ⟨f, fd, ⟨fun _ _ _ _ h => h.elim, fun _ _ _ _ _ _ _ _ _ _ _ _ _ h => h.elim⟩, hm, F.kp, hb⟩
theorem ok_law_bent (D : Df K mg "_law_bent" s_law_bent ["bag", "thing", "deep"]) (T : Nms mg) (c_law_pick : CallOk P w K mg base CX0 1 "_law_pick" ["bag", "many"] spPick) (c_law_odd : CallOk P w K mg base CX0 2 "_law_odd" ["bag"] spOdd) (j : Nat) (hjj : j ≤ 10)
    (c_law_bent : CallOk P w K mg base CX0 (2 + j) "_law_bent" ["bag", "thing", "deep"] (spBent j)) : CallOk P w K mg base CX0 (3 + j) "_law_bent" ["bag", "thing", "deep"] (spBent (j + 1)) := by
  rw [show 3 + j = (2 + j) + 1 by omega]
  refine df_ok D sc_law_bent (fun vs H Q E h => ?_) (fun f cdv A outer s H vs Q E hr h => ?_)
  · obtain ⟨p, v, d, deep, rfl, _⟩ := h
    rfl
  · obtain ⟨p, v, d, deep, rfl, hB, hd, hP, hj, k⟩ := h
    have nd := sc_law_bent.nd
    refine ⟨_, (pss_cons (ps_if (PW.pt (pw_or (pt_not (pt_val (pe_callB (r := rIsi K) call_isi (by rfl) T.n_isinstance (by decide +kernel) (pa_cons (pv 1) (pa_cons (pe_bltn (v := .ty "tuple") (by rfl) T.n_tuple (by decide +kernel) rfl) pa_nil))))) (pw_or (pt_cmpR (op_eqD hr.units) (pv 1) (pe_tup pa_nil) (nomark _)) (pw_or (pt_cmpR op_eq (pv 2) pe_int (nomark _)) (pw_or1 (pt_cmpR op_eq (pe_cc c_law_pick (hr.mono (by omega)) (pa_cons (pv 0) (pa_cons pe_int pa_nil))) pe_int (nomark _))))))) (pss_cons (ps_if (PW.pt (pw_or (pt_not (pt_val (pe_callB (r := rIsi K) call_isi (by rfl) T.n_isinstance (by decide +kernel) (pa_cons (pv 1) (pa_cons (pe_bltn (v := .ty "tuple") (by rfl) T.n_tuple (by decide +kernel) rfl) pa_nil))))) (pw_or1 (pt_cmpR op_eq (pe_cc c_law_pick (hr.mono (by omega)) (pa_cons (pv 0) (pa_cons pe_int pa_nil))) pe_int (nomark _))))) (pss_one (ps_ret (pe_cc c_law_odd (hr.mono (by omega)) (pa_cons (pv 0) pa_nil)))) pss_nil)
      (pss_cons (ps_set (i := 3) nd rfl (Or.inl rfl) (pe_cc c_law_pick (hr.mono (by omega)) (pa_cons (pv 0) (pa_cons (pe_op op_add (pe_callB (r := rLenS K) call_lenS (by rfl) T.n_len (by decide +kernel) (pa_cons (pv 1) pa_nil)) pe_int) pa_nil))))
      (pss_cons (ps_set (i := 4) nd rfl (Or.inl rfl) (pe_lst (pa_cons (pe_op (r := rCatA K) op_catA (pv 1) (pe_tup (pa_cons (pe_cc c_law_odd (hr.mono (by omega)) (pa_cons (pv 0) pa_nil)) pa_nil))) (pa_cons (pe_op (r := rCatA K) op_catA (pe_slice (r := rSlA K) sl_tupA (pv 1) po_none (po_some (pv 3))) (pe_slice (r := rSlA K) sl_tupA (pv 1) (po_some (pe_op op_add (pv 3) pe_int)) po_none)) (pa_cons (pe_callTy (r := rLstOf K) call_lstOf (by rfl) T.n_list (by decide +kernel) (pa_cons (pv 1) pa_nil)) (pa_cons (pe_REV (pv 1)) (pa_cons (pe_op (r := rCatA K) op_catA (pv 1) (pe_slice (r := rSlA K) sl_tupA (pv 1) po_none (po_some pe_int))) pa_nil)))))))
      (pss_one (ps_ret (pe_ix (r := rIxL K) ix_list (pv 4) (pe_cc c_law_pick (hr.mono (by omega)) (pa_cons (pv 0) (pa_cons pe_int pa_nil))) (fun _ _ => rfl))))))) pss_nil)
      (pss_cons (ps_set (i := 3) nd rfl (Or.inl rfl) (pe_cc c_law_pick (hr.mono (by omega)) (pa_cons (pv 0) (pa_cons (pe_callB (r := rLenS K) call_lenS (by rfl) T.n_len (by decide +kernel) (pa_cons (pv 1) pa_nil)) pa_nil))))
      (pss_cons (ps_set (i := 5) nd rfl (Or.inl rfl) (pe_cc c_law_bent (hr.mono (by omega)) (pa_cons (pv 0) (pa_cons (pe_ix (r := rIxT K) ix_tup (pv 1) (pv 3) (fun _ _ => rfl)) (pa_cons (pe_op op_sub (pv 2) pe_int) pa_nil)))))
      (pss_one (ps_ret (pe_op (r := rCatA K) op_catA (pe_op (r := rCatA K) op_catA (pe_slice (r := rSlA K) sl_tupA (pv 1) po_none (po_some (pv 3))) (pe_tup (pa_cons (pv 5) pa_nil))) (pe_slice (r := rSlA K) sl_tupA (pv 1) (po_some (pe_op op_add (pv 3) pe_int)) po_none))))))), ?_⟩
    walk_at "op"
    walk_at "st"
    have hdup : ∀ H', Ext p H H' → Dat H' p v d := fun H' x => hd.ext x
    cases j with
    | zero =>
      obtain ⟨i, rfl, _⟩ := hP
      obtain rfl := hd.isInt
      refine ⟨_, _, _, _, _, rfl, .ty _, hd.ty, kit_ty (kit_tuple _), ?_⟩
      walk_at "st"
      refine ⟨_, _, _, _, _, rfl, .ty _, hd.ty, kit_ty (kit_tuple _), ?_⟩
      walk_at "st"
      exact fun v' d' H' hB' x' hd' hf' => k v' d' H' hB' x' hd' (hf'.mono (Nat.le_refl _) (by omega))
    | succ j =>
      obtain ⟨ds, rfl, hl1, hl6, hpu⟩ := id hP
      obtain ⟨a, xs, rfl, ha, hap, hs⟩ := hd.isTup
      refine ⟨_, _, _, _, _, rfl, .ty _, hd.ty, kit_ty (kit_tuple _), ?_⟩
      walk_at "st"
      refine fun t0 ht0 => ?_
      have n0 := hB.ne ht0
      have x0 := ext_new (p := p) (o := .tup []) ht0
      have hB0 := hB.up (o := .tup []) n0
      have fP := pure_fit hP
      refine ⟨.tuple ds, .tuple [], (hdup _ x0).dp fP.2.2.1, .tup (SqT.of upd_same) .nil, shaped_pure hP (by omega), by decide, ?_⟩
      rw [eqv_nonempty hl1]
      walk_at "st"
      rw [show (decide (V.int (deep : Int) = V.int 0)) = false from decide_eq_false (fun z => by have := V.int.inj z; omega)]
      refine iteF ?_
      walk_at "st"
      refine fun k4 H1 _ _ hB1 x1 => ?_
      walk_at "st"
      have x01 := x0.trans x1
      have hmix : ∀ (es : List PyData) (o : PyData), Fit 100 2 o → (∀ e ∈ es, Pure j e ∨ e = o) → es.length ≤ 14 → Fit (big (j + 1)) (j + 1 + 2) (.tuple es) := fun es o ho h hl => mix_fit (ho.mono (big_ge j) (by omega)) h hl
      refine ite2 (fun _ => ?_) (fun _ => ?_)
      · walk_at "st"
        refine ⟨_, _, _, _, _, rfl, .ty _, (hdup _ x01).ty, kit_ty (kit_tuple _), ?_⟩
        walk_at "st"
        refine fun k2 H2 _ _ hB2 x2 => ?_
        walk_at "st"
        have x02 := x01.trans x2
        refine ite2 (fun _ => ?_) (fun _ => ?_)
        · walk_at "st"
          exact fun v' d' H' hB' x' hd' hf' => k v' d' H' hB' (x02.trans x') hd' (hf'.mono (Nat.le_trans (big_ge j) (by show big j ≤ (big j + 2) * 14 + 3; omega)) (by omega))
        · walk_at "st"
          refine ⟨_, _, rfl, .inr (SqT.of (x02 _ _ ha hap)), ?_⟩
          walk_at "st"
          have hxl : xs.length ≤ 6 := by rw [hs.1]; exact hl6
          refine ⟨Nat.lt_of_le_of_lt (Nat.log2_le_self _) (by omega), hB2, fun at0 H3 a0 a1 hB3 x3 => ?_⟩
          walk_at "st"
          refine fun ov od H4 hB4 x4 hod hof => ?_
          have y4 := (x02.trans x3).trans x4
          refine ⟨by show 1 ≤ sizeLine; decide, fun t1 ht1 => ?_⟩
          have nt1 := hB4.ne ht1
          have y5 := y4.trans (ext_new (o := .tup [ov]) ht1)
          refine rd_catA (hB4.up nt1) (hdup _ y5) (Dat.new ht1 nt1.symm (Dats.cons hod Dats.nil)) (by show _ + 1 ≤ 1000; omega) fun v1 H5 hB5 x5 hv1 => ?_
          have y5' := y5.trans x5
          walk_at "st"
          refine rd_slA hB5 (hdup _ y5') fun s1 H6 hB6 x6 hs1 => ?_
          have y6 := y5'.trans x6
          walk_at "st"
          refine rd_slA hB6 (hdup _ y6) fun s2 H7 hB7 x7 hs2 => ?_
          have y7 := y6.trans x7
          refine rd_catA hB7 (hs1.ext x7) hs2 (by have q1 := (cutD_sub (ds := ds) (lo := none) (hi := some at0)).2; have q2 := (cutD_sub (ds := ds) (lo := some (at0 + 1)) (hi := none)).2; omega) fun v2 H8 hB8 x8 hv2 => ?_
          have y8 := y7.trans x8
          walk_at "st"
          refine ⟨_, _, rfl, .inr (SqT.of (y8 _ _ ha hap)), fun l hl => ?_⟩
          have nl := hB8.ne hl
          have x9 := ext_new (p := p) (o := .lst xs) hl
          have hv3 : Dat (upd H8 l (.lst xs)) p (.ref l) (.list ds) := Dat.newL hl nl.symm (hs.ext y8)
          have hB9 := hB8.up (o := .lst xs) nl
          have y9 := y8.trans x9
          walk_at "st"
          refine ⟨_, _, rfl, SqT.of (y9 _ _ ha hap), fun q hq => ?_⟩
          have nq := hB9.ne hq
          have x10 := ext_new (p := p) (o := .tup xs.reverse) hq
          have hv4 : Dat (upd (upd H8 l (.lst xs)) q (.tup xs.reverse)) p (.ref q) (.tuple ds.reverse) := Dat.new hq nq.symm (hs.ext y9).reverse
          have hB10 := hB9.up (o := .tup xs.reverse) nq
          have y10 := y9.trans x10
          walk_at "st"
          refine rd_slA hB10 (hdup _ y10) fun s3 H11 hB11 x11 hs3 => ?_
          have y11 := y10.trans x11
          refine rd_catA hB11 (hdup _ y11) hs3 (by have q1 := (cutD_sub (ds := ds) (lo := none) (hi := some 1)).2; omega) fun v5 H12 hB12 x12 hv5 => ?_
          have y12 := y11.trans x12
          refine ⟨by show 5 ≤ sizeLine; decide, fun S hS => ?_⟩
          have nS := hB12.ne hS
          have x13 := ext_new (p := p) (o := .lst [v1, v2, V.ref l, V.ref q, v5]) hS
          have hB13 := hB12.up (o := .lst [v1, v2, V.ref l, V.ref q, v5]) nS
          walk_at "st"
          refine fun k5 H14 k50 k55 hB14 x14 => ?_
          have hS14 := x14 _ _ upd_same nS.symm
          have yE := (y12.trans x13).trans x14
          have z12 := x13.trans x14
          have z10 := (x11.trans x12).trans z12
          have pin : ∀ e ∈ ds, Pure j e ∨ e = od := fun e he => .inl (hpu e he)
          rcases (show k5 = 0 ∨ k5 = 1 ∨ k5 = 2 ∨ k5 = 3 ∨ k5 = 4 by omega) with rfl | rfl | rfl | rfl | rfl
          all_goals refine ⟨_, _, _, _, rfl, rfl, SqL.of hS14, rfl, ?_⟩
          · refine k _ _ _ hB14 yE (hv1.ext ((((((x6.trans x7).trans x8).trans x9).trans x10).trans (x11.trans x12)).trans z12)) (hmix _ od hof (fun e he => ?_) (by simp; omega))
            rcases List.mem_append.mp he with he | he
            · exact .inl (hpu e he)
            · exact .inr (by simpa using he)
          · refine k _ _ _ hB14 yE (hv2.ext ((x9.trans x10).trans z10)) (hmix _ od hof (fun e he => ?_) (by have q1 := (cutD_sub (ds := ds) (lo := none) (hi := some at0)).2; have q2 := (cutD_sub (ds := ds) (lo := some (at0 + 1)) (hi := none)).2; rw [List.length_append]; omega))
            rcases List.mem_append.mp he with he | he
            · exact .inl (hpu e (cutD_sub.1 e he))
            · exact .inl (hpu e (cutD_sub.1 e he))
          · refine k _ _ _ hB14 yE (hv3.ext (x10.trans z10)) ?_
            have q : ∀ e ∈ ds, Fit (big j) (j + 2) e ∧ noList e = true ∧ e.hasDict = false ∧ PyData.canLay0 e = true := fun e he => pure_fit (hpu e he)
            exact (fit_lst (fun e he => (q e he).1) fun e he => (q e he).2.2.1).mono (Nat.add_le_add_right (Nat.mul_le_mul_left _ (by omega)) 3) (by omega)
          · exact k _ _ _ hB14 yE (hv4.ext z10) (hmix _ od hof (fun e he => .inl (hpu e (by simpa using he))) (by simp; omega))
          · refine k _ _ _ hB14 yE (hv5.ext z12) (hmix _ od hof (fun e he => ?_) (by have q1 := (cutD_sub (ds := ds) (lo := none) (hi := some 1)).2; rw [List.length_append]; omega))
            rcases List.mem_append.mp he with he | he
            · exact .inl (hpu e he)
            · exact .inl (hpu e (cutD_sub.1 e he))
      · walk_at "st"
        have hxl : xs.length ≤ 6 := by rw [hs.1]; exact hl6
        have hx0 : 1 ≤ xs.length := by rw [hs.1]; exact hl1
        refine ⟨_, _, rfl, .inr (SqT.of (x01 _ _ ha hap)), ?_⟩
        refine ⟨p, _, rfl, by omega, Nat.lt_of_le_of_lt (Nat.log2_le_self _) (by omega), hB1, fun at0 H2 a0 a1 hB2 x2 => ?_⟩
        have x02 := x01.trans x2
        walk_at "st"
        have hat : at0.toNat < xs.length := by omega
        obtain ⟨e, he, hde⟩ := (hs.ext x02).at (List.getElem?_eq_getElem hat)
        refine ⟨_, _, _, _, rfl, rfl, SqT.of (x02 _ _ ha hap), atI_of a0 (List.getElem?_eq_getElem hat), ?_⟩
        walk_at "st"
        refine ⟨p, _, e, deep - 1, by rw [show ((deep - 1 : Nat) : Int) = (deep : Int) - 1 by omega], hB2, hde, hpu e (List.mem_of_getElem? he), by omega, fun pv' pd H3 hB3 x3 hpd hpf => ?_⟩
        have y3 := x02.trans x3
        walk_at "st"
        refine rd_slA hB3 (hdup _ y3) fun s1 H4 hB4 x4 hs1 => ?_
        walk_at "st"
        refine ⟨by show 1 ≤ sizeLine; decide, fun t1 ht1 => ?_⟩
        have nt1 := hB4.ne ht1
        have x5 := ext_new (p := p) (o := .tup [pv']) ht1
        refine rd_catA (hB4.up nt1) (hs1.ext x5) (Dat.new ht1 nt1.symm (Dats.cons (hpd.ext x4) Dats.nil)) (by have q1 := (cutD_sub (ds := ds) (lo := none) (hi := some at0)).2; show _ + 1 ≤ 1000; omega) fun s2 H5 hB5 x6 hs2 => ?_
        have y5 := ((y3.trans x4).trans x5).trans x6
        walk_at "st"
        refine rd_slA hB5 (hdup _ y5) fun s3 H6 hB6 x7 hs3 => ?_
        refine rd_catA hB6 (hs2.ext x7) hs3 (by have q1 := (cutD_sub (ds := ds) (lo := none) (hi := some at0)).2; have q2 := (cutD_sub (ds := ds) (lo := some (at0 + 1)) (hi := none)).2; rw [List.length_append]; show _ + 1 + _ ≤ 1000; omega) fun s4 H7 hB7 x8 hs4 => ?_
        refine k _ _ _ hB7 ((y5.trans x7).trans x8) hs4 (mix_fit hpf (fun z hz => ?_) (by have q1 := (cutD_sub (ds := ds) (lo := none) (hi := some at0)).2; have q2 := (cutD_sub (ds := ds) (lo := some (at0 + 1)) (hi := none)).2; rw [List.length_append, List.length_append]; show _ + 1 + _ ≤ 14; omega))
        rcases List.mem_append.mp hz with hz | hz
        · rcases List.mem_append.mp hz with hz | hz
          · exact .inl (hpu z (cutD_sub.1 z hz))
          · exact .inr (by simpa using hz)
        · exact .inl (hpu z (cutD_sub.1 z hz))
end
end Fm
end FQ11
section FQ12
set_option Elab.async false
set_option linter.all false
set_option maxRecDepth 100000
set_option maxHeartbeats 4000000
local macro_rules | `(tactic| walk_at "ne") => `(tactic| first | assumption | (apply Ne.symm; assumption) | exact L2.ne_of_none (by assumption) (by assumption) | exact Ne.symm (L2.ne_of_none (by assumption) (by assumption)))
local macro_rules | `(tactic| walk_at "hl") => `(tactic| first | assumption | exact L2.upd_same | (refine Eq.trans (L2.upd_ne (by walk_at "ne")) ?_; walk_at "hl"))
local macro_rules | `(tactic| walk_at "sd") => `(tactic| first | (with_reducible show (_ : Int) < _; omega) | (with_reducible show (_ : Int) ≤ _; omega) | assumption | decide | exact ⟨by assumption, by assumption⟩ | exact ⟨by decide, by decide⟩ | exact Or.inr ⟨by decide, by decide⟩ | exact Or.inl ⟨by omega, by omega⟩ | rfl)
local macro_rules | `(tactic| walk_at "st1") => `(tactic| first
  | refine ⟨_, rfl, ?_⟩
  | refine ⟨_, _, rfl, rfl, ?_⟩
  | refine ⟨_, _, rfl, ?_⟩
  | (refine ⟨_, _, _, _, rfl, rfl, L2.SqL.of (by walk_at "hl"), rfl, ?_⟩)
  | (refine ⟨_, _, _, _, rfl, rfl, L2.SqT.of (by walk_at "hl"), rfl, ?_⟩)
  | (refine ⟨_, _, _, _, rfl, rfl, (by walk_at "hl"), rfl, ?_⟩)
  | (refine And.intro (by walk_at "sd") ?_)
  )
local macro_rules | `(tactic| walk_at "st") => `(tactic| repeat walk_at "st1")
local macro_rules | `(tactic| walk_at "op") => `(tactic| try dsimp only [L2.tSeq, L2.tAsg, L2.tOp, L2.tVar, L2.tC, L2.gSub, L2.rI, L2.rI0, L2.rIxL, L2.rIxT, L2.rSetL, L2.tIfS, L2.tTest, L2.tRet, L2.gName, L2.tNext, L2.tAnd, L2.tOr, L2.tNot, L2.tAndV, L2.tOrV, L2.tNotV, L2.tB, L2.tCB, L2.tCons, L2.tNil, L2.tCall, L2.tTup, L2.tLst, L2.tChain, L2.tUn, L2.tPar, L2.tDrop, L2.tIf, L2.tBM, L2.tBM0, L2.rAppend, L2.rCat, L2.rIsi, L2.rIsiT, L2.gTup, L2.gCons, L2.gNil, Fm.tFor_eq, Fm.tLc_eq, L2.iTup, L2.iList, L2.iRng1, L2.iRng2, L2.tSl, L2.tPart, L2.tNoPart, L2.rSlL, L2.rEq, L2.rNe, L2.rU, L2.rEqD, L2.rNeD, Fm.tRevT, Fm.rLenS, Fm.rTupOf, Fm.rLstOf, L2.tDNewK, L2.tCallS, L2.WE, Fm.wKeep, Fm.rIsK, Fm.rIsKT, List.cons_append, List.nil_append, L2.tYes])
namespace Fm
open PySem PySem.Spec PyProof.Rows L2
abbrev s_law_edges : Stmt := top 42
abbrev N_law_edges : List Str := ["bag", "found", "m", "table", "b", "a", "floors", "zero"]
theorem sc_law_edges : FnScope N_law_edges ["bag"] (defScope s_law_edges) := ⟨rfl, rfl, rfl, by decide +kernel, rfl, by decide +kernel, by decide +kernel⟩
section
variable {P : Program} {w : World} {K : PySem.W.Frag} {mg : Str → Option Value} {base : Heap}
/-- small things, tuples of them .. -/
inductive Tr : Nat → PyData → Prop
  | int (j : Nat) {i : Int} : i.natAbs < 10 → Tr j (.int i)
  | bl (j : Nat) (b : Bool) : Tr j (.bool b)
  | tup {j : Nat} {ds : List PyData} : ds.length ≤ 7 → (∀ e ∈ ds, Tr j e) → Tr (j + 1) (.tuple ds)
def bt : Nat → Nat
  | 0 => 41
  | j + 1 => (bt j + 2) * 7 + 3
theorem bt_ge : ∀ j, 41 ≤ bt j
  | 0 => Nat.le_refl _
  | j + 1 => by
    have := bt_ge j
    show 41 ≤ (bt j + 2) * 7 + 3
    omega
theorem Tr.up {j : Nat} {d : PyData} (h : Tr j d) : Tr (j + 1) d := by
  induction h with
  | int j h => exact .int _ h
  | bl j b => exact .bl _ b
  | tup h1 _ ih => exact .tup h1 ih
theorem Tr.fit {j : Nat} {d : PyData} (h : Tr j d) : Fit (bt j) j d ∧ noList d = true := by
  induction h with
  | int j h => exact ⟨(fit_int (Nat.lt_of_lt_of_le h (by decide))).mono (bt_ge _) (by omega), by unfold noList; rfl⟩
  | bl j b => exact ⟨(fit_bool b).mono (Nat.le_trans (by decide) (bt_ge _)) (by omega), by unfold noList; rfl⟩
  | tup h1 _ ih => exact ⟨(fit_tup (fun e he => (ih e he).1) fun e he => (ih e he).2).mono (Nat.add_le_add_right (Nat.mul_le_mul_left _ h1) 3) (Nat.le_refl _), noList_of fun e he => (ih e he).2⟩
/-- a tuple of one, some times -/
theorem rd_times {K : PySem.W.Frag} {H : Hp} {Q : VK} {p : Addr} {v : V} {d : PyData} {n : Nat} (hB : Bag H p) (hd : Dat H p v (.tuple [d])) (hn : 1 ≤ n) (hl : n ≤ 7)
    (k : ∀ v' H', Bag H' p → Ext p H H' → Dat H' p v' (.tuple (List.replicate n d)) → Q v' H') : rTimes K v (.int n) H Q := by
  obtain ⟨a, xs, rfl, ha, hap, hs⟩ := hd.isTup
  by_cases h1 : n = 1
  · subst h1
    exact .inl ⟨a, xs, rfl, rfl, SqT.of ha, k _ _ hB (Ext.refl p H) hd⟩
  · refine .inr ?_
    have e : (List.replicate ((n : Int)).toNat xs).flatten = List.replicate n (xs.headD .non) := by
      have hx : xs.length = 1 := hs.1
      match xs, hx with
      | [x], _ =>
        rw [Int.toNat_natCast]
        exact List.flatten_replicate_singleton
    refine ⟨a, _, xs, rfl, rfl, SqT.of ha, fun z => ?_, by omega, by omega, by rw [hs.1]; show 1 ≤ 1000; decide, fun q hq => ?_⟩
    · have := hs.1
      rw [z] at this
      cases this
    · refine k _ _ (hB.up (hB.ne hq)) (ext_new hq) (Dat.new hq (hB.ne hq).symm ?_)
      rw [e]
      refine ⟨by simp, fun i x d' a b => ?_⟩
      rw [List.getElem?_replicate] at a b
      split at a
      · rename_i hi
        rw [if_pos hi] at b
        cases a
        cases b
        have hx : xs.length = 1 := hs.1
        match xs, hx, hs with
        | [x], _, hs => exact hs.2 0 _ _ rfl rfl
      · cases a
theorem hFt2' (Hz : Hp) {F t2 : Addr} (xs ys : List V) (a : Hz F = some (.lst xs)) (b : Hz t2 = some (.tup ys)) : F ≠ t2 := fun z => by
  rw [z] at a
  rw [a] at b
  cases b
def spEdges : Sp := fun vs H Q _ => ∃ p : Addr, vs = [.ref p] ∧ Bag H p ∧ ∀ (L : Addr) (xs : List V) (ds : List PyData) (H' : Hp), Bag H' p → Ext p H H' → H' L = some (.lst xs) → L ≠ p → Dats H' p xs ds → ds.length ≤ 20 → (∀ d ∈ ds, Tr 4 d) → Q (.ref L) H'
theorem ok_law_edges (D : Df K mg "_law_edges" s_law_edges ["bag"]) (T : Nms mg) : CallOk P w K mg base CX0 1 "_law_edges" ["bag"] spEdges := by
  refine df_ok D sc_law_edges (fun vs H Q E h => ?_) (fun f cdv A outer s H vs Q E hr h => ?_)
  · obtain ⟨p, rfl, _⟩ := h
    rfl
  · obtain ⟨p, rfl, hB, k⟩ := h
    have nd := sc_law_edges.nd
    refine ⟨_, (pss_cons (ps_set (i := 1) nd rfl (Or.inl rfl) (pe_lst pa_nil))
      (pss_cons (ps_for PassesOwn.never rfl (pi_tup (pe_tup (pa_cons pe_int (pa_cons pe_int (pa_cons pe_int pa_nil))))) (pg_name (i := 2) nd rfl (Or.inr rfl)) (pss_cons (ps_set (i := 3) nd rfl (Or.inl rfl) (pe_callTy (r := rTupOf K) call_tupOf (by rfl) T.n_tuple (by decide +kernel) (pa_cons (pe_lc (own := [("a", 5)]) (g := (gName 5)) (tt := tYes) (by rfl) nd (pi_range1 rfl T.n_range (pa_cons (pv 2) pa_nil)) (blkOk_by (own := [("a", 5)]) (N := N_law_edges) (sc := defScope s_law_edges) (by decide +kernel)) (fun _ _ _ _ _ => (pg_name (i := 5) nd rfl (Or.inr rfl))) (fun _ _ _ _ _ => pts_nil) (fun _ _ _ _ _ => (pe_callTy (r := rTupOf K) call_tupOf (by rfl) T.n_tuple (by decide +kernel) (pa_cons (pe_lc (own := [("b", 4)]) (g := (gName 4)) (tt := tYes) (by rfl) nd (pi_range1 rfl T.n_range (pa_cons (pv 2) pa_nil)) (blkOk_by (own := [("b", 4)]) (N := N_law_edges) (sc := relS _ (defScope s_law_edges)) (by decide +kernel)) (fun _ _ _ _ _ => (pg_name (i := 4) nd rfl (Or.inl rfl))) (fun _ _ _ _ _ => pts_nil) (fun _ _ _ _ _ => (pe_op op_mod (pe_op op_mul (pv 5) (pv 4)) (pv 2)))) pa_nil)))) pa_nil)))
      (pss_one (ps_for PassesOwn.never rfl (pi_tup (pe_tup (pa_cons pe_int (pa_cons pe_int (pa_cons pe_int pa_nil))))) (pg_name (i := 6) nd rfl (Or.inl rfl)) (pss_one (ps_expr (pe_bm PySem.F.plainAttrs_list PySem.F.slot_list_append PySem.F.type_list_append mt_append (pv 1) (pa_cons (pe_op (r := rTimes K) op_times (pe_tup (pa_cons (pe_tup (pa_cons (pv 3) (pa_cons (pv 3) pa_nil))) pa_nil)) (pv 6)) pa_nil))))))))
      (pss_cons (ps_set (i := 7) nd rfl (Or.inl rfl) (pe_tup (pa_cons (pe_op (r := rTimes K) op_times (pe_tup (pa_cons (pe_tup (pa_cons pe_int pa_nil)) pa_nil)) pe_int) pa_nil)))
      (pss_one (ps_ret (pe_op op_cat (pv 1) (pe_lst (pa_cons (pe_op (r := rCatA K) op_catA (pv 7) (pe_tup (pa_cons (pe_op (r := rTimes K) op_times (pe_tup (pa_cons (pe_tup (pa_cons (pe_tup (pa_cons pe_int (pa_cons pe_int pa_nil))) (pa_cons (pe_tup (pa_cons pe_int (pa_cons pe_int pa_nil))) pa_nil))) pa_nil)) pe_int) pa_nil))) (pa_cons (pe_tup (pa_cons (pe_op (r := rTimes K) op_times (pe_tup (pa_cons (pe_tup (pa_cons (pe_tup (pa_cons pe_int (pa_cons pe_int pa_nil))) (pa_cons (pe_tup (pa_cons pe_int (pa_cons pe_int pa_nil))) pa_nil))) pa_nil)) pe_int) pa_nil)) (pa_cons (pe_tup (pa_cons (pe_op (r := rTimes K) op_times (pe_tup (pa_cons (pe_tup (pa_cons (pe_tup (pa_cons pe_int (pa_cons pe_bl pa_nil))) (pa_cons (pe_tup (pa_cons pe_bl (pa_cons pe_int pa_nil))) pa_nil))) pa_nil)) pe_int) pa_nil)) pa_nil)))))))))), ?_⟩
    walk_at "op"
    walk_at "st"
    refine fun F hF => ?_
    have nF := hB.ne hF
    have hB1 := hB.up (o := .lst []) nF
    walk_at "st"
    refine fun t1 ht1 => ?_
    have n1 := hB1.ne ht1
    have hB2 := hB1.up (o := .tup [.int 1, .int 6, .int 7]) n1
    have F1 : F ≠ t1 := ne_of_none upd_same ht1
    refine ⟨t1, rfl, ⟨_, SqT.of upd_same⟩, ?_⟩
    have x2 := (ext_new (p := p) (o := .lst []) hF).trans (ext_new (p := p) (o := .tup [.int 1, .int 6, .int 7]) ht1)
    refine fT (fun i σ H4 => Bag H4 p ∧ Ext p H H4 ∧ H4 t1 = some (.tup [.int 1, .int 6, .int 7]) ∧ (∃ u2 u3 u4 u5 u6 u7, σ = [some (.ref p), some (.ref F), u2, u3, u4, u5, u6, u7]) ∧ ∃ xs ds, H4 F = some (.lst xs) ∧ Dats H4 p xs ds ∧ ds.length = 3 * i ∧ ∀ e ∈ ds, Tr 4 e)
      ⟨hB2, x2, upd_same, ⟨_, _, _, _, _, _, rfl⟩, [], [], by rw [upd_ne F1]; exact upd_same, Dats.nil, rfl, fun e he => by simp at he⟩ (fun i σ H4 _ hp => SqT.of hp.2.2.1) ?_ ?_
    · rintro i x σ H4 hi ⟨hB4, x4, hT4, ⟨u2, u3, u4, u5, u6, u7, rfl⟩, xs, ds, hF4, hD, hl, hf⟩
      obtain ⟨m, rfl, m1, m7⟩ : ∃ m : Nat, x = .int m ∧ 1 ≤ m ∧ m ≤ 7 := by
        match i, hi with
        | 0, hi => cases hi; exact ⟨1, rfl, by decide, by decide⟩
        | 1, hi => cases hi; exact ⟨6, rfl, by decide, by decide⟩
        | 2, hi => cases hi; exact ⟨7, rfl, by decide, by decide⟩
      have hi3 : i < 3 := (List.getElem?_eq_some_iff.mp hi).1
      clear hi
      walk_at "op"
      walk_at "st"
      refine fun A1 hA1 => ?_
      have nA1 := hB4.ne hA1
      refine lR (fun j H5 => Bag H5 p ∧ Ext p H4 H5 ∧ ∃ rs rds, H5 A1 = some (.lst rs) ∧ Dats H5 p rs rds ∧ rds.length = j ∧ ∀ e ∈ rds, Tr 1 e) ⟨hB4.up nA1, ext_new hA1, [], [], upd_same, Dats.nil, rfl, fun e he => by simp at he⟩ ?_ ?_
      · rintro j H5 hj ⟨hB5, x5, rs, rds, hR, hRD, hrl, hrf⟩
        rw [Int.toNat_natCast] at hj
        walk_at "op"
        refine ⟨rfl, ?_⟩
        walk_at "st"
        refine fun A2 hA2 => ?_
        have nA2 := hB5.ne hA2
        have A12 : A1 ≠ A2 := ne_of_none hR hA2
        refine lR (fun l H6 => Bag H6 p ∧ Ext p H5 H6 ∧ ∃ ns : List Int, H6 A2 = some (.lst (ns.map V.int)) ∧ ns.length = l ∧ ∀ n ∈ ns, n.natAbs < 10) ⟨hB5.up nA2, ext_new hA2, [], upd_same, rfl, fun e he => by simp at he⟩ ?_ ?_
        · rintro l H6 hl6 ⟨hB6, x6, ns, hN, hnl, hnf⟩
          rw [Int.toNat_natCast] at hl6
          walk_at "op"
          refine ⟨rfl, ?_⟩
          walk_at "st"
          refine ⟨_, hN, by rw [List.length_map, hnl]; exact small1000 (by omega), hB6.up nA2, x6.off hA2, ns ++ [(0 + (j : Int)) * (0 + (l : Int)) % (m : Int)], ?_, by simp [hnl], fun e he => ?_⟩
          · rw [upd_same, List.map_append]
            rfl
          · rcases List.mem_append.mp he with he | he
            · exact hnf e he
            · simp only [List.mem_cons, List.not_mem_nil, or_false] at he
              subst he
              have q0 := Int.emod_nonneg ((0 + (j : Int)) * (0 + (l : Int))) (show (m : Int) ≠ 0 by omega)
              have q1 := Int.emod_lt_of_pos ((0 + (j : Int)) * (0 + (l : Int))) (show (0 : Int) < m by omega)
              omega
        · rintro H6 ⟨hB6, x6, ns, hN, hnl, hnf⟩
          rw [Int.toNat_natCast] at hnl
          refine ⟨_, _, rfl, .inl ⟨SqL.of hN, fun l hl0 => ?_⟩⟩
          have nl := hB6.ne hl0
          have hR6 := x6 _ _ hR nA1.symm
          have A1l : A1 ≠ l := ne_of_none hR6 hl0
          have hR7 : upd H6 l (.tup (ns.map V.int)) A1 = some (.lst rs) := by rw [upd_ne A1l]; exact hR6
          have x67 := x6.trans (ext_new (p := p) (o := .tup (ns.map V.int)) hl0)
          have hrow : Dat (upd H6 l (.tup (ns.map V.int))) p (.ref l) (.tuple (ns.map PyData.int)) := Dat.new hl0 nl.symm (Dats.ints ns)
          have hrT : Tr 1 (.tuple (ns.map PyData.int)) := .tup (by rw [List.length_map, hnl]; exact m7) fun e he => by
            obtain ⟨z, hz, rfl⟩ := List.mem_map.mp he
            exact .int _ (hnf z hz)
          refine ⟨_, hR7, by rw [hRD.1, hrl]; exact small1000 (by omega), (hB6.up nl).up nA1, (x5.trans x67).off hA1, _, _, upd_same, Dats.snoc ((hRD.ext x67).setL hR7 fun e he => (hrf e he).fit.2) (hrow.setL hR7 hrT.fit.2), by simp [hrl], fun e he => ?_⟩
          rcases List.mem_append.mp he with he | he
          · exact hrf e he
          · simp only [List.mem_cons, List.not_mem_nil, or_false] at he
            subst he
            exact hrT
      · rintro H5 ⟨hB5, x5, rs, rds, hR, hRD, hrl, hrf⟩
        rw [Int.toNat_natCast] at hrl
        refine ⟨_, _, rfl, .inl ⟨SqL.of hR, fun t ht => ?_⟩⟩
        have nt := hB5.ne ht
        have hF5 := x5 _ _ hF4 nF.symm
        have hT5 := x5 _ _ hT4 n1.symm
        have htab : Dat (upd H5 t (.tup rs)) p (.ref t) (.tuple rds) := Dat.new ht nt.symm hRD
        have htT : Tr 2 (.tuple rds) := .tup (by omega) hrf
        have x6 := x5.trans (ext_new (p := p) (o := .tup rs) ht)
        have hB6 := hB5.up (o := .tup rs) nt
        clear hA1
        generalize upd H5 t (.tup rs) = H6 at htab x6 hB6 ⊢
        refine ⟨by show 3 ≤ sizeLine; decide, fun t2 ht2 => ?_⟩
        have n2 := hB6.ne ht2
        have x7 := x6.trans (ext_new (p := p) (o := .tup [.int 1, .int 4, .int 5]) ht2)
        have hB7 := hB6.up (o := .tup [.int 1, .int 4, .int 5]) n2
        have htab7 := htab.ext (ext_new (p := p) (o := .tup [.int 1, .int 4, .int 5]) ht2)
        have hS7 : upd H6 t2 (.tup [.int 1, .int 4, .int 5]) t2 = some (.tup [.int 1, .int 4, .int 5]) := upd_same
        generalize upd H6 t2 (.tup [.int 1, .int 4, .int 5]) = H7 at x7 hB7 htab7 hS7 ⊢
        refine ⟨t2, rfl, ⟨_, SqT.of hS7⟩, ?_⟩
        refine fT (fun j σ H8 => Bag H8 p ∧ Ext p H H8 ∧ H8 t1 = some (.tup [.int 1, .int 6, .int 7]) ∧ H8 t2 = some (.tup [.int 1, .int 4, .int 5]) ∧ (∃ u4 u5 u6 u7, σ = [some (.ref p), some (.ref F), some (.int m), some (.ref t), u4, u5, u6, u7]) ∧ Dat H8 p (.ref t) (.tuple rds) ∧ ∃ xs ds, H8 F = some (.lst xs) ∧ Dats H8 p xs ds ∧ ds.length = 3 * i + j ∧ ∀ e ∈ ds, Tr 4 e)
          ⟨hB7, x4.trans x7, x7 _ _ hT4 n1.symm, hS7, ⟨_, _, _, _, rfl⟩, htab7, xs, ds, x7 _ _ hF4 nF.symm, hD.ext x7, hl, hf⟩ (fun i σ H4 _ hp => SqT.of hp.2.2.2.1) ?_ ?_
        · rintro j x σ H8 hj ⟨hB8, x8, hT8, hS8, ⟨u4, u5, u6, u7, rfl⟩, htab8, xs, ds, hF8, hD8, hl8, hf8⟩
          obtain ⟨c, rfl, c1, c5⟩ : ∃ c : Nat, x = .int c ∧ 1 ≤ c ∧ c ≤ 7 := by
            match j, hj with
            | 0, hj => cases hj; exact ⟨1, rfl, by decide, by decide⟩
            | 1, hj => cases hj; exact ⟨4, rfl, by decide, by decide⟩
            | 2, hj => cases hj; exact ⟨5, rfl, by decide, by decide⟩
          have hj3 : j < 3 := (List.getElem?_eq_some_iff.mp hj).1
          clear hj
          walk_at "op"
          walk_at "st"
          refine ⟨.inl ⟨rfl, _, SqL.of hF8⟩, ?_⟩
          walk_at "st"
          refine ⟨by show 2 ≤ sizeLine; decide, fun q1 hq1 => ?_⟩
          have w1 := hB8.ne hq1
          have y1 := ext_new (p := p) (o := .tup [.ref t, .ref t]) hq1
          have hB9 := hB8.up (o := .tup [.ref t, .ref t]) w1
          have e1 : Dat (upd H8 q1 (.tup [.ref t, .ref t])) p (.ref q1) (.tuple [.tuple rds, .tuple rds]) := Dat.new hq1 w1.symm (Dats.cons htab8 (Dats.cons htab8 Dats.nil))
          have e1T : Tr 3 (.tuple [.tuple rds, .tuple rds]) := .tup (by show 2 ≤ 7; decide) fun e he => by
            simp only [List.mem_cons, List.not_mem_nil, or_false, or_self] at he
            subst he
            exact htT
          generalize upd H8 q1 (.tup [.ref t, .ref t]) = H9 at y1 hB9 e1 ⊢
          refine ⟨by show 1 ≤ sizeLine; decide, fun q2 hq2 => ?_⟩
          have w2 := hB9.ne hq2
          have y2 := ext_new (p := p) (o := .tup [.ref q1]) hq2
          have hB10 := hB9.up (o := .tup [.ref q1]) w2
          have e2 : Dat (upd H9 q2 (.tup [.ref q1])) p (.ref q2) (.tuple [.tuple [.tuple rds, .tuple rds]]) := Dat.new hq2 w2.symm (Dats.cons e1 Dats.nil)
          generalize upd H9 q2 (.tup [.ref q1]) = H10 at y2 hB10 e2 ⊢
          walk_at "st"
          refine rd_times hB10 e2 c1 c5 fun v H11 hB11 x11 e3 => ?_
          have y := (y1.trans y2).trans x11
          have hF11 := y _ _ hF8 nF.symm
          have hT11 := y _ _ hT8 n1.symm
          have hS11 := y _ _ hS8 n2.symm
          have e3T : Tr 4 (.tuple (List.replicate c (.tuple [.tuple rds, .tuple rds]))) := .tup (by rw [List.length_replicate]; exact c5) fun e he => by
            obtain ⟨_, rfl⟩ := List.mem_replicate.mp he
            exact e1T
          walk_at "st"
          refine ⟨_, _, _, rfl, rfl, hF11, by rw [hD8.1, hl8]; exact small1000 (by omega), ?_⟩
          refine ⟨hB11.up nF, ?_, by rw [upd_ne F1.symm]; exact hT11, by rw [upd_ne (hFt2' _ _ _ hF11 hS11).symm]; exact hS11, ⟨_, _, _, _, rfl⟩, ?_, _, _, upd_same, Dats.snoc ((hD8.ext y).setL hF11 fun e he => (hf8 e he).fit.2) (e3.setL hF11 e3T.fit.2), by simp [hl8]; omega, fun e he => ?_⟩
          · exact (x8.trans y).off hF
          · exact (htab8.ext y).setL hF11 htT.fit.2
          · rcases List.mem_append.mp he with he | he
            · exact hf8 e he
            · simp only [List.mem_cons, List.not_mem_nil, or_false] at he
              subst he
              exact e3T
        · rintro σ H8 ⟨hB8, x8, hT8, hS8, ⟨u4, u5, u6, u7, rfl⟩, htab8, xs, ds, hF8, hD8, hl8, hf8⟩
          refine ⟨hB8, x8, hT8, ⟨_, _, _, _, _, _, rfl⟩, xs, ds, hF8, hD8, ?_, hf8⟩
          rw [hl8]
          show 3 * i + 3 = _
          omega
    · rintro σ H4 ⟨hB4, x4, hT4, ⟨u2, u3, u4, u5, u6, u7, rfl⟩, xs, ds, hF4, hD, hl, hf⟩
      walk_at "op"
      walk_at "st"
      have b0 := hB4
      have z0 := x4
      walk_at "st"
      refine fun q1 hq1 => ?_
      have w1 := b0.ne hq1
      have s1 := ext_new (p := p) (o := .tup [.int 0]) hq1
      have b1 := b0.up (o := .tup [.int 0]) w1
      have e1 : Dat (upd H4 q1 (.tup [.int 0])) p (.ref q1) (.tuple [.int 0]) := Dat.new hq1 w1.symm (Dats.cons (.int _) Dats.nil)
      have t1 : Tr 1 (.tuple [.int 0]) := .tup (by show 1 ≤ 7; decide) fun e he => by
        simp only [List.mem_cons, List.not_mem_nil, or_false] at he
        subst he
        exact (.int _ (by decide))
      generalize upd H4 q1 (.tup [.int 0]) = Z1 at s1 b1 e1 ⊢
      walk_at "st"
      refine ⟨by show 1 ≤ sizeLine; decide, fun q2 hq2 => ?_⟩
      have w2 := b1.ne hq2
      have s2 := ext_new (p := p) (o := .tup [.ref q1]) hq2
      have b2 := b1.up (o := .tup [.ref q1]) w2
      have e2 : Dat (upd Z1 q2 (.tup [.ref q1])) p (.ref q2) (.tuple [(.tuple [.int 0])]) := Dat.new hq2 w2.symm (Dats.cons (e1.ext (Ext.refl p _)) Dats.nil)
      have t2 : Tr 2 (.tuple [(.tuple [.int 0])]) := .tup (by show 1 ≤ 7; decide) fun e he => by
        simp only [List.mem_cons, List.not_mem_nil, or_false] at he
        subst he
        exact t1
      generalize upd Z1 q2 (.tup [.ref q1]) = Z2 at s2 b2 e2 ⊢
      walk_at "st"
      refine rd_times (n := 2) b2 e2 (by decide) (by decide) fun v3 Z3 b3 s3 e3 => ?_
      have t3 : Tr 2 (.tuple (List.replicate 2 (.tuple [.int 0]))) := .tup (by rw [List.length_replicate]; decide) fun e he => by
        obtain ⟨_, rfl⟩ := List.mem_replicate.mp he
        exact t1
      have t3u := t3.up
      walk_at "st"
      refine ⟨by show 1 ≤ sizeLine; decide, fun q4 hq4 => ?_⟩
      have w4 := b3.ne hq4
      have s4 := ext_new (p := p) (o := .tup [v3]) hq4
      have b4 := b3.up (o := .tup [v3]) w4
      have e4 : Dat (upd Z3 q4 (.tup [v3])) p (.ref q4) (.tuple [(.tuple (List.replicate 2 (.tuple [.int 0])))]) := Dat.new hq4 w4.symm (Dats.cons (e3.ext (Ext.refl p _)) Dats.nil)
      have t4 : Tr 4 (.tuple [(.tuple (List.replicate 2 (.tuple [.int 0])))]) := .tup (by show 1 ≤ 7; decide) fun e he => by
        simp only [List.mem_cons, List.not_mem_nil, or_false] at he
        subst he
        exact t3u
      generalize upd Z3 q4 (.tup [v3]) = Z4 at s4 b4 e4 ⊢
      walk_at "st"
      refine fun q5 hq5 => ?_
      have w5 := b4.ne hq5
      have s5 := ext_new (p := p) (o := .tup [.int 0, .int 0]) hq5
      have b5 := b4.up (o := .tup [.int 0, .int 0]) w5
      have e5 : Dat (upd Z4 q5 (.tup [.int 0, .int 0])) p (.ref q5) (.tuple [.int 0, .int 0]) := Dat.new hq5 w5.symm (Dats.cons (.int _) (Dats.cons (.int _) Dats.nil))
      have t5 : Tr 1 (.tuple [.int 0, .int 0]) := .tup (by show 2 ≤ 7; decide) fun e he => by
        simp only [List.mem_cons, List.not_mem_nil, or_false] at he
        rcases he with rfl | rfl
        · exact (.int _ (by decide))
        · exact (.int _ (by decide))
      generalize upd Z4 q5 (.tup [.int 0, .int 0]) = Z5 at s5 b5 e5 ⊢
      walk_at "st"
      refine fun q6 hq6 => ?_
      have w6 := b5.ne hq6
      have s6 := ext_new (p := p) (o := .tup [.int 0, .int 0]) hq6
      have b6 := b5.up (o := .tup [.int 0, .int 0]) w6
      have e6 : Dat (upd Z5 q6 (.tup [.int 0, .int 0])) p (.ref q6) (.tuple [.int 0, .int 0]) := Dat.new hq6 w6.symm (Dats.cons (.int _) (Dats.cons (.int _) Dats.nil))
      have t6 : Tr 1 (.tuple [.int 0, .int 0]) := .tup (by show 2 ≤ 7; decide) fun e he => by
        simp only [List.mem_cons, List.not_mem_nil, or_false] at he
        rcases he with rfl | rfl
        · exact (.int _ (by decide))
        · exact (.int _ (by decide))
      generalize upd Z5 q6 (.tup [.int 0, .int 0]) = Z6 at s6 b6 e6 ⊢
      walk_at "st"
      refine ⟨by show 2 ≤ sizeLine; decide, fun q7 hq7 => ?_⟩
      have w7 := b6.ne hq7
      have s7 := ext_new (p := p) (o := .tup [.ref q5, .ref q6]) hq7
      have b7 := b6.up (o := .tup [.ref q5, .ref q6]) w7
      have e7 : Dat (upd Z6 q7 (.tup [.ref q5, .ref q6])) p (.ref q7) (.tuple [(.tuple [.int 0, .int 0]), (.tuple [.int 0, .int 0])]) := Dat.new hq7 w7.symm (Dats.cons (e5.ext s6) (Dats.cons (e6.ext (Ext.refl p _)) Dats.nil))
      have t7 : Tr 2 (.tuple [(.tuple [.int 0, .int 0]), (.tuple [.int 0, .int 0])]) := .tup (by show 2 ≤ 7; decide) fun e he => by
        simp only [List.mem_cons, List.not_mem_nil, or_false] at he
        rcases he with rfl | rfl
        · exact t5
        · exact t6
      generalize upd Z6 q7 (.tup [.ref q5, .ref q6]) = Z7 at s7 b7 e7 ⊢
      walk_at "st"
      refine ⟨by show 1 ≤ sizeLine; decide, fun q8 hq8 => ?_⟩
      have w8 := b7.ne hq8
      have s8 := ext_new (p := p) (o := .tup [.ref q7]) hq8
      have b8 := b7.up (o := .tup [.ref q7]) w8
      have e8 : Dat (upd Z7 q8 (.tup [.ref q7])) p (.ref q8) (.tuple [(.tuple [(.tuple [.int 0, .int 0]), (.tuple [.int 0, .int 0])])]) := Dat.new hq8 w8.symm (Dats.cons (e7.ext (Ext.refl p _)) Dats.nil)
      have t8 : Tr 3 (.tuple [(.tuple [(.tuple [.int 0, .int 0]), (.tuple [.int 0, .int 0])])]) := .tup (by show 1 ≤ 7; decide) fun e he => by
        simp only [List.mem_cons, List.not_mem_nil, or_false] at he
        subst he
        exact t7
      generalize upd Z7 q8 (.tup [.ref q7]) = Z8 at s8 b8 e8 ⊢
      walk_at "st"
      refine rd_times (n := 2) b8 e8 (by decide) (by decide) fun v9 Z9 b9 s9 e9 => ?_
      have t9 : Tr 3 (.tuple (List.replicate 2 (.tuple [(.tuple [.int 0, .int 0]), (.tuple [.int 0, .int 0])]))) := .tup (by rw [List.length_replicate]; decide) fun e he => by
        obtain ⟨_, rfl⟩ := List.mem_replicate.mp he
        exact t7
      walk_at "st"
      refine ⟨by show 1 ≤ sizeLine; decide, fun q10 hq10 => ?_⟩
      have w10 := b9.ne hq10
      have s10 := ext_new (p := p) (o := .tup [v9]) hq10
      have b10 := b9.up (o := .tup [v9]) w10
      have e10 : Dat (upd Z9 q10 (.tup [v9])) p (.ref q10) (.tuple [(.tuple (List.replicate 2 (.tuple [(.tuple [.int 0, .int 0]), (.tuple [.int 0, .int 0])])))]) := Dat.new hq10 w10.symm (Dats.cons (e9.ext (Ext.refl p _)) Dats.nil)
      have t10 : Tr 4 (.tuple [(.tuple (List.replicate 2 (.tuple [(.tuple [.int 0, .int 0]), (.tuple [.int 0, .int 0])])))]) := .tup (by show 1 ≤ 7; decide) fun e he => by
        simp only [List.mem_cons, List.not_mem_nil, or_false] at he
        subst he
        exact t9
      generalize upd Z9 q10 (.tup [v9]) = Z10 at s10 b10 e10 ⊢
      walk_at "st"
      refine rd_catA b10 (e4.ext (((((s5.trans s6).trans s7).trans s8).trans s9).trans s10)) e10 (by decide) fun v11 Z11 b11 s11 e11 => ?_
      walk_at "st"
      refine fun q12 hq12 => ?_
      have w12 := b11.ne hq12
      have s12 := ext_new (p := p) (o := .tup [.int 0, .int 1]) hq12
      have b12 := b11.up (o := .tup [.int 0, .int 1]) w12
      have e12 : Dat (upd Z11 q12 (.tup [.int 0, .int 1])) p (.ref q12) (.tuple [.int 0, .int 1]) := Dat.new hq12 w12.symm (Dats.cons (.int _) (Dats.cons (.int _) Dats.nil))
      have t12 : Tr 1 (.tuple [.int 0, .int 1]) := .tup (by show 2 ≤ 7; decide) fun e he => by
        simp only [List.mem_cons, List.not_mem_nil, or_false] at he
        rcases he with rfl | rfl
        · exact (.int _ (by decide))
        · exact (.int _ (by decide))
      generalize upd Z11 q12 (.tup [.int 0, .int 1]) = Z12 at s12 b12 e12 ⊢
      walk_at "st"
      refine fun q13 hq13 => ?_
      have w13 := b12.ne hq13
      have s13 := ext_new (p := p) (o := .tup [.int 0, .int 0]) hq13
      have b13 := b12.up (o := .tup [.int 0, .int 0]) w13
      have e13 : Dat (upd Z12 q13 (.tup [.int 0, .int 0])) p (.ref q13) (.tuple [.int 0, .int 0]) := Dat.new hq13 w13.symm (Dats.cons (.int _) (Dats.cons (.int _) Dats.nil))
      have t13 : Tr 1 (.tuple [.int 0, .int 0]) := .tup (by show 2 ≤ 7; decide) fun e he => by
        simp only [List.mem_cons, List.not_mem_nil, or_false] at he
        rcases he with rfl | rfl
        · exact (.int _ (by decide))
        · exact (.int _ (by decide))
      generalize upd Z12 q13 (.tup [.int 0, .int 0]) = Z13 at s13 b13 e13 ⊢
      walk_at "st"
      refine ⟨by show 2 ≤ sizeLine; decide, fun q14 hq14 => ?_⟩
      have w14 := b13.ne hq14
      have s14 := ext_new (p := p) (o := .tup [.ref q12, .ref q13]) hq14
      have b14 := b13.up (o := .tup [.ref q12, .ref q13]) w14
      have e14 : Dat (upd Z13 q14 (.tup [.ref q12, .ref q13])) p (.ref q14) (.tuple [(.tuple [.int 0, .int 1]), (.tuple [.int 0, .int 0])]) := Dat.new hq14 w14.symm (Dats.cons (e12.ext s13) (Dats.cons (e13.ext (Ext.refl p _)) Dats.nil))
      have t14 : Tr 2 (.tuple [(.tuple [.int 0, .int 1]), (.tuple [.int 0, .int 0])]) := .tup (by show 2 ≤ 7; decide) fun e he => by
        simp only [List.mem_cons, List.not_mem_nil, or_false] at he
        rcases he with rfl | rfl
        · exact t12
        · exact t13
      generalize upd Z13 q14 (.tup [.ref q12, .ref q13]) = Z14 at s14 b14 e14 ⊢
      walk_at "st"
      refine ⟨by show 1 ≤ sizeLine; decide, fun q15 hq15 => ?_⟩
      have w15 := b14.ne hq15
      have s15 := ext_new (p := p) (o := .tup [.ref q14]) hq15
      have b15 := b14.up (o := .tup [.ref q14]) w15
      have e15 : Dat (upd Z14 q15 (.tup [.ref q14])) p (.ref q15) (.tuple [(.tuple [(.tuple [.int 0, .int 1]), (.tuple [.int 0, .int 0])])]) := Dat.new hq15 w15.symm (Dats.cons (e14.ext (Ext.refl p _)) Dats.nil)
      have t15 : Tr 3 (.tuple [(.tuple [(.tuple [.int 0, .int 1]), (.tuple [.int 0, .int 0])])]) := .tup (by show 1 ≤ 7; decide) fun e he => by
        simp only [List.mem_cons, List.not_mem_nil, or_false] at he
        subst he
        exact t14
      generalize upd Z14 q15 (.tup [.ref q14]) = Z15 at s15 b15 e15 ⊢
      walk_at "st"
      refine rd_times (n := 2) b15 e15 (by decide) (by decide) fun v16 Z16 b16 s16 e16 => ?_
      have t16 : Tr 3 (.tuple (List.replicate 2 (.tuple [(.tuple [.int 0, .int 1]), (.tuple [.int 0, .int 0])]))) := .tup (by rw [List.length_replicate]; decide) fun e he => by
        obtain ⟨_, rfl⟩ := List.mem_replicate.mp he
        exact t14
      walk_at "st"
      refine ⟨by show 1 ≤ sizeLine; decide, fun q17 hq17 => ?_⟩
      have w17 := b16.ne hq17
      have s17 := ext_new (p := p) (o := .tup [v16]) hq17
      have b17 := b16.up (o := .tup [v16]) w17
      have e17 : Dat (upd Z16 q17 (.tup [v16])) p (.ref q17) (.tuple [(.tuple (List.replicate 2 (.tuple [(.tuple [.int 0, .int 1]), (.tuple [.int 0, .int 0])])))]) := Dat.new hq17 w17.symm (Dats.cons (e16.ext (Ext.refl p _)) Dats.nil)
      have t17 : Tr 4 (.tuple [(.tuple (List.replicate 2 (.tuple [(.tuple [.int 0, .int 1]), (.tuple [.int 0, .int 0])])))]) := .tup (by show 1 ≤ 7; decide) fun e he => by
        simp only [List.mem_cons, List.not_mem_nil, or_false] at he
        subst he
        exact t16
      generalize upd Z16 q17 (.tup [v16]) = Z17 at s17 b17 e17 ⊢
      walk_at "st"
      refine fun q18 hq18 => ?_
      have w18 := b17.ne hq18
      have s18 := ext_new (p := p) (o := .tup [.int 0, .bl true]) hq18
      have b18 := b17.up (o := .tup [.int 0, .bl true]) w18
      have e18 : Dat (upd Z17 q18 (.tup [.int 0, .bl true])) p (.ref q18) (.tuple [.int 0, .bool true]) := Dat.new hq18 w18.symm (Dats.cons (.int _) (Dats.cons (.bl _) Dats.nil))
      have t18 : Tr 1 (.tuple [.int 0, .bool true]) := .tup (by show 2 ≤ 7; decide) fun e he => by
        simp only [List.mem_cons, List.not_mem_nil, or_false] at he
        rcases he with rfl | rfl
        · exact (.int _ (by decide))
        · exact (.bl _ _)
      generalize upd Z17 q18 (.tup [.int 0, .bl true]) = Z18 at s18 b18 e18 ⊢
      walk_at "st"
      refine fun q19 hq19 => ?_
      have w19 := b18.ne hq19
      have s19 := ext_new (p := p) (o := .tup [.bl true, .int 0]) hq19
      have b19 := b18.up (o := .tup [.bl true, .int 0]) w19
      have e19 : Dat (upd Z18 q19 (.tup [.bl true, .int 0])) p (.ref q19) (.tuple [.bool true, .int 0]) := Dat.new hq19 w19.symm (Dats.cons (.bl _) (Dats.cons (.int _) Dats.nil))
      have t19 : Tr 1 (.tuple [.bool true, .int 0]) := .tup (by show 2 ≤ 7; decide) fun e he => by
        simp only [List.mem_cons, List.not_mem_nil, or_false] at he
        rcases he with rfl | rfl
        · exact (.bl _ _)
        · exact (.int _ (by decide))
      generalize upd Z18 q19 (.tup [.bl true, .int 0]) = Z19 at s19 b19 e19 ⊢
      walk_at "st"
      refine ⟨by show 2 ≤ sizeLine; decide, fun q20 hq20 => ?_⟩
      have w20 := b19.ne hq20
      have s20 := ext_new (p := p) (o := .tup [.ref q18, .ref q19]) hq20
      have b20 := b19.up (o := .tup [.ref q18, .ref q19]) w20
      have e20 : Dat (upd Z19 q20 (.tup [.ref q18, .ref q19])) p (.ref q20) (.tuple [(.tuple [.int 0, .bool true]), (.tuple [.bool true, .int 0])]) := Dat.new hq20 w20.symm (Dats.cons (e18.ext s19) (Dats.cons (e19.ext (Ext.refl p _)) Dats.nil))
      have t20 : Tr 2 (.tuple [(.tuple [.int 0, .bool true]), (.tuple [.bool true, .int 0])]) := .tup (by show 2 ≤ 7; decide) fun e he => by
        simp only [List.mem_cons, List.not_mem_nil, or_false] at he
        rcases he with rfl | rfl
        · exact t18
        · exact t19
      generalize upd Z19 q20 (.tup [.ref q18, .ref q19]) = Z20 at s20 b20 e20 ⊢
      walk_at "st"
      refine ⟨by show 1 ≤ sizeLine; decide, fun q21 hq21 => ?_⟩
      have w21 := b20.ne hq21
      have s21 := ext_new (p := p) (o := .tup [.ref q20]) hq21
      have b21 := b20.up (o := .tup [.ref q20]) w21
      have e21 : Dat (upd Z20 q21 (.tup [.ref q20])) p (.ref q21) (.tuple [(.tuple [(.tuple [.int 0, .bool true]), (.tuple [.bool true, .int 0])])]) := Dat.new hq21 w21.symm (Dats.cons (e20.ext (Ext.refl p _)) Dats.nil)
      have t21 : Tr 3 (.tuple [(.tuple [(.tuple [.int 0, .bool true]), (.tuple [.bool true, .int 0])])]) := .tup (by show 1 ≤ 7; decide) fun e he => by
        simp only [List.mem_cons, List.not_mem_nil, or_false] at he
        subst he
        exact t20
      generalize upd Z20 q21 (.tup [.ref q20]) = Z21 at s21 b21 e21 ⊢
      walk_at "st"
      refine rd_times (n := 2) b21 e21 (by decide) (by decide) fun v22 Z22 b22 s22 e22 => ?_
      have t22 : Tr 3 (.tuple (List.replicate 2 (.tuple [(.tuple [.int 0, .bool true]), (.tuple [.bool true, .int 0])]))) := .tup (by rw [List.length_replicate]; decide) fun e he => by
        obtain ⟨_, rfl⟩ := List.mem_replicate.mp he
        exact t20
      walk_at "st"
      refine ⟨by show 1 ≤ sizeLine; decide, fun q23 hq23 => ?_⟩
      have w23 := b22.ne hq23
      have s23 := ext_new (p := p) (o := .tup [v22]) hq23
      have b23 := b22.up (o := .tup [v22]) w23
      have e23 : Dat (upd Z22 q23 (.tup [v22])) p (.ref q23) (.tuple [(.tuple (List.replicate 2 (.tuple [(.tuple [.int 0, .bool true]), (.tuple [.bool true, .int 0])])))]) := Dat.new hq23 w23.symm (Dats.cons (e22.ext (Ext.refl p _)) Dats.nil)
      have t23 : Tr 4 (.tuple [(.tuple (List.replicate 2 (.tuple [(.tuple [.int 0, .bool true]), (.tuple [.bool true, .int 0])])))]) := .tup (by show 1 ≤ 7; decide) fun e he => by
        simp only [List.mem_cons, List.not_mem_nil, or_false] at he
        subst he
        exact t22
      generalize upd Z22 q23 (.tup [v22]) = Z23 at s23 b23 e23 ⊢
      walk_at "st"
      refine ⟨by show 3 ≤ sizeLine; decide, fun L1 hL1 => ?_⟩
      have nL1 := b23.ne hL1
      have sL := ext_new (p := p) (o := .lst [v11, .ref q17, .ref q23]) hL1
      have bL := b23.up (o := .lst [v11, .ref q17, .ref q23]) nL1
      have xk := ((((((((((((((((((((((s1.trans s2).trans s3).trans s4).trans s5).trans s6).trans s7).trans s8).trans s9).trans s10).trans s11).trans s12).trans s13).trans s14).trans s15).trans s16).trans s17).trans s18).trans s19).trans s20).trans s21).trans s22).trans s23)
      have dL : Dats (upd Z23 L1 (.lst [v11, .ref q17, .ref q23])) p [v11, .ref q17, .ref q23] _ := (Dats.cons (e11.ext (((((((((((s12.trans s13).trans s14).trans s15).trans s16).trans s17).trans s18).trans s19).trans s20).trans s21).trans s22).trans s23)) (Dats.cons (e17.ext (((((s18.trans s19).trans s20).trans s21).trans s22).trans s23)) (Dats.cons e23 Dats.nil))).ext sL
      have hLL : upd Z23 L1 (.lst [v11, .ref q17, .ref q23]) L1 = some (.lst [v11, .ref q17, .ref q23]) := upd_same
      generalize upd Z23 L1 (.lst [v11, .ref q17, .ref q23]) = ZL at sL bL dL hLL ⊢
      have xL := xk.trans sL
      have hFL := xL _ _ hF4 nF.symm
      refine ⟨_, _, _, _, rfl, rfl, hFL, hLL, by rw [hD.1, hl]; show 3 * 3 + 3 ≤ sizeLine; decide, fun L2 hL2 => ?_⟩
      have nL2 := bL.ne hL2
      refine k L2 _ _ _ (bL.up nL2) ((x4.trans xL).trans (ext_new hL2)) upd_same nL2.symm (((hD.ext xL).append dL).ext (ext_new hL2)) (by rw [List.length_append, hl]; decide) fun e he => ?_
      rcases List.mem_append.mp he with he | he
      · exact hf e he
      · simp only [List.mem_cons, List.not_mem_nil, or_false] at he
        rcases he with rfl | rfl | rfl
        · exact .tup (by decide) fun e he => by
            simp only [List.mem_append, List.mem_cons, List.not_mem_nil, or_false] at he
            rcases he with rfl | rfl
            · exact t3u
            · exact t9
        · exact t17
        · exact t23
end
end Fm
end FQ12
section FQ13
set_option Elab.async false
set_option linter.all false
set_option maxRecDepth 100000
set_option maxHeartbeats 4000000
local macro_rules | `(tactic| walk_at "ne") => `(tactic| first | assumption | (apply Ne.symm; assumption) | exact L2.ne_of_none (by assumption) (by assumption) | exact Ne.symm (L2.ne_of_none (by assumption) (by assumption)))
local macro_rules | `(tactic| walk_at "hl") => `(tactic| first | assumption | exact L2.upd_same | (refine Eq.trans (L2.upd_ne (by walk_at "ne")) ?_; walk_at "hl"))
local macro_rules | `(tactic| walk_at "sd") => `(tactic| first | (with_reducible show (_ : Int) < _; omega) | (with_reducible show (_ : Int) ≤ _; omega) | assumption | decide | exact ⟨by assumption, by assumption⟩ | exact ⟨by decide, by decide⟩ | exact Or.inr ⟨by decide, by decide⟩ | exact Or.inl ⟨by omega, by omega⟩ | rfl)
local macro_rules | `(tactic| walk_at "st1") => `(tactic| first
  | refine ⟨_, rfl, ?_⟩
  | refine ⟨_, _, rfl, rfl, ?_⟩
  | refine ⟨_, _, rfl, ?_⟩
  | (refine ⟨_, _, _, _, rfl, rfl, L2.SqL.of (by walk_at "hl"), rfl, ?_⟩)
  | (refine ⟨_, _, _, _, rfl, rfl, L2.SqT.of (by walk_at "hl"), rfl, ?_⟩)
  | (refine ⟨_, _, _, _, rfl, rfl, (by walk_at "hl"), rfl, ?_⟩)
  | (refine And.intro (by walk_at "sd") ?_)
  )
local macro_rules | `(tactic| walk_at "st") => `(tactic| repeat walk_at "st1")
local macro_rules | `(tactic| walk_at "op") => `(tactic| try dsimp only [L2.tSeq, L2.tAsg, L2.tOp, L2.tVar, L2.tC, L2.gSub, L2.rI, L2.rI0, L2.rIxL, L2.rIxT, L2.rSetL, L2.tIfS, L2.tTest, L2.tRet, L2.gName, L2.tNext, L2.tAnd, L2.tOr, L2.tNot, L2.tAndV, L2.tOrV, L2.tNotV, L2.tB, L2.tCB, L2.tCons, L2.tNil, L2.tCall, L2.tTup, L2.tLst, L2.tChain, L2.tUn, L2.tPar, L2.tDrop, L2.tIf, L2.tBM, L2.tBM0, L2.rAppend, L2.rCat, L2.rIsi, L2.rIsiT, L2.gTup, L2.gCons, L2.gNil, Fm.tFor_eq, Fm.tLc_eq, L2.iTup, L2.iList, L2.iRng1, L2.iRng2, L2.tSl, L2.tPart, L2.tNoPart, L2.rSlL, L2.rEq, L2.rNe, L2.rU, L2.rEqD, L2.rNeD, Fm.tRevT, Fm.rLenS, Fm.rTupOf, Fm.rLstOf, L2.tDNewK, L2.tCallS, L2.WE, Fm.wKeep, Fm.rIsK, Fm.rIsKT, List.cons_append, List.nil_append, L2.tYes])
namespace Fm
open PySem PySem.Spec PyProof.Rows L2
abbrev s_law : Stmt := top 44
abbrev N_law : List Str := ["script", "cell", "bag", "house", "thing", "k", "kept", "due"]
theorem sc_law : FnScope N_law ["script"] (defScope s_law) := ⟨rfl, rfl, rfl, by decide +kernel, rfl, by decide +kernel, by decide +kernel⟩
section
variable {P : Program} {w : World} {K : PySem.W.Frag} {mg : Str → Option Value} {base : Heap}
def spLaw (K : PySem.W.Frag) : Sp := fun vs H Q _ => ∃ (a : Addr) (ns : List Int), vs = [.ref a] ∧ ns.length + 1 ≤ sizeLine ∧ SqL K H a (ns.map V.int) ∧ ∀ H', Q (.bl true) H'
theorem ok_law {f : Addr} {fd : FuncData} (F : Fun K "law" "law" s_law f fd) (T : Nms mg) (c_law_bag : CallOk P w K mg base CX0 1 "_law_bag" ["cell"] spBag) (c_law_house : CallOk P w K mg base CX0 3 "_law_house" ["bag"] spMkHouse)
    (c_is_house : CallOk P w K mg base CX0 5 "is_house" ["thing"] spHouse) (c_law_odd : CallOk P w K mg base CX0 2 "_law_odd" ["bag"] spOdd) (c_law_edges : CallOk P w K mg base CX0 1 "_law_edges" ["bag"] spEdges)
    (c_law_bent : CallOk P w K mg base CX0 7 "_law_bent" ["bag", "thing", "deep"] (spBent 5)) (c_law_due : CallOk P w K mg base CX0 2 "_law_due" ["thing"] spDue) (c_law_kind : CallOk P w K mg base CX0 7 "_law_kind" ["thing"] spKind) :
    RunG P w K mg base 9 f fd ["script"] (spLaw K) := by
    refine run_g F sc_law fun cdv A outer s H vs Q hg hr h => ?_
    obtain ⟨a, ns, rfl, hn, hS, k⟩ := h
    have nd := sc_law.nd
    have c_law_bentF := c_law_bent.frame
    refine ⟨_, (pss_cons (ps_for PassesOwn.never rfl (pi_list (pe_op op_cat (pe_slice (r := rSlL K) sl_list (pv 0) po_none (po_some pe_int)) (pe_lst (pa_cons pe_int pa_nil)))) (pg_name (i := 1) nd rfl (Or.inl rfl)) (pss_cons (ps_set (i := 2) nd rfl (Or.inr rfl) (pe_cc c_law_bag (hr.mono (by omega)) (pa_cons (pv 1) pa_nil)))
      (pss_cons (ps_set (i := 3) nd rfl (Or.inr rfl) (pe_cc c_law_house (hr.mono (by omega)) (pa_cons (pv 2) pa_nil)))
      (pss_cons (ps_if (pt_cmpR op_isnot_bl (pe_cc c_is_house (hr.mono (by omega)) (pa_cons (pv 3) pa_nil)) pe_bl (nomark _)) (pss_one (ps_ret pe_bl)) pss_nil)
      (pss_one (ps_for PassesOwn.never rfl (pi_list (pe_op op_cat (pe_op op_cat (pe_lst (pa_cons (pv 3) (pa_cons (pe_cc c_law_odd (hr.mono (by omega)) (pa_cons (pv 2) pa_nil)) pa_nil))) (pe_cc c_law_edges (hr.mono (by omega)) (pa_cons (pv 2) pa_nil))) (pe_lc (own := [("k", 5)]) (g := (gName 5)) (tt := tYes) (by rfl) nd (pi_range1 rfl T.n_range (pa_cons pe_int pa_nil)) (blkOk_by (own := [("k", 5)]) (N := N_law) (sc := defScope s_law) (by decide +kernel)) (fun _ _ _ _ _ => (pg_name (i := 5) nd rfl (Or.inl rfl))) (fun _ _ _ _ _ => pts_nil) (fun _ _ _ _ _ => (pe_cc c_law_bentF (hr.mono (by omega)) (pa_cons (pv 2) (pa_cons (pv 3) (pa_cons pe_int pa_nil)))))))) (pg_name (i := 4) nd rfl (Or.inl rfl)) (pss_cons (ps_set (i := 6) nd rfl (Or.inl rfl) (pe_callB (call_repr hg hr.units) (by rfl) T.n_repr (by decide +kernel) (pa_cons (pv 4) pa_nil)))
      (pss_cons (ps_set (i := 7) nd rfl (Or.inl rfl) (pe_cc c_law_due (hr.mono (by omega)) (pa_cons (pv 4) pa_nil)))
      (pss_cons (ps_if (PW.pt (pw_or (pt_cmpR op_ne (pe_callB (call_repr hg hr.units) (by rfl) T.n_repr (by decide +kernel) (pa_cons (pe_cc c_is_house (hr.mono (by omega)) (pa_cons (pv 4) pa_nil)) pa_nil)) (pe_callB (call_repr hg hr.units) (by rfl) T.n_repr (by decide +kernel) (pa_cons (pv 7) pa_nil)) (nomark _)) (pw_or1 (pt_cmpR op_ne (pe_callB (call_repr hg hr.units) (by rfl) T.n_repr (by decide +kernel) (pa_cons (pv 4) pa_nil)) (pv 6) (nomark _))))) (pss_one (ps_ret pe_bl)) pss_nil)
      (pss_one (ps_if (pt_cmpR op_ne (pe_callB (call_repr hg hr.units) (by rfl) T.n_repr (by decide +kernel) (pa_cons (pe_cc c_law_kind (hr.mono (by omega)) (pa_cons (pv 4) pa_nil)) pa_nil)) (pe_callB (call_repr hg hr.units) (by rfl) T.n_repr (by decide +kernel) (pa_cons (pe_ifExp (pt_val (pv 7)) (pe_tup (pa_cons (pe_callB (r := rLenS K) call_lenS (by rfl) T.n_len (by decide +kernel) (pa_cons (pe_ix (r := rIxT K) ix_tup (pe_ix (r := rIxT K) ix_tup (pv 4) pe_int (fun _ _ => rfl)) pe_int (fun _ _ => rfl)) pa_nil)) (pa_cons (pe_callB (r := rLenS K) call_lenS (by rfl) T.n_len (by decide +kernel) (pa_cons (pv 4) pa_nil)) pa_nil))) pe_str) pa_nil)) (nomark _)) (pss_one (ps_ret pe_bl)) pss_nil)))))))))))
      (pss_one (ps_ret pe_bl))), ?_⟩
    walk_at "op"
    walk_at "st"
    refine ⟨a, _, rfl, hS, fun S1 h1 => ?_⟩
    refine ⟨by show 1 ≤ sizeLine; decide, fun S2 h2 => ?_⟩
    have S12 : S1 ≠ S2 := ne_of_none upd_same h2
    have lz : (cutV (ns.map V.int) none (some 20)).length + [V.int 0].length ≤ sizeLine := by
      unfold cutV
      rw [List.length_take, List.length_drop, List.length_map]
      show _ + 1 ≤ _
      omega
    have cells : ∀ x ∈ cutV (ns.map V.int) none (some 20) ++ [V.int 0], ∃ c, x = V.int c := fun x hx => by
      rcases List.mem_append.mp hx with hx | hx
      · obtain ⟨c, _, rfl⟩ := List.mem_map.mp (List.mem_of_mem_drop (List.mem_of_mem_take hx))
        exact ⟨c, rfl⟩
      · simp only [List.mem_cons, List.not_mem_nil, or_false] at hx
        exact ⟨0, hx⟩
    refine ⟨_, _, _, _, rfl, rfl, by rw [upd_ne S12]; exact upd_same, upd_same, lz, fun S h3 => ?_⟩
    generalize cutV (ns.map V.int) none (some 20) ++ [V.int 0] = zs at cells ⊢
    have hS3 : upd (upd (upd H S1 (.lst (cutV (ns.map V.int) none (some 20)))) S2 (.lst [.int 0])) S (.lst zs) S = some (.lst zs) := upd_same
    generalize upd (upd (upd H S1 (.lst (cutV (ns.map V.int) none (some 20)))) S2 (.lst [.int 0])) S (.lst zs) = H3 at hS3 ⊢
    refine ⟨S, rfl, ⟨_, SqL.of hS3⟩, ?_⟩
    refine fL (fun i σ H4 => H4 S = some (.lst zs) ∧ ∃ u1 u2 u3 u4 u5 u6 u7, σ = [some (.ref a), u1, u2, u3, u4, u5, u6, u7]) ⟨hS3, _, _, _, _, _, _, _, rfl⟩ (fun i σ H4 _ hp => SqL.of hp.1) ?_ ?_
    · rintro i x σ H4 hi ⟨hS4, u1, u2, u3, u4, u5, u6, u7, rfl⟩
      obtain ⟨c, rfl⟩ := cells x (List.mem_of_getElem? hi)
      clear hi
      walk_at "op"
      walk_at "st"
      refine fun p H5 hp hB5 s5 => ?_
      have Sp0 : S ≠ p := ne_of_none hS4 hp
      have hS5 := s5 _ _ hS4
      walk_at "st"
      refine fun hv hd m n H6 hB6 x6 hD6 hN => ?_
      have hS6 := x6 _ _ hS5 Sp0
      walk_at "st"
      refine ⟨hv, p, hd, rfl, hD6, fun b hb => ?_⟩
      obtain rfl : b = true := hb.mpr ⟨m, n, hN⟩
      walk_at "st"
      refine fun ov od H7 hB7 x7 hOD hOF => ?_
      have hS7 := x7 _ _ hS6 Sp0
      refine ⟨by show 2 ≤ sizeLine; decide, fun L1 hL1 => ?_⟩
      have nL1 := hB7.ne hL1
      have hB8 := hB7.up (o := .lst [hv, ov]) nL1
      have xL1 := ext_new (p := p) (o := .lst [hv, ov]) hL1
      have hLL1 : upd H7 L1 (.lst [hv, ov]) L1 = some (.lst [hv, ov]) := upd_same
      have hD8 := hD6.ext (x7.trans xL1)
      have hO8 := hOD.ext xL1
      have hS8 := xL1 _ _ hS7 Sp0
      generalize upd H7 L1 (.lst [hv, ov]) = H8 at hB8 xL1 hLL1 hD8 hO8 hS8 ⊢
      walk_at "st"
      refine fun E es eds H9 hB9 x9 hE nE hED hEl hET => ?_
      have hS9 := x9 _ _ hS8 Sp0
      refine ⟨_, _, _, _, rfl, rfl, x9 _ _ hLL1 nL1.symm, hE, by rw [hED.1]; show 2 + _ ≤ _; exact len_le (by omega), fun L2 hL2 => ?_⟩
      have nL2 := hB9.ne hL2
      have hB10 := hB9.up (o := .lst ([hv, ov] ++ es)) nL2
      have xL2 := ext_new (p := p) (o := .lst ([hv, ov] ++ es)) hL2
      have hLL2 : upd H9 L2 (.lst ([hv, ov] ++ es)) L2 = some (.lst ([hv, ov] ++ es)) := upd_same
      have hDs10 : Dats (upd H9 L2 (.lst ([hv, ov] ++ es))) p ([hv, ov] ++ es) ([hd, od] ++ eds) := ((Dats.cons (hD8.ext x9) (Dats.cons (hO8.ext x9) Dats.nil)).append hED).ext xL2
      have hD10 := hD8.ext (x9.trans xL2)
      have hS10 := xL2 _ _ hS9 Sp0
      generalize upd H9 L2 (.lst ([hv, ov] ++ es)) = H10 at hB10 xL2 hLL2 hDs10 hD10 hS10 ⊢
      walk_at "st"
      refine fun B hBn => ?_
      have nB := hB10.ne hBn
      refine lR (fun i H12 => Bag H12 p ∧ Ext p H10 (del H12 B) ∧ ∃ bs bds, H12 B = some (.lst bs) ∧ Dats (del H12 B) p bs bds ∧ bds.length = i ∧ ∀ e ∈ bds, Fit (big 4) 6 e) ?_ ?_ ?_
      · exact ⟨hB10.up nB, by rw [del_new hBn]; exact Ext.refl p _, [], [], upd_same, Dats.nil, rfl, fun e he => by simp at he⟩
      · rintro i H12 hi ⟨hB12, x12, bs, bds, hBs, hBD, hbl, hbf⟩
        walk_at "op"
        refine ⟨rfl, ?_⟩
        walk_at "st"
        refine ⟨B, bs, hBs, p, hv, hd, 5, rfl, ?_, hD10.ext x12, house_pure hN, by decide, fun v' d' H' hB' x' hd' hf' fB => ?_⟩
        · obtain ⟨q1, q2, q3, q4⟩ := hB12
          exact ⟨q1, q2, q3, by rw [del_ne nB]; exact q4⟩
        walk_at "st"
        refine ⟨bs, upd_same, by rw [hBD.1, hbl]; exact small1000 (by have : Int.toNat 9 = 9 := rfl; omega), (hB'.up nB).up nB, ?_, bs ++ [v'], bds ++ [d'], upd_same, ?_, by simp [hbl], fun e he => ?_⟩
        · rw [del_upd fB]
          exact x12.trans x'
        · rw [del_upd fB]
          exact (hBD.ext x').snoc hd'
        · rcases List.mem_append.mp he with he | he
          · exact hbf e he
          · simp only [List.mem_cons, List.not_mem_nil, or_false] at he
            subst he
            exact hf'
      · rintro H12 ⟨hB12, x12, bs, bds, hBs, hBD, hbl, hbf⟩
        have x13 : Ext p H10 H12 := fun b o e ne => (del_sub (x12 b o e ne)).2
        have hBD12 : Dats H12 p bs bds := hBD.ext (Same.ext same_del p)
        have hS12 := x13 _ _ hS10 Sp0
        have hLL12 := x13 _ _ hLL2 nL2.symm
        refine ⟨_, _, _, _, rfl, rfl, hLL12, hBs, by rw [hBD.1, hbl, List.length_append, hED.1]; show 2 + _ + 9 ≤ _; exact len_le (by omega), fun L3 hL3 => ?_⟩
        have nL3 := hB12.ne hL3
        have fits : ∀ d ∈ (([hd, od] ++ eds) ++ bds), Fit 4000000 6 d := fun d hd' => by
          rcases List.mem_append.mp hd' with hd' | hd'
          · rcases List.mem_append.mp hd' with hd' | hd'
            · simp only [List.mem_cons, List.not_mem_nil, or_false] at hd'
              rcases hd' with rfl | rfl
              · exact (house_fit hN).1.mono (by decide) (by decide)
              · exact hOF.mono (by decide) (by decide)
            · exact (hET d hd').fit.1.mono (by decide) (by decide)
          · exact (hbf d hd').mono (by decide) (by decide)
        have hDs : Dats (upd H12 L3 (.lst (([hv, ov] ++ es) ++ bs))) p (([hv, ov] ++ es) ++ bs) (([hd, od] ++ eds) ++ bds) := ((hDs10.ext x13).append hBD12).ext (ext_new hL3)
        have hB13 := hB12.up (o := .lst (([hv, ov] ++ es) ++ bs)) nL3
        have hL33 : upd H12 L3 (.lst (([hv, ov] ++ es) ++ bs)) L3 = some (.lst (([hv, ov] ++ es) ++ bs)) := upd_same
        have hS13 := (ext_new (p := p) (o := .lst (([hv, ov] ++ es) ++ bs)) hL3) _ _ hS12 Sp0
        generalize (([hv, ov] ++ es) ++ bs) = ts at hDs hB13 hL33 hS13 ⊢
        generalize upd H12 L3 (.lst ts) = H13 at hDs hB13 hL33 hS13 ⊢
        generalize (([hd, od] ++ eds) ++ bds) = tds at fits hDs ⊢
        refine ⟨L3, rfl, ⟨_, SqL.of hL33⟩, ?_⟩
        refine fL (fun i σ Hz => Hz S = some (.lst zs) ∧ Hz L3 = some (.lst ts) ∧ Dats Hz p ts tds ∧ ∃ u4 u5 u6 u7, σ = [some (.ref a), some (.int c), some (.ref p), some hv, u4, u5, u6, u7]) ⟨hS13, hL33, hDs, _, _, _, _, rfl⟩ (fun i σ H4 _ hp => SqL.of hp.2.1) ?_ ?_
        · rintro i x σ Hz hi ⟨hSz, hLz, hDz, u4, u5, u6, u7, rfl⟩
          obtain ⟨d, hd', hDx⟩ := hDz.at hi
          have hF := fits d (List.mem_of_getElem? hd')
          walk_at "op"
          walk_at "st"
          refine ⟨x, p, d, _, _, rfl, hDx, hF, by decide, by decide, ?_⟩
          walk_at "st"
          refine ⟨x, p, d, rfl, hDx, fun b Hy hb sy => ?_⟩
          walk_at "st"
          refine ⟨x, p, d, rfl, hDx.same sy, fun b2 hb2 => ?_⟩
          obtain rfl : b2 = b := by
            have e : b2 = true ↔ b = true := hb2.trans hb.symm
            cases b2 <;> cases b <;> simp_all
          walk_at "st"
          refine ⟨.bl b2, p, .bool b2, _, _, rfl, .bl _, fit_bool _, by decide, by decide, ?_⟩
          walk_at "st"
          refine ⟨.bl b2, p, .bool b2, _, _, rfl, .bl _, fit_bool _, by decide, by decide, ?_⟩
          refine ⟨rfl, ?_⟩
          rw [decide_eq_true rfl]
          walk_at "st"
          refine ⟨x, p, d, _, _, rfl, hDx.same sy, hF, by decide, by decide, ?_⟩
          refine ⟨_, rfl, rfl, ?_⟩
          rw [decide_eq_true rfl]
          refine ⟨_, rfl, ?_⟩
          refine iteF ?_
          walk_at "st"
          refine ⟨x, p, d, rfl, hDx.same sy, fun m' n' hH q Hq hq hqt sq => ?_, fun hno Hq sq => ?_⟩
          · obtain rfl : b2 = true := hb.mpr ⟨m', n', hH⟩
            obtain ⟨fs, rfl, hfl, n1, n4, m1, m6, hfs⟩ := id hH
            obtain ⟨xa, xs, rfl, hxa, nxa, hxs⟩ := hDx.isTup
            have f0 : fs[0]? = some fs[0] := List.getElem?_eq_getElem (by omega)
            obtain ⟨sd, ud, ef, hsd, hud⟩ := hfs fs[0] (List.getElem_mem _)
            rw [ef] at f0
            obtain ⟨x0, hx0, hd0⟩ := hxs.back f0
            obtain ⟨xb, ys, rfl, hxb, nxb, hys⟩ := hd0.isTup
            obtain ⟨rs, rfl, hrl, _⟩ := hsd
            obtain ⟨y0, hy0, hdy⟩ := hys.back (i := 0) (d := .tuple rs) rfl
            obtain ⟨xc, zs', rfl, hxc, nxc, hzs⟩ := hdy.isTup
            obtain rfl : m' = zs'.length := by rw [hzs.1, hrl]
            obtain rfl : n' = xs.length := by rw [hxs.1, hfl]
            have hqF : Fit ((41 + 2) * 2 + 3) 1 (.tuple [.int zs'.length, .int xs.length]) := fit_tup (n := 41) (k := 0) (ds := [.int zs'.length, .int xs.length]) (fun e he => by
              simp only [List.mem_cons, List.not_mem_nil, or_false] at he
              rcases he with rfl | rfl
              · exact fit_int (Nat.lt_of_lt_of_le (show ((zs'.length : Nat) : Int).natAbs < 10 by omega) (by decide))
              · exact fit_int (Nat.lt_of_lt_of_le (show ((xs.length : Nat) : Int).natAbs < 10 by omega) (by decide))) (fun e he => by
              simp only [List.mem_cons, List.not_mem_nil, or_false] at he
              rcases he with rfl | rfl <;> (unfold noList; rfl))
            have dd : ∀ (Hk : Hp) (r : Addr), Dats Hk r [.int zs'.length, .int xs.length] [.int zs'.length, .int xs.length] := fun Hk r => Dats.cons (.int _) (Dats.cons (.int _) Dats.nil)
            refine ⟨.ref q, q + 1, .tuple [.int zs'.length, .int xs.length], _, _, rfl, .tup hqt (Nat.ne_of_lt (Nat.lt_succ_self q)) (dd Hq (q + 1)).1 (dd Hq (q + 1)).2, hqF, by decide, by decide, ?_⟩
            refine ⟨_, rfl, _, rfl, iteT ?_⟩
            refine ⟨_, rfl, ?_⟩
            refine ⟨xa, xs, 0, .ref xb, rfl, rfl, SqT.of (sq _ _ (sy _ _ hxa)), atI_of (by decide) hx0, ?_⟩
            refine ⟨xb, ys, 0, .ref xc, rfl, rfl, SqT.of (sq _ _ (sy _ _ hxb)), atI_of (by decide) hy0, ?_⟩
            refine ⟨xc, zs', rfl, .inr (SqT.of (sq _ _ (sy _ _ hxc))), ?_⟩
            refine ⟨_, rfl, xa, xs, rfl, .inr (SqT.of (sq _ _ (sy _ _ hxa))), ?_⟩
            refine ⟨by show 2 ≤ sizeLine; decide, fun t ht => ?_⟩
            have st := sq.trans (same_new (o := .tup [.int zs'.length, .int xs.length]) ht)
            refine ⟨.ref t, t + 1, .tuple [.int zs'.length, .int xs.length], _, _, rfl, .tup upd_same (Nat.ne_of_lt (Nat.lt_succ_self t)) rfl (dd _ (t + 1)).2, hqF, by decide, by decide, ?_⟩
            refine ⟨rfl, ?_⟩
            rw [decide_eq_true rfl]
            refine ⟨_, rfl, iteF ?_⟩
            exact ⟨st _ _ (sy _ _ hSz), st _ _ (sy _ _ hLz), hDz.ext ((Same.ext sy p).trans (Same.ext st p)), _, _, _, _, rfl⟩
          · obtain rfl : b2 = false := by
              cases b2
              · rfl
              · exact absurd (hb.mp rfl) hno
            refine ⟨.str (Str.ofString "none"), p, .str (Str.ofString "none"), _, _, rfl, .str _, fit_str (by decide +kernel), by decide, by decide, ?_⟩
            refine ⟨_, rfl, _, rfl, iteF ?_⟩
            refine ⟨.str (Str.ofString "none"), p, .str (Str.ofString "none"), _, _, rfl, .str _, fit_str (by decide +kernel), by decide, by decide, ?_⟩
            refine ⟨rfl, ?_⟩
            rw [decide_eq_true rfl]
            refine ⟨_, rfl, iteF ?_⟩
            exact ⟨sq _ _ (sy _ _ hSz), sq _ _ (sy _ _ hLz), hDz.ext ((Same.ext sy p).trans (Same.ext sq p)), _, _, _, _, rfl⟩
        · rintro σ Hz ⟨hSz, hLz, hDz, u4, u5, u6, u7, rfl⟩
          exact ⟨hSz, _, _, _, _, _, _, _, rfl⟩
    · rintro σ H4 ⟨hS4, u1, u2, u3, u4, u5, u6, u7, rfl⟩
      walk_at "op"
      walk_at "st"
      exact k _
end
end Fm
end FQ13
section FFmAll
set_option Elab.async false
set_option linter.all false
set_option maxRecDepth 100000
set_option maxHeartbeats 4000000
namespace Fm
open PySem PySem.Spec PyProof.Rows L2
theorem df_mk {K : PySem.W.Frag} {mg : Str → Option Value} {h : Heap} {x : Str} {st : Stmt} {ps : List Str} {f : Addr} (X : K.In h) (G : h.Ns mainGlobals mg) {oc : Value} {od an : Option Addr} {osl : Array (Option Value)} {kV doc pm cdv ct : Value}
    (a : PySem.W.nsIn K mainGlobals x = some (some (.ref f))) (l : K.lookup f = some ⟨oc, od, .func (PySem.W.fnOf x x (defArgs st) (defBody st) (defScope st) .none kV doc pm an cdv ct), osl⟩)
    (c : PySem.W.codeIn K cdv x = true) (k : PySem.W.keepIn K (.ref f) = true)
    (b : ∀ (kV doc pm : Value) (an : Option Addr) (cdv ct : Value) (us : List Value), us.length = ps.length → bindArgs (PySem.W.fnOf x x (defArgs st) (defBody st) (defScope st) .none kV doc pm an cdv ct) ⟨us, []⟩ = pure (ps.zip us)) : Df K mg x st ps :=
  ⟨f, _, fun_mk l c k, PySem.W.mg_of X G a, (fun_mk l c k).binds b⟩
abbrev DfOf {K : PySem.W.Frag} {h : Heap} (_ : K.In h) (mg : Str → Option Value) (x : Str) (st : Stmt) (ps : List Str) : Prop := Df K mg x st ps
theorem law_mk {P : Program} {w : World} {K : PySem.W.Frag} {h : Heap} {mg : Str → Option Value} {fa f : Addr} (X : K.In h) (G : h.Ns mainGlobals mg) (hfa : mg "law" = some (.ref fa)) {oc : Value} {od an : Option Addr} {osl : Array (Option Value)} {kV doc pm cdv ct : Value}
    (a : PySem.W.nsIn K mainGlobals "law" = some (some (.ref f))) (l : K.lookup f = some ⟨oc, od, .func (PySem.W.fnOf "law" "law" (defArgs s_law) (defBody s_law) (defScope s_law) .none kV doc pm an cdv ct), osl⟩)
    (c : PySem.W.codeIn K cdv "law" = true) (k : PySem.W.keepIn K (.ref f) = true) (T : Nms mg)
    (Ds_is_whole : Df K mg "is_whole" s_is_whole ["thing"])
    (Ds_is_up_to : Df K mg "is_up_to" s_is_up_to ["thing", "most"])
    (Ds_is_tuple_of : Df K mg "is_tuple_of" s_is_tuple_of ["thing", "many"])
    (Ds_are_up_to : Df K mg "are_up_to" s_are_up_to ["thing", "many", "most"])
    (Ds_is_house : Df K mg "is_house" s_is_house ["thing"])
    (Ds_is_table : Df K mg "is_table" s_is_table ["thing", "m"])
    (Ds_size : Df K mg "size" s_size ["house"])
    (Ds_law_bag : Df K mg "_law_bag" s_law_bag ["cell"])
    (Ds_law_pick : Df K mg "_law_pick" s_law_pick ["bag", "many"])
    (Ds_law_table : Df K mg "_law_table" s_law_table ["bag", "m"])
    (Ds_law_up : Df K mg "_law_up" s_law_up ["bag", "m", "stay"])
    (Ds_law_house : Df K mg "_law_house" s_law_house ["bag"])
    (Ds_law_is_table : Df K mg "_law_is_table" s_law_is_table ["m", "thing"])
    (Ds_law_due : Df K mg "_law_due" s_law_due ["thing"])
    (Ds_law_odd : Df K mg "_law_odd" s_law_odd ["bag"])
    (Ds_law_bent : Df K mg "_law_bent" s_law_bent ["bag", "thing", "deep"])
    (Ds_law_edges : Df K mg "_law_edges" s_law_edges ["bag"])
    (Ds_law_kind : Df K mg "_law_kind" s_law_kind ["thing"])
    {tF tN : Tok} (c_MOST_FLOORS : mg "MOST_FLOORS" = some (.int 4 tF)) (c_MOST_NUMBERS : mg "MOST_NUMBERS" = some (.int 6 tN)) {C M : Addr} (EX : Exn K mg "NoHouse" C M) (n_ValueError : mg "ValueError" = none) (g_MeetError : mg "MeetError" = some (.ref M))
    {a_Full a_NoCompany a_NoFloor a_NoLog a_NoMeeting a_NoName a_NoNumber a_NoRow a_NoSeen a_NoState a_NoStanding a_NoText a_NotFair a_Nothing a_NotLike a_NotSure a_Taken a_TooMany : Addr}
    (g_Full : mg "Full" = some (.ref a_Full))
    (g_NoCompany : mg "NoCompany" = some (.ref a_NoCompany))
    (g_NoFloor : mg "NoFloor" = some (.ref a_NoFloor))
    (g_NoLog : mg "NoLog" = some (.ref a_NoLog))
    (g_NoMeeting : mg "NoMeeting" = some (.ref a_NoMeeting))
    (g_NoName : mg "NoName" = some (.ref a_NoName))
    (g_NoNumber : mg "NoNumber" = some (.ref a_NoNumber))
    (g_NoRow : mg "NoRow" = some (.ref a_NoRow))
    (g_NoSeen : mg "NoSeen" = some (.ref a_NoSeen))
    (g_NoState : mg "NoState" = some (.ref a_NoState))
    (g_NoStanding : mg "NoStanding" = some (.ref a_NoStanding))
    (g_NoText : mg "NoText" = some (.ref a_NoText))
    (g_NotFair : mg "NotFair" = some (.ref a_NotFair))
    (g_Nothing : mg "Nothing" = some (.ref a_Nothing))
    (g_NotLike : mg "NotLike" = some (.ref a_NotLike))
    (g_NotSure : mg "NotSure" = some (.ref a_NotSure))
    (g_Taken : mg "Taken" = some (.ref a_Taken))
    (g_TooMany : mg "TooMany" = some (.ref a_TooMany))
    (z1 : PySem.W.kitAny K (.ref C) [.ref a_Full, .ref a_NoCompany, .ref a_NoFloor, .ref a_NoLog, .ref a_NoMeeting, .ref a_NoName, .ref a_NoNumber, .ref a_NoRow, .ref a_NoSeen, .ref a_NoState] = some false) (z2 : PySem.W.kitAny K (.ref C) [.ref a_NoStanding, .ref a_NoText, .ref a_NotFair, .ref a_Nothing, .ref a_NotLike, .ref a_NotSure, .ref a_Taken, .ref a_TooMany] = some false)
    (z3 : PySem.W.kitOne K (.ref C) (.type "ValueError") = some true) (z4 : PySem.W.kitOne K (.ref C) (.ref C) = some true) :
    ∃ fd : FuncData, (∀ (s : Shared) (u : Value), BindsTo s fd ⟨[u], []⟩ [("script", u)]) ∧ ∀ base : Heap, K.In base → base.Ns mainGlobals mg → RunG P w K mg base 9 fa fd ["script"] (spLaw K) := by
  have e := hfa.symm.trans (PySem.W.mg_of X G a)
  cases e
  refine ⟨PySem.W.fnOf "law" "law" (defArgs s_law) (defBody s_law) (defScope s_law) .none kV doc pm an cdv ct, fun s v => .of_eq rfl, fun base _ _ => ?_⟩
  have c1 := ok_is_whole (P := P) (w := w) (base := base) Ds_is_whole T
  have c2 := ok_is_up_to Ds_is_up_to T c1
  have c3 := ok_is_tuple_of (P := P) (w := w) (base := base) Ds_is_tuple_of T
  have c4 := ok_are_up_to Ds_are_up_to T c3 c2
  have c5 := ok_is_table Ds_is_table T c3 c4
  have c6 := ok_is_house Ds_is_house T c_MOST_FLOORS c_MOST_NUMBERS c3 c5
  have c7 := ok_size Ds_size T EX c6
  have c8 := ok_law_kind Ds_law_kind T n_ValueError EX g_MeetError g_Full g_NoCompany g_NoFloor g_NoLog g_NoMeeting g_NoName g_NoNumber g_NoRow g_NoSeen g_NoState g_NoStanding g_NoText g_NotFair g_Nothing g_NotLike g_NotSure g_Taken g_TooMany z1 z2 z3 z4 c7
  have b1 := ok_law_bag (P := P) (w := w) (base := base) Ds_law_bag T
  have b2 := ok_law_pick (P := P) (w := w) (base := base) Ds_law_pick T
  have b3 := ok_law_table Ds_law_table T b2
  have b4 := ok_law_up Ds_law_up T b2
  have b5 := ok_law_house Ds_law_house T b2 b3 b4
  have b6 := ok_law_is_table (P := P) (w := w) (base := base) Ds_law_is_table T
  have b7 := ok_law_due Ds_law_due T b6
  have b8 := ok_law_odd Ds_law_odd T b2
  have b9 := ok_law_edges (P := P) (w := w) (base := base) Ds_law_edges T
  have n0 : CallOk P w K mg base CX0 2 "_law_bent" ["bag", "thing", "deep"] (spBent 0) := (never_ok (P := P) (w := w) (base := base) Ds_law_bent).mono (by omega)
  have n1 := ok_law_bent Ds_law_bent T b2 b8 0 (by omega) n0
  have n2 := ok_law_bent Ds_law_bent T b2 b8 1 (by omega) n1
  have n3 := ok_law_bent Ds_law_bent T b2 b8 2 (by omega) n2
  have n4 := ok_law_bent Ds_law_bent T b2 b8 3 (by omega) n3
  have n5 := ok_law_bent Ds_law_bent T b2 b8 4 (by omega) n4
  exact ok_law (fun_mk l c k) T b1 b5 c6 b8 b9 n5 b7 c8
end Fm
end FFmAll
open PySem PySem.W PyProof.Rows
set_option maxRecDepth 100000 in
set_option maxHeartbeats 0 in
theorem PySem.Challenge.cw_floormeet_k01_what_a_house_is_holds : PySem.Challenge.rw_floormeet_k01_what_a_house_is.Holds := by
  w_on; o_law; k_head; (case hw => w_witness2)
  k_fill
  refine Fm.walk_g (l := PySem.Challenge.rw_floormeet_k01_what_a_house_is) (n := 63) (k := 9) (x := "script") (sp := Fm.spLaw) rfl (by decide) rfl ⟨rfl, by decide, by decide⟩ (fun w h Y => PySem.W.kIn_of Y) ?F ?S
  case S =>
    exact fun K H a ns hl hS _ => ⟨a, ns, rfl, Nat.le_trans (Nat.succ_le_succ hl) (by decide), hS, fun _ => rfl⟩
  case F =>
    intro w mg fa h KX G hmg
    have n_len : mg "len" = none := by
      refine PySem.W.mg_none_of KX G ?z
      (case z => k_is)
    have n_range : mg "range" = none := by
      refine PySem.W.mg_none_of KX G ?z
      (case z => k_is)
    have n_min : mg "min" = none := by
      refine PySem.W.mg_none_of KX G ?z
      (case z => k_is)
    have n_max : mg "max" = none := by
      refine PySem.W.mg_none_of KX G ?z
      (case z => k_is)
    have n_tuple : mg "tuple" = none := by
      refine PySem.W.mg_none_of KX G ?z
      (case z => k_is)
    have n_list : mg "list" = none := by
      refine PySem.W.mg_none_of KX G ?z
      (case z => k_is)
    have n_isinstance : mg "isinstance" = none := by
      refine PySem.W.mg_none_of KX G ?z
      (case z => k_is)
    have n_repr : mg "repr" = none := by
      refine PySem.W.mg_none_of KX G ?z
      (case z => k_is)
    have n_int : mg "int" = none := by
      refine PySem.W.mg_none_of KX G ?z
      (case z => k_is)
    have n_bool : mg "bool" = none := by
      refine PySem.W.mg_none_of KX G ?z
      (case z => k_is)
    have n_sum : mg "sum" = none := by
      refine PySem.W.mg_none_of KX G ?z
      (case z => k_is)
    have n_str : mg "str" = none := by
      refine PySem.W.mg_none_of KX G ?z
      (case z => k_is)
    have n_enumerate : mg "enumerate" = none := by
      refine PySem.W.mg_none_of KX G ?z
      (case z => k_is)
    have n_zip : mg "zip" = none := by
      refine PySem.W.mg_none_of KX G ?z
      (case z => k_is)
    have T : Fm.Nms mg := ⟨n_len, n_range, n_min, n_max, n_tuple, n_list, n_isinstance, n_repr, n_int, n_bool, n_sum, n_str, n_enumerate, n_zip⟩
    have n_ValueError : mg "ValueError" = none := by
      refine PySem.W.mg_none_of KX G ?z
      (case z => k_is)
    have Ds_is_whole : Fm.DfOf KX mg "is_whole" Fm.s_is_whole ["thing"] := by
      refine' Fm.df_mk KX G ?a ?l ?c ?k (fun _ _ _ _ _ _ us hl => match us, hl with | [_], _ => rfl)
      (case a => k_is); (case l => k_is); (case c => k_is); (case k => k_is)
    have Ds_is_up_to : Fm.DfOf KX mg "is_up_to" Fm.s_is_up_to ["thing", "most"] := by
      refine' Fm.df_mk KX G ?a ?l ?c ?k (fun _ _ _ _ _ _ us hl => match us, hl with | [_, _], _ => rfl)
      (case a => k_is); (case l => k_is); (case c => k_is); (case k => k_is)
    have Ds_is_tuple_of : Fm.DfOf KX mg "is_tuple_of" Fm.s_is_tuple_of ["thing", "many"] := by
      refine' Fm.df_mk KX G ?a ?l ?c ?k (fun _ _ _ _ _ _ us hl => match us, hl with | [_, _], _ => rfl)
      (case a => k_is); (case l => k_is); (case c => k_is); (case k => k_is)
    have Ds_are_up_to : Fm.DfOf KX mg "are_up_to" Fm.s_are_up_to ["thing", "many", "most"] := by
      refine' Fm.df_mk KX G ?a ?l ?c ?k (fun _ _ _ _ _ _ us hl => match us, hl with | [_, _, _], _ => rfl)
      (case a => k_is); (case l => k_is); (case c => k_is); (case k => k_is)
    have Ds_is_house : Fm.DfOf KX mg "is_house" Fm.s_is_house ["thing"] := by
      refine' Fm.df_mk KX G ?a ?l ?c ?k (fun _ _ _ _ _ _ us hl => match us, hl with | [_], _ => rfl)
      (case a => k_is); (case l => k_is); (case c => k_is); (case k => k_is)
    have Ds_is_table : Fm.DfOf KX mg "is_table" Fm.s_is_table ["thing", "m"] := by
      refine' Fm.df_mk KX G ?a ?l ?c ?k (fun _ _ _ _ _ _ us hl => match us, hl with | [_, _], _ => rfl)
      (case a => k_is); (case l => k_is); (case c => k_is); (case k => k_is)
    have Ds_size : Fm.DfOf KX mg "size" Fm.s_size ["house"] := by
      refine' Fm.df_mk KX G ?a ?l ?c ?k (fun _ _ _ _ _ _ us hl => match us, hl with | [_], _ => rfl)
      (case a => k_is); (case l => k_is); (case c => k_is); (case k => k_is)
    have Ds_law_bag : Fm.DfOf KX mg "_law_bag" Fm.s_law_bag ["cell"] := by
      refine' Fm.df_mk KX G ?a ?l ?c ?k (fun _ _ _ _ _ _ us hl => match us, hl with | [_], _ => rfl)
      (case a => k_is); (case l => k_is); (case c => k_is); (case k => k_is)
    have Ds_law_pick : Fm.DfOf KX mg "_law_pick" Fm.s_law_pick ["bag", "many"] := by
      refine' Fm.df_mk KX G ?a ?l ?c ?k (fun _ _ _ _ _ _ us hl => match us, hl with | [_, _], _ => rfl)
      (case a => k_is); (case l => k_is); (case c => k_is); (case k => k_is)
    have Ds_law_table : Fm.DfOf KX mg "_law_table" Fm.s_law_table ["bag", "m"] := by
      refine' Fm.df_mk KX G ?a ?l ?c ?k (fun _ _ _ _ _ _ us hl => match us, hl with | [_, _], _ => rfl)
      (case a => k_is); (case l => k_is); (case c => k_is); (case k => k_is)
    have Ds_law_up : Fm.DfOf KX mg "_law_up" Fm.s_law_up ["bag", "m", "stay"] := by
      refine' Fm.df_mk KX G ?a ?l ?c ?k (fun _ _ _ _ _ _ us hl => match us, hl with | [_, _, _], _ => rfl)
      (case a => k_is); (case l => k_is); (case c => k_is); (case k => k_is)
    have Ds_law_house : Fm.DfOf KX mg "_law_house" Fm.s_law_house ["bag"] := by
      refine' Fm.df_mk KX G ?a ?l ?c ?k (fun _ _ _ _ _ _ us hl => match us, hl with | [_], _ => rfl)
      (case a => k_is); (case l => k_is); (case c => k_is); (case k => k_is)
    have Ds_law_is_table : Fm.DfOf KX mg "_law_is_table" Fm.s_law_is_table ["m", "thing"] := by
      refine' Fm.df_mk KX G ?a ?l ?c ?k (fun _ _ _ _ _ _ us hl => match us, hl with | [_, _], _ => rfl)
      (case a => k_is); (case l => k_is); (case c => k_is); (case k => k_is)
    have Ds_law_due : Fm.DfOf KX mg "_law_due" Fm.s_law_due ["thing"] := by
      refine' Fm.df_mk KX G ?a ?l ?c ?k (fun _ _ _ _ _ _ us hl => match us, hl with | [_], _ => rfl)
      (case a => k_is); (case l => k_is); (case c => k_is); (case k => k_is)
    have Ds_law_odd : Fm.DfOf KX mg "_law_odd" Fm.s_law_odd ["bag"] := by
      refine' Fm.df_mk KX G ?a ?l ?c ?k (fun _ _ _ _ _ _ us hl => match us, hl with | [_], _ => rfl)
      (case a => k_is); (case l => k_is); (case c => k_is); (case k => k_is)
    have Ds_law_bent : Fm.DfOf KX mg "_law_bent" Fm.s_law_bent ["bag", "thing", "deep"] := by
      refine' Fm.df_mk KX G ?a ?l ?c ?k (fun _ _ _ _ _ _ us hl => match us, hl with | [_, _, _], _ => rfl)
      (case a => k_is); (case l => k_is); (case c => k_is); (case k => k_is)
    have Ds_law_edges : Fm.DfOf KX mg "_law_edges" Fm.s_law_edges ["bag"] := by
      refine' Fm.df_mk KX G ?a ?l ?c ?k (fun _ _ _ _ _ _ us hl => match us, hl with | [_], _ => rfl)
      (case a => k_is); (case l => k_is); (case c => k_is); (case k => k_is)
    have Ds_law_kind : Fm.DfOf KX mg "_law_kind" Fm.s_law_kind ["thing"] := by
      refine' Fm.df_mk KX G ?a ?l ?c ?k (fun _ _ _ _ _ _ us hl => match us, hl with | [_], _ => rfl)
      (case a => k_is); (case l => k_is); (case c => k_is); (case k => k_is)
    refine' Fm.law_mk KX G hmg ?a ?l ?c ?k T Ds_is_whole Ds_is_up_to Ds_is_tuple_of Ds_are_up_to Ds_is_house Ds_is_table Ds_size Ds_law_bag Ds_law_pick Ds_law_table Ds_law_up Ds_law_house Ds_law_is_table Ds_law_due Ds_law_odd Ds_law_bent Ds_law_edges Ds_law_kind (PySem.W.mg_of KX G ?mf) (PySem.W.mg_of KX G ?mn) ⟨PySem.W.mg_of KX G ?xg, ?xe, ?xk, ?xb, ?xt, ⟨?c1, ?c2, ?c3, ?c4, ?c5, ?c6, ?c7, ?c8⟩, ?xm⟩ n_ValueError (PySem.W.mg_of KX G ?me) (PySem.W.mg_of KX G ?gex0x) (PySem.W.mg_of KX G ?gex1x) (PySem.W.mg_of KX G ?gex2x) (PySem.W.mg_of KX G ?gex3x) (PySem.W.mg_of KX G ?gex4x) (PySem.W.mg_of KX G ?gex5x) (PySem.W.mg_of KX G ?gex6x) (PySem.W.mg_of KX G ?gex7x) (PySem.W.mg_of KX G ?gex8x) (PySem.W.mg_of KX G ?gex9x) (PySem.W.mg_of KX G ?gex10x) (PySem.W.mg_of KX G ?gex11x) (PySem.W.mg_of KX G ?gex12x) (PySem.W.mg_of KX G ?gex13x) (PySem.W.mg_of KX G ?gex14x) (PySem.W.mg_of KX G ?gex15x) (PySem.W.mg_of KX G ?gex16x) (PySem.W.mg_of KX G ?gex17x) ?kz1 ?kz2 ?kz3 ?kz4
    (case a => k_is); (case l => k_is); (case c => k_is); (case k => k_is)
    (case mf => k_is); (case mn => k_is); (case xg => k_is); (case me => k_is); (case xe => k_exc); (case xk => k_is); (case xb => k_is); (case xt => k_is)
    (case c1 => k_is); (case c2 => k_is); (case c3 => k_is); (case c4 => k_is); (case c5 => k_is); (case c6 => k_is); (case c7 => k_is); (case c8 => k_is)
    (case xm => first | rfl | k_is)
    (case gex0x => k_is); (case gex1x => k_is); (case gex2x => k_is); (case gex3x => k_is); (case gex4x => k_is); (case gex5x => k_is); (case gex6x => k_is); (case gex7x => k_is); (case gex8x => k_is); (case gex9x => k_is); (case gex10x => k_is); (case gex11x => k_is); (case gex12x => k_is); (case gex13x => k_is); (case gex14x => k_is); (case gex15x => k_is); (case gex16x => k_is); (case gex17x => k_is)
    (case kz1 => first | rfl | k_is); (case kz2 => first | rfl | k_is); (case kz3 => first | rfl | k_is); (case kz4 => first | rfl | k_is)
