import PyProof.Rows.All
import Wide.All
import OpenK.AllK
import Wide.FinOn
import HandS.ForMost
import HandS.Wide
import HandS.IsInst
import HandS.TupAny
import HandS.TupMul
import HandS.TryOnly
import HandS.ExcOwn
import HandS.WordsExc
import HandS.RaiseMore
import HandS.Style
import PyProof.ReprRoads
import HandS.ExcValue
import HandS.ExcIs
import HandS.Ends
import PyProof.FactsAll.tuple_2
import KE.KRevSl
import KE.KTupSum
import KE.GoesEnum
import HandS.Zip
import HandS.Walk
import HandS.Conv
import PyProof.Rows.SeqMore
import PyProof.Rows.CountFlat
import PySem.Challenge.RW_floormeet_k02_what_a_standing_is
section FFmBase
set_option Elab.async false
set_option maxRecDepth 100000
namespace Fm
open PySem PySem.Spec PyProof.Rows L2
/-- a def of the top, by its name -/
structure Df (K : PySem.W.Frag) (mg : Str → Option Value) (x : Str) (st : Stmt) (ps : List Str) : Prop where
  ex : ∃ f fd, Fun K x x st f fd ∧ mg x = some (.ref f) ∧ Binds K fd ps []
/-- a def that keeps a promise, as whoever calls it wants it -/
def CallOk (P : Program) (w : World) (K : PySem.W.Frag) (mg : Str → Option Value) (base : Heap) (CX : CXT) (k : Nat) (x : Str) (ps : List Str) (sp : Sp) : Prop :=
  ∃ f fd, FnOk P w K mg base CX k f fd ps sp ∧ mg x = some (.ref f) ∧ PySem.W.keepIn K (.ref f) = true ∧ Binds K fd ps []
/-- the built-in names that stand for themselves -/
structure Nms (mg : Str → Option Value) : Prop where
  n_len : mg "len" = none
  n_range : mg "range" = none
  n_min : mg "min" = none
  n_max : mg "max" = none
  n_tuple : mg "tuple" = none
  n_list : mg "list" = none
  n_isinstance : mg "isinstance" = none
  n_repr : mg "repr" = none
  n_int : mg "int" = none
  n_bool : mg "bool" = none
  n_sum : mg "sum" = none
  n_str : mg "str" = none
  n_enumerate : mg "enumerate" = none
  n_zip : mg "zip" = none
section
variable {P : Program} {w : World} {K : PySem.W.Frag} {mg : Str → Option Value} {base : Heap}
theorem df_ok {x : Str} {st : Stmt} {N ps : List Str} {k : Nat} {sp : Sp} (D : Df K mg x st ps) (S : FnScope N ps (defScope st)) (hl : ∀ vs H Q E, sp vs H Q E → vs.length = ps.length)
    (b : ∀ (f : Addr) (cdv : Value) (A : Around) (outer : List Env) (s : Shared) (H : Hp) (vs : List V) (Q : VK) (E : XK), Room k (A.deeper (envOfC x (defScope st) s.heap.objs.size f cdv)) → sp vs H Q E →
      ∃ t, PSs (cxOf CX0 P w K mg base N x (defScope st) f cdv A outer s H E).nox (defBody st) t ∧ t { nx := fun _ H' => Q .non H', rt := Q } (start N vs) H) :
    CallOk P w K mg base CX0 (k + 1) x ps sp := by
  obtain ⟨f, fd, F, hm, hb⟩ := D.ex
  exact ⟨f, fd, F.ok S hl (b f), hm, F.kp, hb⟩
theorem df_okX {x : Str} {st : Stmt} {N ps : List Str} {k : Nat} {sp : Sp} (D : Df K mg x st ps) (S : FnScope N ps (defScope st)) (hl : ∀ vs H Q E, sp vs H Q E → vs.length = ps.length)
    (b : ∀ (f : Addr) (cdv : Value) (A : Around) (outer : List Env) (s : Shared) (H : Hp) (vs : List V) (Q : VK) (E : XK), Room k (A.deeper (envOfC x (defScope st) s.heap.objs.size f cdv)) → sp vs H Q E →
      ∃ t, PSs (cxOf (L2.CX P w) P w K mg base N x (defScope st) f cdv A outer s H E) (defBody st) t ∧ t { nx := fun _ H' => Q .non H', rt := Q } (start N vs) H) :
    CallOk P w K mg base (L2.CX P w) (k + 1) x ps sp := by
  obtain ⟨f, fd, F, hm, hb⟩ := D.ex
  exact ⟨f, fd, F.okX S hl (b f), hm, F.kp, hb⟩
theorem CallOk.mono {CX : CXT} {i k : Nat} {x : Str} {ps : List Str} {sp : Sp} (c : CallOk P w K mg base CX i x ps sp) (h : i ≤ k) : CallOk P w K mg base CX k x ps sp := by
  obtain ⟨f, fd, F, r⟩ := c
  exact ⟨f, fd, F.mono h, r⟩
theorem CallOk.imp {CX : CXT} {k : Nat} {x : Str} {ps : List Str} {sp sq : Sp} (c : CallOk P w K mg base CX k x ps sp) (h : ∀ vs H Q E, sq vs H Q E → sp vs H Q E) : CallOk P w K mg base CX k x ps sq := by
  obtain ⟨f, fd, F, r⟩ := c
  exact ⟨f, fd, F.imp h, r⟩
end
section
variable {X : Cx} {k : Nat} {x : Str} {ps : List Str} {sp : Sp} {p pos : Pos} {e : Expr} {es : List Expr} {t : TA} {E : XK}
theorem pe_cc (c : CallOk X.prog X.w X.K X.mg X.base CX0 k x ps sp) (hr : Room k X.A) (ha : PA X (e :: es) t) (hg : Gl X x := by rfl) (hd : (x == ("__debug__" : Str)) = false := by decide)
    (he : starEach (e :: es) X.env = (false, eval e X.env) :: starEach es X.env := by rfl) (hp : (backTo pos (starEach es X.env)).any (·.1) = false := by rfl) :
    PE X (.Call (.Name x p) (e :: es) [] pos) (tCall sp [] E0 t) := by
  obtain ⟨f, fd, F, hm, hk, hb⟩ := c
  exact pe_call F hr hg hm hk hb .nil pass0 ha hd he hp
/-- of a def that may raise, where it doesn't -/
theorem pe_cx (c : CallOk X.prog X.w X.K X.mg X.base (L2.CX X.prog X.w) k x ps sp) (hr : Room k X.A) (ha : PA X (e :: es) t) (hg : Gl X x := by rfl) (hd : (x == ("__debug__" : Str)) = false := by decide)
    (he : starEach (e :: es) X.env = (false, eval e X.env) :: starEach es X.env := by rfl) (hp : (backTo pos (starEach es X.env)).any (·.1) = false := by rfl) :
    PE X (.Call (.Name x p) (e :: es) [] pos) (tCall sp [] E0 t) := by
  obtain ⟨f, fd, F, hm, hk, hb⟩ := c
  exact pe_call F hr hg hm hk hb .nil passL ha hd he hp
/-- a call that may raise, under a wish -/
theorem pe_cs {W : WX} (c : CallOk X.prog X.w X.K X.mg X.base (L2.CX X.prog X.w) k x ps sp) (tk : Takes X W) (hr : Room k X.A) (ha : PA X (e :: es) t) (hg : Gl X x := by rfl) (hd : (x == ("__debug__" : Str)) = false := by decide)
    (he : starEach (e :: es) X.env = (false, eval e X.env) :: starEach es X.env := by rfl) (hp : (backTo pos (starEach es X.env)).any (·.1) = false := by rfl) :
    PE X (.Call (.Name x p) (e :: es) [] pos) (tCallS sp (fun σ => WE W σ) t) := by
  obtain ⟨f, fd, F, hm, hk, hb⟩ := c
  exact pe_callS F hr hg hm hk hb (fun σ => passAt tk σ) ha hd he hp
end
/-- all that was tracked but p is as it was -/
def Ext (p : Addr) (H H' : Hp) : Prop := ∀ b o, H b = some o → b ≠ p → H' b = some o
theorem Ext.refl (p : Addr) (H : Hp) : Ext p H H := fun _ _ h _ => h
theorem Ext.trans {p : Addr} {H H1 H2 : Hp} (a : Ext p H H1) (b : Ext p H1 H2) : Ext p H H2 := fun c o h n => b c o (a c o h n) n
theorem Same.ext {H H' : Hp} (s : Same H H') (p : Addr) : Ext p H H' := fun b o h _ => s b o h
theorem same_new {H : Hp} {q : Addr} {o : HO} (h : H q = none) : Same H (upd H q o) := fun b u e => by
  rw [upd_ne (ne_of_none e h)]
  exact e
theorem ext_at {H : Hp} {p : Addr} {o : HO} : Ext p H (upd H p o) := fun b u e n => by
  rw [upd_ne n]
  exact e
/-- the bag of draws at p -/
def Bag (H : Hp) (p : Addr) : Prop := ∃ x y c : Int, H p = some (.lst [.int x, .int y, .int c])
def spPick : Sp := fun vs H Q _ => ∃ (p : Addr) (m : Int), vs = [.ref p, .int m] ∧ 0 < m ∧ m.natAbs.log2 < 9000 ∧ Bag H p ∧ ∀ (k : Int) (H' : Hp), 0 ≤ k → k < m → Bag H' p → Ext p H H' → Q (.int k) H'
def spBag : Sp := fun vs H Q _ => ∃ c : Int, vs = [.int c] ∧ ∀ (p : Addr) (H' : Hp), H p = none → Bag H' p → Same H H' → Q (.ref p) H'
end Fm
end FFmBase
section FFmDat
set_option Elab.async false
set_option maxRecDepth 100000
namespace Fm
open PySem PySem.Spec PyProof.Rows L2
/-- the data that a value stands for: tuples, lists, the empty dict, flat things; no list or dict of it stands at p -/
inductive Dat (H : Hp) (p : Addr) : V → PyData → Prop
  | non : Dat H p .non .none
  | bl (b : Bool) : Dat H p (.bl b) (.bool b)
  | int (i : Int) : Dat H p (.int i) (.int i)
  | str (x : Str) : Dat H p (.str x) (.str x)
  | tup {a : Addr} {xs : List V} {ds : List PyData} : H a = some (.tup xs) → a ≠ p → xs.length = ds.length → (∀ (i : Nat) (x : V) (d : PyData), xs[i]? = some x → ds[i]? = some d → Dat H p x d) → Dat H p (.ref a) (.tuple ds)
  | lst {a : Addr} {xs : List V} {ds : List PyData} : H a = some (.lst xs) → a ≠ p → xs.length = ds.length → (∀ (i : Nat) (x : V) (d : PyData), xs[i]? = some x → ds[i]? = some d → Dat H p x d) → Dat H p (.ref a) (.list ds)
  | dct {a : Addr} : H a = some (.dK []) → a ≠ p → Dat H p (.ref a) (.dict [])
theorem Dat.ext {H H' : Hp} {p : Addr} {v : V} {d : PyData} (e : Ext p H H') (h : Dat H p v d) : Dat H' p v d := by
  induction h with
  | non => exact .non
  | bl b => exact .bl b
  | int i => exact .int i
  | str x => exact .str x
  | tup h1 h2 h3 _ ih => exact .tup (e _ _ h1 h2) h2 h3 ih
  | lst h1 h2 h3 _ ih => exact .lst (e _ _ h1 h2) h2 h3 ih
  | dct h1 h2 => exact .dct (e _ _ h1 h2) h2
theorem Dat.same {H H' : Hp} {p : Addr} {v : V} {d : PyData} (e : Same H H') (h : Dat H p v d) : Dat H' p v d := h.ext (Same.ext e p)
/-- rows of data -/
abbrev Dats (H : Hp) (p : Addr) (xs : List V) (ds : List PyData) : Prop := xs.length = ds.length ∧ ∀ (i : Nat) (x : V) (d : PyData), xs[i]? = some x → ds[i]? = some d → Dat H p x d
theorem Dats.ext {H H' : Hp} {p : Addr} {xs : List V} {ds : List PyData} (e : Ext p H H') (h : Dats H p xs ds) : Dats H' p xs ds := ⟨h.1, fun i x d a b => (h.2 i x d a b).ext e⟩
theorem Dats.nil {H : Hp} {p : Addr} : Dats H p [] [] := ⟨rfl, fun _ _ _ a _ => by simp at a⟩
theorem Dats.snoc {H : Hp} {p : Addr} {xs : List V} {ds : List PyData} {v : V} {d : PyData} (h : Dats H p xs ds) (k : Dat H p v d) : Dats H p (xs ++ [v]) (ds ++ [d]) := by
  refine ⟨by simp [h.1], fun i x e a b => ?_⟩
  by_cases hi : i < xs.length
  · rw [List.getElem?_append_left hi] at a
    rw [List.getElem?_append_left (by rw [← h.1]; exact hi)] at b
    exact h.2 i x e a b
  · rw [List.getElem?_append_right (by omega)] at a
    rw [List.getElem?_append_right (by rw [← h.1]; omega)] at b
    rw [h.1] at a
    cases e0 : i - ds.length with
    | zero =>
      rw [e0] at a b
      simp at a b
      subst a b
      exact k
    | succ j =>
      rw [e0] at a
      simp at a
theorem Dats.cons {H : Hp} {p : Addr} {xs : List V} {ds : List PyData} {v : V} {d : PyData} (k : Dat H p v d) (h : Dats H p xs ds) : Dats H p (v :: xs) (d :: ds) := by
  refine ⟨by simp [h.1], fun i x e a b => ?_⟩
  cases i with
  | zero =>
    simp at a b
    subst a b
    exact k
  | succ j =>
    simp at a b
    exact h.2 j x e a b
theorem Dats.ints {H : Hp} {p : Addr} (ns : List Int) : Dats H p (ns.map V.int) (ns.map PyData.int) := by
  refine ⟨by simp, fun i x d a b => ?_⟩
  rw [List.getElem?_map] at a b
  cases e : ns[i]? with
  | none => rw [e] at a; cases a
  | some n =>
    rw [e] at a b
    simp at a b
    subst a b
    exact .int n
theorem Dats.at {H : Hp} {p : Addr} {xs : List V} {ds : List PyData} (h : Dats H p xs ds) {i : Nat} {x : V} (e : xs[i]? = some x) : ∃ d, ds[i]? = some d ∧ Dat H p x d := by
  have hi : i < xs.length := (List.getElem?_eq_some_iff.mp e).1
  have hj : i < ds.length := by rw [← h.1]; exact hi
  exact ⟨ds[i], List.getElem?_eq_getElem hj, h.2 i x _ e (List.getElem?_eq_getElem hj)⟩
theorem Dats.back {H : Hp} {p : Addr} {xs : List V} {ds : List PyData} (h : Dats H p xs ds) {i : Nat} {d : PyData} (e : ds[i]? = some d) : ∃ x, xs[i]? = some x ∧ Dat H p x d := by
  have hi : i < ds.length := (List.getElem?_eq_some_iff.mp e).1
  have hj : i < xs.length := by rw [h.1]; exact hi
  exact ⟨xs[i], List.getElem?_eq_getElem hj, h.2 i _ d (List.getElem?_eq_getElem hj) e⟩
/-- a new tuple of data -/
theorem Dat.new {H : Hp} {p q : Addr} {xs : List V} {ds : List PyData} (hq : H q = none) (hp : q ≠ p) (h : Dats H p xs ds) : Dat (upd H q (.tup xs)) p (.ref q) (.tuple ds) :=
  .tup upd_same hp h.1 fun i x d a b => (h.2 i x d a b).same (same_new hq)
theorem Dat.newL {H : Hp} {p q : Addr} {xs : List V} {ds : List PyData} (hq : H q = none) (hp : q ≠ p) (h : Dats H p xs ds) : Dat (upd H q (.lst xs)) p (.ref q) (.list ds) :=
  .lst upd_same hp h.1 fun i x d a b => (h.2 i x d a b).same (same_new hq)
theorem Dat.isTup {H : Hp} {p : Addr} {v : V} {ds : List PyData} (h : Dat H p v (.tuple ds)) : ∃ a xs, v = .ref a ∧ H a = some (.tup xs) ∧ a ≠ p ∧ Dats H p xs ds := by
  cases h with
  | tup h1 h2 h3 h4 => exact ⟨_, _, rfl, h1, h2, h3, h4⟩
theorem Dat.isInt {H : Hp} {p : Addr} {v : V} {i : Int} (h : Dat H p v (.int i)) : v = .int i := by
  cases h with
  | int i => rfl
/-! ### types -/
def tyName : PyData → String
  | .none => "NoneType"
  | .bool _ => "bool"
  | .int _ => "int"
  | .str _ => "str"
  | .list _ => "list"
  | .tuple _ => "tuple"
  | .dict _ => "dict"
theorem Dat.ty {K : PySem.W.Frag} {H : Hp} {p : Addr} {v : V} {d : PyData} (h : Dat H p v d) : TyX K H v (.type (tyName d)) := by
  cases h with
  | non => exact .base .non
  | bl b => exact .base (.bl b)
  | int i => exact .base (.int i)
  | str x => exact .base (.str x)
  | tup h1 => exact .base (.tup h1)
  | lst h1 => exact .base (.lst h1)
  | dct h1 => exact .base (.dK h1)
def isI : PyData → Bool
  | .int _ => true
  | .bool _ => true
  | _ => false
def isB : PyData → Bool
  | .bool _ => true
  | _ => false
def isTu : PyData → Bool
  | .tuple _ => true
  | _ => false
theorem kit_int : ∀ d : PyData, kitB (tyName d) "int" = some (isI d)
  | .none => (by decide +kernel : kitB "NoneType" "int" = some false)
  | .bool _ => (by decide +kernel : kitB "bool" "int" = some true)
  | .int _ => (by decide +kernel : kitB "int" "int" = some true)
  | .str _ => (by decide +kernel : kitB "str" "int" = some false)
  | .list _ => (by decide +kernel : kitB "list" "int" = some false)
  | .tuple _ => (by decide +kernel : kitB "tuple" "int" = some false)
  | .dict _ => (by decide +kernel : kitB "dict" "int" = some false)
theorem kit_bool : ∀ d : PyData, kitB (tyName d) "bool" = some (isB d)
  | .none => (by decide +kernel : kitB "NoneType" "bool" = some false)
  | .bool _ => (by decide +kernel : kitB "bool" "bool" = some true)
  | .int _ => (by decide +kernel : kitB "int" "bool" = some false)
  | .str _ => (by decide +kernel : kitB "str" "bool" = some false)
  | .list _ => (by decide +kernel : kitB "list" "bool" = some false)
  | .tuple _ => (by decide +kernel : kitB "tuple" "bool" = some false)
  | .dict _ => (by decide +kernel : kitB "dict" "bool" = some false)
theorem kit_tuple : ∀ d : PyData, kitB (tyName d) "tuple" = some (isTu d)
  | .none => (by decide +kernel : kitB "NoneType" "tuple" = some false)
  | .bool _ => (by decide +kernel : kitB "bool" "tuple" = some false)
  | .int _ => (by decide +kernel : kitB "int" "tuple" = some false)
  | .str _ => (by decide +kernel : kitB "str" "tuple" = some false)
  | .list _ => (by decide +kernel : kitB "list" "tuple" = some false)
  | .tuple _ => (by decide +kernel : kitB "tuple" "tuple" = some true)
  | .dict _ => (by decide +kernel : kitB "dict" "tuple" = some false)
theorem isTu_iff {d : PyData} : isTu d = true ↔ ∃ ds, d = .tuple ds := by
  cases d <;> simp [isTu]
/-! ### texts -/
def noList : PyData → Bool
  | .list _ => false
  | .tuple xs => xs.attach.all fun ⟨x, _⟩ => noList x
  | _ => true
theorem noList_tup {ds : List PyData} (h : noList (.tuple ds) = true) : ∀ d ∈ ds, noList d = true := by
  intro d hd
  unfold noList at h
  rw [List.all_eq_true] at h
  exact h ⟨d, hd⟩ (List.mem_attach _ _)
theorem noList_of {ds : List PyData} (h : ∀ d ∈ ds, noList d = true) : noList (.tuple ds) = true := by
  unfold noList
  rw [List.all_eq_true]
  exact fun ⟨d, hd⟩ _ => h d hd
theorem readsAll_of {h : Heap} : ∀ {xs : List V} {us : List Value} {ds : List PyData}, Vals xs us → xs.length = ds.length →
    (∀ (i : Nat) (x : V) (d : PyData), xs[i]? = some x → ds[i]? = some d → ∀ u, RelV x u → ∃ as, Reads h u d as ∧ (noList d = true → sysModules ∉ as)) →
    ∃ as, ReadsAll h us ds as ∧ ((∀ d ∈ ds, noList d = true) → sysModules ∉ as)
  | [], _, ds, r, hl, _ => by
    cases r
    cases ds with
    | nil => exact ⟨[], .nil, fun _ => by simp⟩
    | cons d r => simp at hl
  | x :: xs, _, ds, r, hl, hr => by
    cases r with
    | cons r1 r2 =>
      cases ds with
      | nil => simp at hl
      | cons d ds =>
        obtain ⟨a1, h1, n1⟩ := hr 0 x d rfl rfl _ r1
        obtain ⟨a2, h2, n2⟩ := readsAll_of r2 (by simpa using hl) fun i y e q1 q2 => hr (i + 1) y e (by simpa using q1) (by simpa using q2)
        exact ⟨a1 ++ a2, .cons h1 h2, fun hn hm => by
          rcases List.mem_append.mp hm with hm | hm
          · exact n1 (hn d List.mem_cons_self) hm
          · exact n2 (fun e he => hn e (List.mem_cons_of_mem _ he)) hm⟩
theorem Dat.reads {X : Cx} {pins : List (Addr × Obj)} {σ : L2.St} {H : Hp} {s : Shared} {p : Addr} {v : V} {d : PyData} (I : Inv X pins σ H s) (h : Dat H p v d) :
    ∀ u, RelV v u → ∃ as, Reads s.heap u d as ∧ (noList d = true → sysModules ∉ as) := by
  induction h with
  | non => intro u r; cases r; exact ⟨[], .none, fun _ => by simp⟩
  | bl b => intro u r; cases r; exact ⟨[], .bool b, fun _ => by simp⟩
  | int i => intro u r; obtain ⟨t, rfl⟩ := r; exact ⟨[], .int i t, fun _ => by simp⟩
  | str x => intro u r; obtain ⟨t, rfl⟩ := r; exact ⟨[], .str x t, fun _ => by simp⟩
  | tup h1 h2 h3 _ ih =>
    intro u r
    cases r
    obtain ⟨its, rv, ⟨o, e, hc, n, hd⟩, _⟩ := I.tuple (SqT.of h1)
    obtain ⟨as, ha, hn⟩ := readsAll_of rv h3 ih
    exact ⟨as, .tuple e hc hd (by simpa using ha), fun z => hn (noList_tup z)⟩
  | lst h1 h2 h3 _ ih =>
    intro u r
    cases r
    obtain ⟨its, rv, ⟨o, n, e, hc, _, hd⟩, _⟩ := I.list (SqL.of h1)
    obtain ⟨as, ha, hn⟩ := readsAll_of rv h3 ih
    exact ⟨_, .list e hc hd (by simpa using ha), fun z => by unfold noList at z; cases z⟩
  | @dct a h1 h2 =>
    intro u r
    cases r
    obtain ⟨_, hs, vs, kv, o, es, ep, e, hx, hd, he⟩ := (show ObjOk X.prog X.w H s.heap a (.dK []) from I.hok a _ h1)
    cases kv
    have e0 : es.toList = [] := by
      have q := he.2.1
      cases z : es.toList with
      | nil => rfl
      | cons x r =>
        rw [z] at q
        exact absurd q (by intro w; cases w)
    refine ⟨_, .dict (as := []) (bs := []) e hx.1 hd (by rw [e0]; exact .nil) (by rw [e0]; exact .nil), fun _ hm => ?_⟩
    simp at hm
    rw [hm] at hs
    simp at hs
/-- a bound of what is shown -/
structure Fit (n k : Nat) (d : PyData) : Prop where
  len : d.shown.length ≤ n
  dep : d.depth ≤ k
  sh : d.showable = true
  ok : d.hasDict = false ∨ noList d = true
theorem fit_int {i : Int} (h : i.natAbs < 10 ^ 40) : Fit 41 0 (.int i) := by
  refine ⟨?_, ?_, ?_, ?_⟩
  · have q := int_text_length_le10 (a := i) (k := 40) (by decide) h
    simp only [PyData.shown]
    show (Str.ofString (toString i)).length ≤ 41
    rw [PySem.ofString_length]
    omega
  · simp only [PyData.depth]; omega
  · simp only [PyData.showable]
    have l : i.natAbs < 2 ^ 133 := Nat.lt_of_lt_of_le h (by decide)
    have l2 := PySem.Flt.log2_lt_of (by decide : 0 < 133) l
    exact decide_eq_true (by omega)
  · exact .inl (by simp only [PyData.hasDict])
theorem fit_bool (b : Bool) : Fit 5 0 (.bool b) := by
  refine ⟨?_, ?_, ?_, ?_⟩
  · simp only [PyData.shown]
    cases b <;> decide
  · simp only [PyData.depth]; omega
  · simp only [PyData.showable]
  · exact .inl (by simp only [PyData.hasDict])
theorem fit_none : Fit 5 0 .none := by
  refine ⟨?_, ?_, ?_, ?_⟩
  · simp only [PyData.shown]
    decide
  · simp only [PyData.depth]; omega
  · simp only [PyData.showable]
  · exact .inl (by simp only [PyData.hasDict])
theorem fit_str {x : Str} (h : (reprText x).length ≤ 41) : Fit 41 0 (.str x) := by
  refine ⟨?_, ?_, ?_, ?_⟩
  · simpa only [PyData.shown] using h
  · simp only [PyData.depth]; omega
  · simp only [PyData.showable]
  · exact .inl (by simp only [PyData.hasDict])
theorem Fit.mono {n k n' k' : Nat} {d : PyData} (F : Fit n k d) (h : n ≤ n') (h' : k ≤ k') : Fit n' k' d := ⟨Nat.le_trans F.len h, Nat.le_trans F.dep h', F.sh, F.ok⟩
theorem all_fit {n k : Nat} : ∀ {ds : List PyData}, (∀ d ∈ ds, Fit n k d) → piled (PyData.shownAll ds) ≤ (n + 2) * ds.length ∧ PyData.depthAll ds ≤ k ∧ PyData.showableAll ds = true ∧ (PyData.shownAll ds).length = ds.length
  | [], _ => by simp [PyData.shownAll, PyData.depthAll, PyData.showableAll, piled]
  | d :: r, h => by
    obtain ⟨h1, h2, h3, h4⟩ := all_fit fun e he => h e (List.mem_cons_of_mem _ he)
    have F := h d List.mem_cons_self
    have l := F.len
    have e := F.dep
    refine ⟨?_, ?_, ?_, ?_⟩
    · simp only [PyData.shownAll, piled_cons, List.length_cons]
      rw [Nat.mul_add]
      omega
    · simp only [PyData.depthAll]
      omega
    · simp only [PyData.showableAll, F.sh, h3, Bool.and_self]
    · simp only [PyData.shownAll, List.length_cons, h4]
theorem hasDict_all : ∀ {ds : List PyData}, (∀ d ∈ ds, d.hasDict = false) → PyData.hasDictAll ds = false
  | [], _ => by simp only [PyData.hasDictAll]
  | d :: r, h => by
    simp only [PyData.hasDictAll, h d List.mem_cons_self, hasDict_all fun e he => h e (List.mem_cons_of_mem _ he), Bool.or_self]
theorem tupleText_len (ts : List Str) : (tupleText ts).length ≤ piled ts + 3 := by
  unfold tupleText
  rw [strLen_append, strLen_append]
  have e : (Str.ofString (if ts.length == 1 then ",)" else ")" : String)).length ≤ 2 := by split <;> decide
  have e1 : ("(" : Str).length = 1 := rfl
  by_cases h : ts = []
  · subst h
    have : (Str.join ", " []).length = 0 := rfl
    omega
  · have := join_length_add ts h
    omega
theorem listText_len (ts : List Str) : (listText ts).length ≤ piled ts + 3 := by
  cases ts with
  | nil => decide
  | cons t r =>
    have h := textFrom_length_pos r 1 (("[" : Str) ++ (if (0 : Nat) > 0 then ", " else "" : String) ++ t) (Nat.succ_pos 0)
    have e : (("[" : Str) ++ (if (0 : Nat) > 0 then ", " else "" : String) ++ t).length = 1 + t.length := by rw [strLen_append, strLen_append]; rfl
    show (textFrom 1 (("[" : Str) ++ (if (0 : Nat) > 0 then ", " else "" : String) ++ t) r ++ "]").length ≤ _
    rw [strLen_append, h, e, piled_cons]
    have e2 : ("]" : Str).length = 1 := rfl
    omega
theorem fit_tup {n k : Nat} {ds : List PyData} (h : ∀ d ∈ ds, Fit n k d) (hn : ∀ d ∈ ds, noList d = true) : Fit ((n + 2) * ds.length + 3) (k + 1) (.tuple ds) := by
  obtain ⟨h1, h2, h3, h4⟩ := all_fit h
  refine ⟨?_, ?_, ?_, ?_⟩
  · simp only [PyData.shown]
    exact Nat.le_trans (tupleText_len _) (by omega)
  · simp only [PyData.depth]; omega
  · simpa only [PyData.showable] using h3
  · exact .inr (noList_of hn)
/-- tuples and lists without a dict -/
theorem fit_tupD {n k : Nat} {ds : List PyData} (h : ∀ d ∈ ds, Fit n k d) (hn : ∀ d ∈ ds, d.hasDict = false) : Fit ((n + 2) * ds.length + 3) (k + 1) (.tuple ds) := by
  obtain ⟨h1, h2, h3, h4⟩ := all_fit h
  refine ⟨?_, ?_, ?_, ?_⟩
  · simp only [PyData.shown]
    exact Nat.le_trans (tupleText_len _) (by omega)
  · simp only [PyData.depth]; omega
  · simpa only [PyData.showable] using h3
  · exact .inl (by simp only [PyData.hasDict]; exact hasDict_all hn)
theorem fit_lst {n k : Nat} {ds : List PyData} (h : ∀ d ∈ ds, Fit n k d) (hn : ∀ d ∈ ds, d.hasDict = false) : Fit ((n + 2) * ds.length + 3) (k + 1) (.list ds) := by
  obtain ⟨h1, h2, h3, h4⟩ := all_fit h
  refine ⟨?_, ?_, ?_, ?_⟩
  · simp only [PyData.shown]
    exact Nat.le_trans (listText_len _) (by omega)
  · simp only [PyData.depth]; omega
  · simpa only [PyData.showable] using h3
  · exact .inl (by simp only [PyData.hasDict]; exact hasDict_all hn)
theorem call_repr {X : Cx} (hg : X.A.guards = some []) (hu : X.A.units + 64 < cLine) : CallR X (.builtin "repr") (fun xs H Q => ∃ (v : V) (p : Addr) (d : PyData) (n k : Nat), xs = [v] ∧ Dat H p v d ∧ Fit n k d ∧ n ≤ sizeLine ∧ k ≤ 60 ∧ Q (.str d.shown) H) := by
  intro pins s σ H xs us Q I r h
  obtain ⟨v, p, d, n, k, rfl, hd, F, hn, hk, q⟩ := h
  obtain ⟨u, rfl, ru⟩ := vals1 r
  obtain ⟨as, R, hm⟩ := hd.reads I u ru
  have hz : d.shown.length ≤ sizeLine := Nat.le_trans F.len hn
  have fin : ∀ tk t, EP X pins σ Q (.str d.shown t) { s with toks := tk } := fun tk t => ⟨.str d.shown, H, I.tok tk, ⟨t, rfl⟩, q⟩
  cases hd with
  | non => cases ru; exact PySem.P.repr_of_none (by simpa only [PyData.shown] using fin _ _)
  | bl b => cases ru; exact PySem.P.repr_of_bool (by simpa only [PyData.shown] using fin _ _)
  | int i => obtain ⟨t, rfl⟩ := ru; exact PySem.P.repr_of_int (by simpa only [PyData.showable, decide_eq_true_eq] using F.sh) (by simpa only [PyData.shown] using fin _ _)
  | str x => obtain ⟨t, rfl⟩ := ru; exact PySem.P.repr_of_str (by simpa only [PyData.shown] using fin _ _) (by simpa only [PyData.shown] using hz)
  | tup h1 h2 h3 h4 =>
    cases ru
    exact repr_of_reads' R F.sh (fun hd => hm (F.ok.resolve_left (by rw [hd]; exact Bool.noConfusion))) hg (by have := F.dep; omega) (fun _ _ e => e) (fun h' u tk hk' => ⟨.str _, H, I.kept (t' := tk) hk', ⟨u, rfl⟩, q⟩) hz
  | lst h1 h2 h3 h4 =>
    cases ru
    exact repr_of_reads' R F.sh (fun hd => hm (F.ok.resolve_left (by rw [hd]; exact Bool.noConfusion))) hg (by have := F.dep; omega) (fun _ _ e => e) (fun h' u tk hk' => ⟨.str _, H, I.kept (t' := tk) hk', ⟨u, rfl⟩, q⟩) hz
  | dct h1 h2 =>
    cases ru
    exact repr_of_reads' R F.sh (fun hd => hm (F.ok.resolve_left (by rw [hd]; exact Bool.noConfusion))) hg (by have := F.dep; omega) (fun _ _ e => e) (fun h' u tk hk' => ⟨.str _, H, I.kept (t' := tk) hk', ⟨u, rfl⟩, q⟩) hz
end Fm
end FFmDat
section FFmLoop
set_option Elab.async false
set_option maxRecDepth 100000
namespace Fm
open PySem PySem.Spec PyProof.Rows L2
/-- a loop over what J yields -/
def ForB (J : It) (g : TG) (tb : TS) (D : Ends) (σ : L2.St) (H : Hp) : Prop := ∃ W : Nat → Nat → L2.St → Hp → Prop, (∃ m, W 0 m σ H) ∧ ∀ i m σ H, W i m σ H →
  (J.stop i H ∧ D.nx σ H) ∨ (J.go i H ∧ ∃ N : L2.St → Hp → Prop, (∀ σ' H', N σ' H' → ∃ m', m' < m ∧ W (i + 1) m' σ' H') ∧ ∀ x H', J.yld i H x H' → g x σ H' fun σ2 H2 => tb { D with nx := N, ct := N, bk := D.nx } σ2 H2)
theorem tFor_eq {wi : TI} {g : TG} {tb : TS} {D : Ends} {σ : L2.St} {H : Hp} : tFor wi g tb D σ H = wi σ H fun J H1 => ForB J g tb D σ H1 := rfl
/-- a comprehension over what J yields, its list at D -/
def LcB (J : It) (g : TG) (tt : TT) (te : TE) (vs : List Nat) (σ : L2.St) (H1 : Hp) (D : Addr) (Qd : Hp → Prop) : Prop := ∃ W : Nat → Nat → Hp → Prop, (∃ m, W 0 m (upd H1 D (.lst []))) ∧ ∀ i m H, W i m H →
  (J.stop i H ∧ Qd H) ∨ (J.go i H ∧ ∃ Nx : Hp → Prop, (∀ H', Nx H' → ∃ m', m' < m ∧ W (i + 1) m' H') ∧ ∀ x H', J.yld i H x H' → g x (wipe σ vs) H' fun σ2 H2 => wipe σ2 vs = wipe σ vs ∧ tt σ2 H2 fun b H3 =>
    if b = true then te σ2 H3 fun y H4 => ∃ acc, H4 D = some (.lst acc) ∧ acc.length < sizeLine ∧ Nx (upd H4 D (.lst (acc ++ [y]))) else Nx H3)
theorem tLc_eq {wi : TI} {g : TG} {tt : TT} {te : TE} {vs : List Nat} {σ : L2.St} {H : Hp} {Q : VK} : tLc wi g tt te vs σ H Q = wi σ H fun J H1 => ∀ A, H1 A = none → LcB J g tt te vs σ H1 A (fun H => Q (.ref A) H) := rfl
section
variable {K : PySem.W.Frag} {a : Addr} {xs : List V} {g : TG} {tb : TS} {D : Ends} {σ : L2.St} {H : Hp}
theorem fT (Pv : Nat → L2.St → Hp → Prop) (h0 : Pv 0 σ H) (hl : ∀ i σ H, i ≤ xs.length → Pv i σ H → SqT K H a xs)
    (hs : ∀ i x σ H, xs[i]? = some x → Pv i σ H → g x σ H fun σ2 H2 => tb { D with nx := Pv (i + 1), ct := Pv (i + 1), bk := D.nx } σ2 H2) (hd : ∀ σ H, Pv xs.length σ H → D.nx σ H) : ForB (Itt K a) g tb D σ H := for_tup Pv h0 hl hs hd
theorem fL (Pv : Nat → L2.St → Hp → Prop) (h0 : Pv 0 σ H) (hl : ∀ i σ H, i ≤ xs.length → Pv i σ H → SqL K H a xs)
    (hs : ∀ i x σ H, xs[i]? = some x → Pv i σ H → g x σ H fun σ2 H2 => tb { D with nx := Pv (i + 1), ct := Pv (i + 1), bk := D.nx } σ2 H2) (hd : ∀ σ H, Pv xs.length σ H → D.nx σ H) : ForB (Itl K a) g tb D σ H := for_list Pv h0 hl hs hd
theorem fR {lo : Int} {n : Nat} (Pv : Nat → L2.St → Hp → Prop) (h0 : Pv 0 σ H)
    (hs : ∀ i σ H, i < n → Pv i σ H → g (.int (lo + i)) σ H fun σ2 H2 => tb { D with nx := Pv (i + 1), ct := Pv (i + 1), bk := D.nx } σ2 H2) (hd : ∀ σ H, Pv n σ H → D.nx σ H) : ForB (Itr lo n) g tb D σ H := for_range Pv h0 hs hd
end
section
variable {K : PySem.W.Frag} {a : Addr} {xs : List V} {g : TG} {tt : TT} {te : TE} {vs : List Nat} {σ : L2.St} {H1 : Hp} {D : Addr} {Qd : Hp → Prop}
theorem lR {lo : Int} {n : Nat} (Pv : Nat → Hp → Prop) (h0 : Pv 0 (upd H1 D (.lst [])))
    (hs : ∀ i H, i < n → Pv i H → g (.int (lo + i)) (wipe σ vs) H fun σ2 H2 => wipe σ2 vs = wipe σ vs ∧ tt σ2 H2 fun b H3 =>
      if b = true then te σ2 H3 fun y H4 => ∃ acc, H4 D = some (.lst acc) ∧ acc.length < sizeLine ∧ Pv (i + 1) (upd H4 D (.lst (acc ++ [y]))) else Pv (i + 1) H3) (hd : ∀ H, Pv n H → Qd H) : LcB (Itr lo n) g tt te vs σ H1 D Qd := lc_range Pv h0 hs hd
theorem lL (Pv : Nat → Hp → Prop) (h0 : Pv 0 (upd H1 D (.lst []))) (hl : ∀ i H, i ≤ xs.length → Pv i H → SqL K H a xs)
    (hs : ∀ i x H, xs[i]? = some x → Pv i H → g x (wipe σ vs) H fun σ2 H2 => wipe σ2 vs = wipe σ vs ∧ tt σ2 H2 fun b H3 =>
      if b = true then te σ2 H3 fun y H4 => ∃ acc, H4 D = some (.lst acc) ∧ acc.length < sizeLine ∧ Pv (i + 1) (upd H4 D (.lst (acc ++ [y]))) else Pv (i + 1) H3) (hd : ∀ H, Pv xs.length H → Qd H) : LcB (Itl K a) g tt te vs σ H1 D Qd := lc_list Pv h0 hl hs hd
theorem lT (Pv : Nat → Hp → Prop) (h0 : Pv 0 (upd H1 D (.lst []))) (hl : ∀ i H, i ≤ xs.length → Pv i H → SqT K H a xs)
    (hs : ∀ i x H, xs[i]? = some x → Pv i H → g x (wipe σ vs) H fun σ2 H2 => wipe σ2 vs = wipe σ vs ∧ tt σ2 H2 fun b H3 =>
      if b = true then te σ2 H3 fun y H4 => ∃ acc, H4 D = some (.lst acc) ∧ acc.length < sizeLine ∧ Pv (i + 1) (upd H4 D (.lst (acc ++ [y]))) else Pv (i + 1) H3) (hd : ∀ H, Pv xs.length H → Qd H) : LcB (Itt K a) g tt te vs σ H1 D Qd := lc_tup Pv h0 hl hs hd
end
/-! ### what a house is, as data -/
def UpTo (mv : V) (d : PyData) : Prop := ∃ i : Int, d = .int i ∧ 0 ≤ i ∧ ∀ M, mv = .int M → i ≤ M
def RowD (m : Nat) (d : PyData) : Prop := ∃ ds, d = .tuple ds ∧ ds.length = m ∧ ∀ e ∈ ds, ∃ i : Int, e = .int i ∧ 0 ≤ i ∧ i < m
def cellD (rs : List PyData) (a b : Nat) : PyData := match rs[a]? with
  | some (.tuple r) => r[b]?.getD .none
  | _ => .none
def TabD (m : Nat) (d : PyData) : Prop := ∃ rs, d = .tuple rs ∧ rs.length = m ∧ (∀ r ∈ rs, RowD m r) ∧ ∀ a b, a < m → b < m → cellD rs a b = cellD rs b a
def FloorD (m : Nat) (d : PyData) : Prop := ∃ s u, d = .tuple [s, u] ∧ TabD m s ∧ TabD m u
def HouseN (m n : Nat) (d : PyData) : Prop := ∃ fs, d = .tuple fs ∧ fs.length = n ∧ 1 ≤ n ∧ n ≤ 4 ∧ 1 ≤ m ∧ m ≤ 6 ∧ ∀ f ∈ fs, FloorD m f
def HouseD (d : PyData) : Prop := ∃ m n, HouseN m n d
/-! ### promises of the program's looks -/
def spWhole : Sp := fun vs H Q _ => ∃ (v : V) (p : Addr) (d : PyData), vs = [v] ∧ Dat H p v d ∧ ∀ b : Bool, (b = true ↔ ∃ i, d = .int i) → Q (.bl b) H
def spUpTo : Sp := fun vs H Q _ => ∃ (v mv : V) (p : Addr) (d : PyData), vs = [v, mv] ∧ Dat H p v d ∧ (mv = .non ∨ ∃ M, mv = .int M) ∧ ∀ b : Bool, (b = true ↔ UpTo mv d) → Q (.bl b) H
def spTupOf : Sp := fun vs H Q _ => ∃ (v : V) (n : Int) (p : Addr) (d : PyData), vs = [v, .int n] ∧ Dat H p v d ∧ ∀ b : Bool, (b = true ↔ ∃ ds, d = .tuple ds ∧ (ds.length : Int) = n) → Q (.bl b) H
def spAre : Sp := fun vs H Q _ => ∃ (v mv : V) (n : Int) (p : Addr) (d : PyData), vs = [v, .int n, mv] ∧ Dat H p v d ∧ (mv = .non ∨ ∃ M, mv = .int M) ∧
  ∀ b : Bool, (b = true ↔ ∃ ds, d = .tuple ds ∧ (ds.length : Int) = n ∧ ∀ e ∈ ds, UpTo mv e) → Q (.bl b) H
def spTable : Sp := fun vs H Q _ => ∃ (v : V) (m : Nat) (p : Addr) (d : PyData), vs = [v, .int m] ∧ m ≤ 1000 ∧ Dat H p v d ∧ ∀ b : Bool, (b = true ↔ TabD m d) → Q (.bl b) H
def spHouse : Sp := fun vs H Q _ => ∃ (v : V) (p : Addr) (d : PyData), vs = [v] ∧ Dat H p v d ∧ ∀ b : Bool, (b = true ↔ HouseD d) → Q (.bl b) H
end Fm
end FFmLoop
section FFmTry
set_option Elab.async false
set_option linter.all false
set_option maxRecDepth 100000
set_option maxHeartbeats 2000000
namespace Fm
open PySem PySem.Spec PyProof.Rows L2
/-- an exception of the class cls, caught and kept at a -/
def ExK (cls : Value) (d : Option Addr) (a : Addr) : HO := .ext fun h => ∃ (oe : Obj) (vs : Array Value), h.get? a = some oe ∧ Zc cls d oe ∧ oe.data = .fields vs
section
variable {X : Cx} {pins : List (Addr × Obj)} {σ : L2.St} {H : Hp} {s sI : Shared}
/-- what is pinned, and is new since the entry, may be tracked -/
theorem track {a : Addr} {oe : Obj} {vs : Array Value} {cls : Value} {d : Option Addr} (I : Inv X ((a, oe) :: pins) σ H s) (hz : Zc cls d oe) (hv : oe.data = .fields vs)
    (h0 : X.s_0.heap.get? a = none) (hp : ∀ q ∈ X.pn ++ pins, q.1 ≠ a) : Inv X pins σ (upd H a (ExK cls d a)) s := by
  obtain ⟨ga, na, nl, nf, nc⟩ := I.pin (a, oe) (List.mem_append_right _ List.mem_cons_self)
  dsimp only at ga na nl nf nc
  have nb : ∀ {b o}, X.s_0.heap.get? b = some o → b ≠ a := fun {b o} e z => by
    rw [z, h0] at e
    cases e
  have hne : ∀ {b u}, H b = some u → b ≠ a := fun {b u} e => ne_of_none e na
  refine ⟨I.ok, I.os, I.bare, ⟨fun b o e n x y => ?_, fun b o e n x y => ?_, fun b o e n x => ?_, fun b o e x => ?_, fun b xs e => ?_, fun b o u e => ?_, fun b ps e => ?_⟩, I.loc, I.cell, ?_, fun x c e => ?_, fun q hq => ?_, fun b u e => ?_, I.len⟩
  · exact I.base.keep b o e n x y
  · exact I.base.slot b o e n x y
  · rw [upd_ne (nb e)]
    exact I.base.free b o e n x
  · exact I.base.there b o e x
  · have q := I.base.tups b xs e
    rw [upd_ne (hne q)]
    exact q
  · have q := I.base.frzs b o u e
    rw [upd_ne (hne q)]
    exact q
  · obtain ⟨m, q⟩ := I.base.tbls b ps e
    exact ⟨m, by rw [upd_ne (hne q)]; exact q⟩
  · rw [upd_ne (Ne.symm nl)]
    exact I.free
  · have hca : c ≠ a := fun z => by
      obtain ⟨v, o, ho, hd⟩ := I.cell x c e
      rw [z, ga] at ho
      cases ho
      exact nc v hd
    rw [upd_ne hca]
    exact I.freeC x c e
  · have hq2 : q ∈ X.pn ++ (a, oe) :: pins := by
      rcases List.mem_append.mp hq with z | z
      · exact List.mem_append_left _ z
      · exact List.mem_append_right _ (List.mem_cons_of_mem _ z)
    obtain ⟨e1, e2, e3⟩ := I.pin q hq2
    exact ⟨e1, by rw [upd_ne (hp q hq)]; exact e2, e3⟩
  · by_cases hb : b = a
    · subst hb
      rw [upd_same] at e
      cases e
      exact ⟨⟨oe, vs, ga, hz, hv⟩, ⟨oe, ga⟩, fun h1 h2 ⟨o, v, q, r⟩ k => ⟨o, v, k o q, r⟩⟩
    · rw [upd_ne hb] at e
      exact (I.hok b u e).stay (fun c w _ q => q) (fun c q => by rw [upd_ne (hne q)]; exact q) fun c xs q => by rw [upd_ne (hne q)]; exact q
end
/-- what the clause wishes that keeps its exception in a name: i the clause's own name, j the name that keeps it -/
def wKeep (K : PySem.W.Frag) (c : Value) (i j : Nat) (D : Ends) : WX := fun cls d σ H =>
  PySem.W.exmOne K cls c = some true ∧ ∀ a, H a = none → D.nx (((σ.set i (some (.ref a))).set j (some (.ref a))).set i none) (upd H a (ExK cls d a))
section
variable {X : Cx} {x n y : Str} {c : Value} {i j : Nat} {body : List Stmt} {np pos pos' py pn sp : Pos} {tb : WX → TS}
theorem ps_try_keep (hs : X.stack = X.env :: X.outer) (hf : X.env.frame = some X.env.locals) (hex : X.ex = []) (hN : X.N.Nodup) (hi : X.N[i]? = some n) (hln : X.env.kindOf n = some .local) (hj : X.N[j]? = some y) (hly : X.env.kindOf y = some .local) (hc : Names X x c)
    (hd1 : (n == ("__debug__" : Str)) = false) (hd2 : (n == ("__classdict__" : Str)) = false) (hsw : swapsWith (.Name n pn) (some (.Name y py)) sp.line X.env = pure false) (hil : i < X.N.length)
    (hb : ∀ (W : WX) (pn : List (Addr × Obj)) (xe : Value → Shared → Prop), Takes (X.tr pn xe) W → PassesOwn (model X.prog X.w) X.A X.env xe → PSs (X.tr pn xe) body (tb W)) :
    PS X (.Try body [.ExceptHandler (some (.Name x np)) (some n) [.Assign [.Name y py] (.Name n pn) sp] pos'] [] [] pos) (fun D σ H => tb (wKeep X.K c i j D) D σ H) := by
  refine ⟨fun pins s σ H D I h => ?_⟩
  have ok := I.ok
  have fr1 : X.A.frames = some (X.env :: X.outer) := by rw [ok.frames, hs]
  have lc1 : Loc X.env.scope n := .inl hln
  refine wpAny_Try_except ?_
  refine wpAny_mono ((hb (wKeep X.K c i j D) (X.pn ++ pins) (fun e t1 => wpAny (model X.prog X.w) X.A (noteFrame e X.env) (fun _ t2 => wpAny (model X.prog X.w) X.A (setFlight e none) (fun _ t3 =>
    wpAny (model X.prog X.w) X.A (handleBy e X.env [.ExceptHandler (some (.Name x np)) (some n) [.Assign [.Name y py] (.Name n pn) sp] pos']) (SP X pins D) X.xe t3) X.xe t2) X.xe t1) (fun u s' xx => ?_) PassesOwn.looking).run [] s σ H D (I.toTry _) h) (fun f s1 hsp => ?_) (fun e s1 he => he)
  · obtain ⟨a, B, sI, pins', σ1, H1, cls, d, rfl, J0, nb, up, sky, na, os, ag, hx1, hyes⟩ := xx
    have J : Inv X pins σ1 H1 sI := J0.ofTry ok
    have sk : Sky B (X.env :: X.outer) a (Zc cls d) X.env.locals s'.heap := hs ▸ sky
    show wpAny (model X.prog X.w) X.A (noteFrame (.ref a) X.env) _ _ _
    refine Sky.land Zc.steady fr1 hf sk fun g3 f3 u3 => ?_
    have K3 : Inv X pins σ1 H1 { s' with heap := g3 } := J.landed nb f3.1 (up.trans u3) os ag
    obtain ⟨o3, v3, e3, z3, d3⟩ := f3.there
    have off : a ∉ frs (X.env :: X.outer) := fun hm => by
      obtain ⟨_, o', e', hq⟩ := (show g3.FunFrames B (X.env :: X.outer) from f3.2.2.1).mem hm
      rw [e3] at e'
      cases e'
      exact hq _ d3
    have offL : a ≠ X.env.locals := fun z => off (List.mem_filterMap.mpr ⟨X.env, List.mem_cons_self, by rw [hf, z]⟩)
    have offF : a ∉ X.fs := fun hm => by
      obtain ⟨e, he, q⟩ := List.mem_filterMap.mp hm
      exact off (List.mem_filterMap.mpr ⟨e, List.mem_cons_of_mem _ he, q⟩)
    have newI : sI.heap.get? a = none := by
      cases q : sI.heap.get? a with
      | none => rfl
      | some o =>
        have z := nb a o q (by rw [hs]; exact off)
        rw [f3.2.1] at z
        cases z
    have new0 : X.s_0.heap.get? a = none := by
      cases q : X.s_0.heap.get? a with
      | none => rfl
      | some o =>
        obtain ⟨o', z⟩ := J.base.there a o q (by rw [hex]; exact fun z => nomatch z)
        rw [newI] at z
        cases z
    have S3 := K3.suite e3 d3 na offL offF
    refine wpAny_handleBy_cons (codeAny_handlers_test ?_) (by intro q; cases q)
    have LT : PySem.W.Looks (model X.prog X.w) g3 (typeOf (.ref a)) cls := fun A Q E s k q => wpAny_typeOf_ref (k _ _ e3) (by rw [z3.1]; exact q)
    have LM := PySem.W.exm_one (M := model X.prog X.w) K3.kIn LT hx1
    have tst : ∀ {Q : Value → Shared → Prop} {E : Value → Shared → Prop}, Q c { s' with heap := g3 } → wpAny (model X.prog X.w) (X.A.mark (some (.ref a))) (eval (.Name x np) X.env) Q E { s' with heap := g3 } := fun {Q E} q => by
      obtain ⟨hg, hdb, hm | ⟨hm, hv, hnn⟩⟩ := hc
      · exact ld_glob (X := X.suite a ((a, o3) :: (X.pn ++ pins))) S3 hg hm q hdb
      · exact ld_blt (X := X.suite a ((a, o3) :: (X.pn ++ pins))) S3 hg hm hv q hnn hdb
    refine tst (LM.here ?_)
    refine codeAny_handlers_suite_as ?_
    refine HandSPX.lands_againZ f3 fun g4 f4 u4 => ?_
    have K4 : Inv X pins σ1 H1 { s' with heap := g4 } := J.landed nb f4.1 ((up.trans u3).trans u4) os ag
    obtain ⟨o4, v4, e4, z4, d4⟩ := f4.there
    have S4 := K4.suite e4 d4 na offL offF
    refine store_ok (X := X.suite a ((a, o4) :: (X.pn ++ pins))) (v := .ref a) S4 hN hi lc1 rfl (fun s5 S5 => ?_) (.inr hln)
    have step : PSs (X.suite a ((a, o4) :: (X.pn ++ pins))) [.Assign [.Name y py] (.Name n pn) sp] (tSeq (tAsg (tVar i) (gName j)) tNext) :=
      pss_cons (ps_set (i := j) hN hj (.inl hly) (pe_var (i := i) hi (.inl hln) hd1 hd2) hsw (.inr hly)) pss_nil
    have hlen : i < σ1.length := by rw [J.len]; exact hil
    refine wpAny_mono (step.run [] s5 _ H1 { nx := fun σ6 H6 => σ6 = (σ1.set i (some (.ref a))).set j (some (.ref a)) ∧ H6 = H1, rt := fun _ _ => False } S5 ⟨.ref a, by rw [List.getElem?_set_self hlen], rfl, rfl⟩) (fun f s6 hsp => ?_) (fun _ _ z => False.elim z)
    cases f with
    | next =>
      obtain ⟨σ6, H6, S6, rfl, rfl⟩ := hsp
      have U : Inv X ((a, o4) :: pins) ((σ1.set i (some (.ref a))).set j (some (.ref a))) H6 s6 := ⟨ok, S6.os, S6.bare, S6.base, S6.loc, S6.cell, S6.free, S6.freeC, fun q hq => S6.pin q (List.mem_append_left _ (by
        rcases List.mem_append.mp hq with z | z
        · exact List.mem_cons_of_mem _ (List.mem_append_left _ z)
        · rcases List.mem_cons.mp z with z | z
          · rw [z]; exact List.mem_cons_self
          · exact List.mem_cons_of_mem _ (List.mem_append_right _ z))), S6.hok, S6.len⟩
      refine gone_ok U hN hi hln fun s7 J7 => ?_
      refine ⟨_, _, track J7 z4 d4 new0 (fun q hq z => ?_), hyes a na⟩
      have e := (J.pin q hq).1
      rw [z, newI] at e
      cases e
    | brk =>
      obtain ⟨_, _, _, q⟩ := hsp
      exact False.elim q
    | cont =>
      obtain ⟨_, _, _, q⟩ := hsp
      exact False.elim q
    | ret u =>
      obtain ⟨_, _, _, _, _, q⟩ := hsp
      exact False.elim q
  · cases f with
    | next =>
      obtain ⟨σ', H', J', q⟩ := hsp
      exact wpAny_execs_nil ⟨σ', H', J'.ofTry ok, q⟩
    | brk =>
      obtain ⟨σ', H', J', q⟩ := hsp
      exact ⟨σ', H', J'.ofTry ok, q⟩
    | cont =>
      obtain ⟨σ', H', J', q⟩ := hsp
      exact ⟨σ', H', J'.ofTry ok, q⟩
    | ret u =>
      obtain ⟨v, σ', H', J', r, q⟩ := hsp
      exact ⟨v, σ', H', J'.ofTry ok, r, q⟩
end
end Fm
end FFmTry
section FFmExc
set_option Elab.async false
set_option linter.all false
set_option maxRecDepth 100000
set_option maxHeartbeats 2000000
namespace Fm
open PySem PySem.Spec PyProof.Rows L2
/-- an error class of the program, straight under MeetError at M -/
structure Exn (K : PySem.W.Frag) (mg : Str → Option Value) (x : Str) (C M : Addr) : Prop where
  g : mg x = some (.ref C)
  e : PySem.W.excIn K C [.type "ValueError", .type "Exception", .type "BaseException", .type "object"] "ValueError.__new__" = true
  k : PySem.W.keepIn K (.ref C) = true
  b : PySem.W.subIn K (.ref C) (.type "BaseException") = some true
  t : PySem.W.typeIn K (.ref C) = some (.type "type")
  c : ExcC K C
  m : PySem.W.exmOne K (.ref C) (.ref M) = some true
/-- isinstance(e, c), e a kept error -/
def rIsK (K : PySem.W.Frag) (D : Addr) : List V → Hp → VK → Prop := fun xs H Q => ∃ (a : Addr) (c : V) (u : Value) (b : Bool), xs = [.ref a, c] ∧ H a = some (ExK (.ref D) none a) ∧ ClsV c u ∧ PySem.W.kitOne K (.ref D) u = some b ∧ Q (.bl b) H
def rIsKT (K : PySem.W.Frag) (D : Addr) : List V → Hp → VK → Prop := fun xs H Q => ∃ (a tp : Addr) (cs : List V) (us : List Value) (b : Bool), xs = [.ref a, .ref tp] ∧ H a = some (ExK (.ref D) none a) ∧ H tp = some (.tup cs) ∧ Paired ClsV cs us ∧ PySem.W.kitAny K (.ref D) us = some b ∧ Q (.bl b) H
section
variable {X : Cx} {D : Addr}
theorem kept_inst {pins : List (Addr × Obj)} {σ : L2.St} {H : Hp} {s : Shared} {a : Addr} (I : Inv X pins σ H s) (h : H a = some (ExK (.ref D) none a)) : ∃ oe, PySem.W.InstAt s.heap a oe D none := by
  obtain ⟨⟨oe, vs, hg, hz, hv⟩, _, _⟩ := I.hok a _ h
  obtain ⟨oc, od, oda, osl⟩ := oe
  obtain ⟨h1, h2⟩ := hz
  dsimp only at h1 h2 hv
  subst h1 h2 hv
  exact ⟨_, hg, rfl, rfl, trivial⟩
theorem call_isK (C : ExcC X.K D) : CallR X (.builtin "isinstance") (rIsK X.K D) := by
  intro pins s σ H xs us Q I r h
  obtain ⟨a, c, u, b, rfl, ha, hc, e, q⟩ := h
  obtain ⟨u1, u2, rfl, r1, r2⟩ := vals2 r
  cases r1
  have e2 := hc.eq r2
  subst e2
  obtain ⟨oe, J⟩ := kept_inst I ha
  exact PySem.W.kia_one (PySem.W.handS_kitx_exc C.hg C.hk C.hs C.hd C.ha C.hn C.ht C.hm) I.kIn J e (fun z => nomatch z) fun tk => ⟨.bl b, H, I.tok tk, rfl, q⟩
theorem call_isKT (C : ExcC X.K D) : CallR X (.builtin "isinstance") (rIsKT X.K D) := by
  intro pins s σ H xs us Q I r h
  obtain ⟨a, tp, cs, ws, b, rfl, ha, hT, hc, e, q⟩ := h
  obtain ⟨u1, u2, rfl, r1, r2⟩ := vals2 r
  cases r1
  cases (show u2 = Value.ref tp from r2)
  obtain ⟨oe, J⟩ := kept_inst I ha
  obtain ⟨_, its, rv, o, h1, h2, n, h3⟩ := (show ObjOk X.prog X.w H s.heap tp (.tup cs) from I.hok tp _ hT)
  have e3 := ClsV.all hc rv
  subst e3
  obtain ⟨oc, od, dt, sl⟩ := o
  simp only at h2 h3
  subst h2 h3
  exact PySem.W.kia_tup (PySem.W.handS_kitx_exc C.hg C.hk C.hs C.hd C.ha C.hn C.ht C.hm) I.kIn J h1 e (fun z => nomatch z) fun tk => ⟨.bl b, H, I.tok tk, rfl, q⟩
end
/-- raise C('..') of such a class -/
theorem ps_raiseE {X : Cx} {W : WX} {x m : Str} {C M : Addr} {j : Nat} {p p2 p3 pos : Pos} (hc : X.calm = true) (tk : Takes X W) (E : Exn X.K X.mg x C M) (hg : Gl X x) (hd : (x == ("__debug__" : Str)) = false := by decide) :
    PS X (.Raise (some (.Call (.Name x p) [.Constant (.str m) j p2] [] p3)) none pos) (fun _ σ H => W (.ref C) none σ H) :=
  ps_raise hc tk (pmk_own PySem.F.excBase_ValueError E.e E.g E.k (raises_own E.b E.t) hg hd)
/-- size's promise: C is NoHouse -/
def spSize (C : Addr) : Sp := fun vs H Q E => ∃ (v : V) (p : Addr) (d : PyData), vs = [v] ∧ Dat H p v d ∧ (∀ m n, HouseN m n d → ∀ q H', H q = none → H' q = some (.tup [.int m, .int n]) → Same H H' → Q (.ref q) H') ∧ (¬ HouseD d → E (.ref C) none H)
end Fm
end FFmExc
section FFmEnd
set_option Elab.async false
set_option linter.all false
set_option maxRecDepth 100000
set_option maxHeartbeats 2000000
namespace Fm
open PySem PySem.Spec PyProof.Rows L2
/-- a def's promise where no text is being made of anything around it, and nothing is raised -/
def RunG (P : Program) (w : World) (K : PySem.W.Frag) (mg : Str → Option Value) (base : Heap) (k : Nat) (f : Addr) (fd : FuncData) (ps : List Str) (sp : Sp) : Prop :=
  ∀ (A : Around) (outer : List Env) (s : Shared) (H : Hp) (args : Args) (us : List Value) (vs : List V) (Q : VK), A.guards = some [] → Room k A → Env0 P w K mg base A outer s H → BindsTo s fd args (ps.zip us) → Vals vs us → vs.length = ps.length → sp vs H Q E0 →
    codeAny (model P w) A (.call (.ref f) args) (fun r s' => ∃ u, r = .ok (.ret u) ∧ CE outer P w H s Q u s') s
theorem run_g {P : Program} {w : World} {K : PySem.W.Frag} {mg : Str → Option Value} {base : Heap} {x : Str} {st : Stmt} {f : Addr} {fd : FuncData} {N ps : List Str} {k : Nat} {sp : Sp} (F : Fun K x x st f fd) (S : FnScope N ps (defScope st))
    (b : ∀ (cdv : Value) (A : Around) (outer : List Env) (s : Shared) (H : Hp) (vs : List V) (Q : VK), (A.deeper (envOfC x (defScope st) s.heap.objs.size f cdv)).guards = some [] → Room k (A.deeper (envOfC x (defScope st) s.heap.objs.size f cdv)) → sp vs H Q E0 →
      ∃ t, PSs (cxOf CX0 P w K mg base N x (defScope st) f cdv A outer s H E0).nox (defBody st) t ∧ t { nx := fun _ H' => Q .non H', rt := Q } (start N vs) H) : RunG P w K mg base (k + 1) f fd ps sp := by
  obtain ⟨oc, od, kV, doc, pm, an, cdv, ct, osl, rfl, lk, hcd⟩ := F.ex
  intro A outer s H args us vs Q hg hr e0 hb r hl hsp
  have KX : K.In s.heap := e0.mod.kin.keeps fun c o e => (e0.bs c o e).1
  have nl : s.heap.NoLimit := e0.mod.nolimit.keeps fun c o e => (e0.bs c o e).1
  have kinds : ∀ z ∈ ps.zip us, (defScope st).names.lookup z.1 = some .local ∨ ((defScope st).names.lookup z.1 = some .cell ∧ ((cellsFrom (s.heap.objs.size + 1) (defScope st).names []).lookup z.1).isSome = true) := fun ⟨n, v⟩ hz => by
    rcases S.par n (List.of_mem_zip hz).1 with q | q
    · exact .inl q
    · exact .inr ⟨q, PySem.W.cellsFrom_some _ _ _ (.inl q)⟩
  refine codeAny_call_function hr.depth (KX _ _ lk) rfl S.co S.gen rfl (PySem.W.codeRec_of KX hcd) (hb _ _ _ _ ?_)
  refine wpAny_newFunctionEnv_cells S.kind kinds fun env he s1 y => ?_
  subst he
  refine ⟨nl.keeps y.toInCall.keep, codeAny_func ?_⟩
  obtain ⟨t, ht, hq⟩ := b cdv A outer s H vs Q hg (hr.deeper _) hsp
  have I := inv_start (CX := CX0) (P := P) (w := w) (qual := x) (f := f) (cd := cdv) (E := E0) S hr.hd e0 hl r y
  refine wpAny_mono (ht.nox.run [] s1 (start N vs) H _ I hq) (fun fl s' hs => ?_) (fun e s' hs => ?_)
  · cases fl with
    | ret u =>
      obtain ⟨v, σ', H', J, rv, q⟩ := hs
      exact ⟨u, rfl, v, H', J.os, J.bare, J.base, J.hok, rv, q⟩
    | next =>
      obtain ⟨σ', H', J, q⟩ := hs
      exact ⟨.none, rfl, .non, H', J.os, J.bare, J.base, J.hok, rfl, q⟩
    | brk =>
      obtain ⟨_, _, _, q⟩ := hs
      exact False.elim q
    | cont =>
      obtain ⟨_, _, _, q⟩ := hs
      exact False.elim q
  · exact wpAny_mono hs (fun _ _ z => False.elim z) fun _ _ z => False.elim z
/-- the law's call, at what the top has left -/
theorem end_g {P : Program} {w : World} {K : PySem.W.Frag} {mg mb : Str → Option Value} {k : Nat} {fa a : Addr} {fd : FuncData} {x : Str} {sp : Sp} {t : Shared} {vs : List Value} {ns : List Int}
    (KX : K.In t.heap) (g1 : t.heap.Ns mainGlobals mg) (g2 : t.heap.Ns builtinsNs mb) (g3 : ∀ y : Str, y ≠ "__name__" → mb y = bootBuiltins y) (g4 : t.heap.NoLimit) (g5 : t.gens = #[])
    (ha : t.heap.get? a = some { cls := .type "list", data := .seq vs.toArray }) (hi : IntsAre vs ns) (hl : ns.length ≤ sizeLine) (hr : Room k callerA)
    (F : ∀ base : Heap, K.In base → base.Ns mainGlobals mg → RunG P w K mg base k fa fd [x] sp) (hb : ∀ (s : Shared) (u : Value), BindsTo s fd ⟨[u], []⟩ [(x, u)])
    (hs : ∀ H : Hp, SqL K H a (ns.map V.int) → (∀ b, H b = none ∨ b = a) → sp [.ref a] H (fun v _ => v = .bl true) E0) :
    codeAny (model P w) callerA (.call (.ref fa) ⟨[.ref a], []⟩) (fun r s' => r = .ok (.ret (.bool true)) ∧ OldK t.heap s'.heap ∧ s'.os = t.os ∧ AllBare s'.gens) t := by
  have rv := vals_ints hi
  have lv := hi.length
  suffices core : ∀ H : Hp, SqL K H a (ns.map V.int) → HOk P w H t.heap → (∀ b, H b = none ∨ (b = a ∧ ∃ o us, H b = some (.frz o (.lst us)))) → (H a ≠ none → K.lookup a = none) →
      codeAny (model P w) callerA (.call (.ref fa) ⟨[.ref a], []⟩) (fun r s' => r = .ok (.ret (.bool true)) ∧ OldK t.heap s'.heap ∧ s'.os = t.os ∧ AllBare s'.gens) t by
    cases hk : K.lookup a with
    | some o =>
      have e := KX a o hk
      rw [ha] at e
      cases e
      exact core (fun _ => none) (.inr ⟨_, vs.toArray, _, hk, rfl, rfl, rfl, by rw [List.size_toArray, lv]; exact hl, by simpa using rv⟩) (fun b u z => by cases (show (none : Option HO) = some u from z)) (fun b => .inl rfl) fun z => absurd rfl z
    | none =>
      have at1 : ∀ b u, (if b = a then some (HO.frz { cls := .type "list", data := .seq vs.toArray } (.lst (ns.map V.int))) else none) = some u → b = a ∧ u = .frz { cls := .type "list", data := .seq vs.toArray } (.lst (ns.map V.int)) := fun b u z => by
        by_cases hba : b = a
        · rw [if_pos hba] at z
          exact ⟨hba, (Option.some.inj z).symm⟩
        · rw [if_neg hba] at z
          cases z
      refine core (fun b => if b = a then some (.frz { cls := .type "list", data := .seq vs.toArray } (.lst (ns.map V.int))) else none) (.inl (.inr ⟨{ cls := .type "list", data := .seq vs.toArray }, if_pos rfl⟩)) (fun b u z => ?_) (fun b => ?_) fun _ => hk
      · obtain ⟨rfl, rfl⟩ := at1 b u z
        exact ⟨ha, by rw [List.length_map]; exact hl, vs, _, rv, ha⟩
      · by_cases hba : b = a
        · exact .inr ⟨hba, _, _, if_pos hba⟩
        · exact .inl (if_neg hba)
  intro H hS hok hA hK
  have ex : ∀ {b : Addr} {u : HO}, H b = some u → b = a := fun {b u} e => by
    rcases hA b with z | ⟨z, _⟩
    · rw [e] at z
      cases z
    · exact z
  have off : ∀ {b : Addr} {o : Obj} {es : Array DictEntry} {ep : Nat}, t.heap.get? b = some o → o.data = .dict es ep → H b = none := fun {b o es ep} e d => by
    cases q : H b with
    | none => rfl
    | some u =>
      rw [ex q, ha] at e
      cases e
      cases (show Data.seq vs.toArray _ = Data.dict es ep from d)
  have ns : ∀ {b : Addr} {m : Str → Option Value}, t.heap.Ns b m → (hidT t.heap H).Ns b m := fun {b m} ⟨o, es, ep, e, d, r⟩ => ⟨o, es, ep, hidT_get e (off e d), d, r⟩
  have kin : K.In (hidT t.heap H) := fun b o e => hidT_get (KX b o e) (by
    cases q : H b with
    | none => rfl
    | some u =>
      have z := ex q
      subst z
      rw [hK (by rw [q]; exact fun y => by cases y)] at e
      cases e)
  have md : Mod K mg (hidT t.heap H) := ⟨kin, ns g1, ⟨mb, ns g2, g3⟩, let ⟨mc, y1, y2⟩ := g4; ⟨mc, ns y1, y2⟩⟩
  have e0 : Env0 P w K mg (hidT t.heap H) callerA [] t H := ⟨rfl, md, fun b o e => of_hidT e, Nat.le_of_eq (hidT_size _ _), trivial, fun b z => (by cases z), hok, .of_eq g5⟩
  refine codeAny_mono (F _ kin (ns g1) callerA [] t H ⟨[.ref a], []⟩ [.ref a] [.ref a] _ rfl hr e0 (hb t (.ref a)) (.cons rfl .nil) rfl (hs H hS fun b => (hA b).imp id fun z => z.1)) fun r s' h => ?_
  obtain ⟨u, rfl, v, H', os, bare, un, hok', r', q⟩ := h
  have q' : v = .bl true := q
  subst q'
  obtain rfl : u = Value.bool true := r'
  refine ⟨rfl, OldK.of_keep fun b o e => ?_, os, bare⟩
  rcases hA b with q | ⟨_, ob, us, q⟩
  · exact un.keep b o e q (by intro z; cases z) (by intro z; cases z)
  · obtain ⟨d1, _⟩ := hok b _ q
    obtain ⟨d2, _⟩ := hok' b _ (un.frzs b ob _ q)
    rw [e] at d1
    cases d1
    exact d2
/-- the goal that k_head leaves -/
theorem walk_g {l : PySem.W.OpenLaw} {n k : Nat} {q : Program} {loose : List Str} {XP : (Str → Option Value) → Heap → Prop} {YP : World → Heap → Prop} {d : DefRec} {K : Params → PySem.W.Frag} {sp : PySem.W.Frag → Sp} {x : Str}
    (hn : l.most = some n) (hn2 : n ≤ sizeLine) (hdf : d.params.defaults = []) (hr : Room k callerA) (hY : ∀ (w : World) (h : Heap), YP w h → (K w.params).In h)
    (F : ∀ (w : World) (mg : Str → Option Value) (fa : Addr) (h : Heap), (K w.params).In h → h.Ns mainGlobals mg → mg d.name = some (.ref fa) →
      ∃ fd : FuncData, (∀ (s : Shared) (u : Value), BindsTo s fd ⟨[u], []⟩ [(x, u)]) ∧ ∀ base : Heap, (K w.params).In base → base.Ns mainGlobals mg → RunG l.prog w (K w.params) mg base k fa fd [x] (sp (K w.params)))
    (hs : ∀ (K : PySem.W.Frag) (H : Hp) (a : Addr) (ns : List Int), ns.length ≤ n → SqL K H a (ns.map V.int) → (∀ b, H b = none ∨ b = a) → sp K [.ref a] H (fun v _ => v = .bl true) E0) :
    PySem.W.WalkO q loose XP YP l.row.toRowW d [] (fun f vs => PySem.call f vs) := by
  refine Att.attach_call hn hdf fun w s0 t mg mb fa o pm cd doc a vs ns G Y ho hd hcd hmg hobj hints hlen hg => ?_
  have KX := hY w _ Y
  obtain ⟨fd, hb, hF⟩ := F w mg fa _ KX G.T.g hmg
  exact end_g KX G.T.g G.T.b G.T.builtins G.T.nolimit hg hobj hints (Nat.le_trans hlen hn2) hr hF hb fun H h1 h2 => hs _ H a ns hlen h1 h2
end Fm
end FFmEnd
section FFmSeq
set_option Elab.async false
set_option linter.all false
set_option maxRecDepth 100000
set_option maxHeartbeats 4000000
namespace Fm
open PySem PySem.Spec PyProof.Rows L2 HT
theorem rev_adjust (n : Nat) : Builtin.Slice.sliceAdjust none none (-1) (n : Int) = ((n : Int) - 1, -1) := by
  unfold Builtin.Slice.sliceAdjust
  simp
theorem rev_places (n : Nat) : Builtin.Slice.slicePlaces ((n : Int) - 1) (-1) (-1) = n := by
  unfold Builtin.Slice.slicePlaces
  have h1 : ¬ ((-1 : Int) > 0) := by decide
  simp only [h1, if_false]
  have e : ((n : Int) - 1 - -1 - 1) / (- -1) = (n : Int) - 1 := by
    rw [show (- -1 : Int) = 1 by decide, Int.ediv_one]
    omega
  rw [e]
  split <;> omega
theorem fm_congr {α β : Type} {f g : α → Option β} : ∀ {l : List α}, (∀ x ∈ l, f x = g x) → l.filterMap f = l.filterMap g
  | [], _ => rfl
  | x :: r, h => by
    rw [List.filterMap_cons, List.filterMap_cons, h x List.mem_cons_self, fm_congr fun y hy => h y (List.mem_cons_of_mem _ hy)]
theorem rev_pick (xs : Array Value) : ((List.range xs.size).filterMap fun (m : Nat) => xs[((xs.size : Int) - 1 + (m : Int) * -1).toNat]?).toArray = xs.toList.reverse.toArray := by
  congr 1
  have h := PySem.W.krv_all xs
  rw [← h, ← List.filterMap_reverse, ← PySem.W.krv_range, List.filterMap_map]
  apply fm_congr
  intro m hm
  have := List.mem_range.mp hm
  have e : ((xs.size : Int) - 1 + (m : Int) * -1).toNat = xs.size - 1 - m := by omega
  rw [e]
  rfl
section
variable {prog : Program} {w : World} {A : Around} {E : Value → Shared → Prop} {s : Shared}
theorem rev_applied {sl : Addr} {vs : Value} {n : Nat} {Q : Int × Int × Nat → Shared → Prop} (hs : s.heap.IsSliceOf sl .none .none vs) (ps : IsPart vs (some (-1))) (h : Q ((n : Int) - 1, -1, n) s) :
    wpAny (model prog w) A (Builtin.Slice.sliceApplied (.ref sl) (pure (n : Int))) Q E s := by
  obtain ⟨os, hos, hcs, hds⟩ := id hs
  unfold Builtin.Slice.sliceApplied Builtin.Slice.sliceFields
  refine wpAny_bind (wpAny_bind (wpAny_field hos hds (x := .none) rfl (wpAny_bind (wpAny_field hos hds (x := .none) rfl (wpAny_bind (wpAny_field hos hds (x := vs) rfl (wpAny_pure ?_)))))))
  refine wpAny_bind (slicePart_ ps ?_)
  show wpAny _ _ (if ((-1 : Int) == 0) = true then _ else _) _ _ s
  rw [if_neg (by decide)]
  refine wpAny_bind (slicePart_none (wpAny_bind (slicePart_none (wpAny_bind (wpAny_pure ?_)))))
  show wpAny _ _ (match Builtin.Slice.sliceAdjust none none (-1) (n : Int) with | (lo, hi) => pure (lo, (-1 : Int), Builtin.Slice.slicePlaces lo hi (-1))) _ _ s
  rw [rev_adjust]
  show wpAny _ _ (pure ((n : Int) - 1, (-1 : Int), Builtin.Slice.slicePlaces ((n : Int) - 1) (-1) (-1))) _ _ s
  rw [rev_places]
  exact wpAny_pure h
theorem rev_item {t sl : Addr} {items : Array Value} {vs : Value} {Q : Value → Shared → Prop} (ht : IsTup s.heap t items) (hs : s.heap.IsSliceOf sl .none .none vs) (ps : IsPart vs (some (-1)))
    (h : Q (.ref s.heap.objs.size) { s with heap := s.heap.push { cls := .type "tuple", data := .seq items.toList.reverse.toArray } }) (hsz : items.size ≤ sizeLine) : wpAny (model prog w) A (getItem (.ref t) (.ref sl)) Q E s := by
  have ok : sizeOk (.seq items.toList.reverse.toArray) := by
    show items.toList.reverse.toArray.size ≤ sizeLine
    rw [List.size_toArray, List.length_reverse, Array.length_toList]
    exact hsz
  obtain ⟨os, hos, hcs, hds⟩ := id hs
  have tS : s.TypeIs (.ref sl) "slice" := ⟨os, hos, hcs⟩
  unfold getItem
  try with_reducible refine wpAny_holding ?_
  first | refine wpAny_bind (wpAny_pure ?_) | skip
  refine wpAny_bind (wpAny_sequenceKey ht.typeIs (by decide) ?_)
  refine wpAny_bind (wpAny_callSpecial?_slot (name := Str.ofString "__getitem__") ht.typeIs PyProof.Rows.slot_tuple_getitem
    (wpAny_call_entry PyProof.Rows.slot_tuple_getitem ht.typeIs entry_tuple_getitem ?_ (args_tuple_getitem _ _)))
  show wpAny _ _ (Builtin.Tuple.tupleItemsOf (.ref t) >>= _) _ _ s
  refine wpAny_bind (tupleItemsOf_ ht (wpAny_bind (wpAny_typeOf tS ?_)))
  rw [if_pos (by decide)]
  refine wpAny_bind (rev_applied hs ps ?_)
  have no : ¬ ((((items.size : Int) - 1) == 0 && (-1 : Int) == 1 && items.size == items.size) = true) := by
    rw [show ((-1 : Int) == 1) = false by decide, Bool.and_false, Bool.false_and]
    exact Bool.false_ne_true
  show wpAny _ _ (if (((items.size : Int) - 1) == 0 && (-1 : Int) == 1 && items.size == items.size) = true then _ else _) _ _ s
  rw [if_neg no, rev_pick]
  first
    | exact wpAny_bind (m := Builtin.Tuple.tupleExact _) (wpAny_newObj_type (wpAny_pure ⟨_, rfl, wpAny_pure h⟩) ok)
    | exact wpAny_bind (m := Builtin.Tuple.tupleExact _) (wpAny_newObj_type (wpAny_bind (wpAny_pure (wpAny_pure ⟨_, rfl, wpAny_pure h⟩))) ok)
    | exact wpAny_bind (wpAny_bind (m := Builtin.Tuple.tupleExact _) (wpAny_newObj_type (wpAny_pure (wpAny_pure ⟨_, rfl, wpAny_pure h⟩)) ok))
    | exact wpAny_bind (wpAny_bind (m := Builtin.Tuple.tupleExact _) (wpAny_newObj_type (wpAny_pure ⟨_, rfl, wpAny_pure h⟩) ok))
end
/-- t[::-1], a tuple -/
def tRevT (K : PySem.W.Frag) (te : TE) : TE := fun σ H Q => te σ H fun x H1 => ∃ a xs, x = .ref a ∧ SqT K H1 a xs ∧ ∀ p, H1 p = none → Q (.ref p) (upd H1 p (.tup xs.reverse))
theorem pe_REV {X : Cx} {e : Expr} {te : TE} {k : Nat} {p1 p2 p3 pos : Pos} (he : PE X e te) : PE X (.Subscript e (.Slice none none (some (.UnaryOp .USub (.Constant (.int 1) k p1) p2)) p3) pos) (tRevT X.K te) := by
  refine ⟨fun pins s σ H Q I h => ?_⟩
  refine Subscript_ (thn (he.run pins s σ H _ I h) fun v s1 ⟨x, H1, I1, r1, q1⟩ => ?_)
  obtain ⟨a, xs, ex, hx, q⟩ := q1
  subst ex
  cases r1
  have st : PO X (some (.UnaryOp .USub (.Constant (.int 1) k p1) p2)) (tPart (tUn (rU fun i => .int (-i)) (tC (.int 1)))) := po_some (pe_un un_neg pe_int)
  refine wpAny_Slice (thn (po_none.run pins s1 σ H1 (fun o H2 => o = none ∧ H2 = H1) I1 ⟨rfl, rfl⟩) fun vl s2 ⟨l, H2, I2, pl, el, e2⟩ => ?_)
  subst el e2
  refine thn (po_none.run pins s2 σ H2 (fun o H3 => o = none ∧ H3 = H2) I2 ⟨rfl, rfl⟩) fun vu s3 ⟨u, H3, I3, pu, eu, e3⟩ => ?_
  subst eu e3
  refine thn (st.run pins s3 σ H3 (fun o H4 => o = some (-1) ∧ H4 = H3) I3 ⟨1, rfl, -1, rfl, rfl, rfl⟩) fun vs s4 ⟨o, H4, I4, ps, eo, e4⟩ => ?_
  subst eo e4
  have I5 : Inv X pins σ H4 { s4 with heap := s4.heap.push { cls := .type "slice", data := .fields #[vl, vu, vs] } } := I4.kept (t' := s4.toks) fun b ob q => Heap.get?_push_of_some _ q
  obtain ⟨its, r, ht, hz⟩ := I5.tuple hx
  cases pl
  cases pu
  show wpAny (model X.prog X.w) X.A (subscriptTail e (.Slice none none (some (.UnaryOp .USub (.Constant (.int 1) k p1) p2)) p3) (.ref a) (.ref s4.heap.objs.size)) (EP X pins σ Q) X.xe { s4 with heap := s4.heap.push { cls := .type "slice", data := .fields #[.none, .none, vs] } }
  refine tail_any (ops := [.ref a, .ref s4.heap.objs.size]) ht.typeIs (PyProof.Rows.slot_tuple_getitem.lookup) ?_ (by with_unfolding_all rfl)
  refine rev_item ht (Heap.IsSliceOf.new _ .none .none vs) ps ?_ (by rw [List.size_toArray, ← r.length]; exact hz)
  refine ⟨.ref _, _, I5.laid (t' := s4.toks) (o := .tup xs.reverse) (fun b ob q => Heap.get?_push_of_some _ q) (Nat.le_refl _) ?_, rfl, q _ (I5.hok.fresh (Nat.le_refl _))⟩
  exact ⟨by rw [List.length_reverse]; exact hz, _, r.reverse, IsTup.new _ _⟩
/-- a tuple once -/
theorem once_meets (l : Addr) (items : Array Value) (n : Nat) (dd : Option Addr) (sl : Array (Option Value)) (u : Tok) :
    Meets (Builtin.«tuple.__mul__» ⟨[.ref l, .int 1 u], []⟩) (fun _ R s => s.heap.get? l = some { cls := .type "tuple", dict := dd, data := .seq items n, slots := sl } ∧ R (.ok (.ret (.ref l))) s) :=
  .of_wp fun prog w A R s h => by
    obtain ⟨hp, g, d, tk, os⟩ := s
    obtain ⟨hl, h⟩ := h
    have f1 := AutoSeq1.idx_int
    have c1 : (items.isEmpty || (1 : Int) == 1) = true := by simp
    wp_walk using wpAny_loadPart' hl
    repeat (first
      | (refine wpAny_ite_true (decide_eq_true c1) ?_; wp_walk using wpAny_loadPart' hl)
      | (refine wpAny_ite_true c1 ?_; wp_walk using wpAny_loadPart' hl))
    exact ⟨_, rfl, h⟩
def rOnce (K : PySem.W.Frag) : R2 := fun x y H Q => ∃ l xs, x = .ref l ∧ y = .int 1 ∧ SqT K H l xs ∧ Q (.ref l) H
theorem op_once {X : Cx} : OpR X (binaryOp .Mult) (rOnce X.K) := by
  intro pins s σ H x y v u Q I rx ry h
  obtain ⟨l, xs, rfl, rfl, hT, q⟩ := h
  cases rx
  obtain ⟨t, rfl⟩ := ry
  obtain ⟨its, r, ⟨⟨cls, dd, data, sl⟩, ho, hc, n, hd⟩, hs⟩ := I.tuple hT
  simp only at hc hd
  subst hc hd
  refine wpAny_binaryOp_repeat_ref (T := "tuple") (U := "int") (by decide) ⟨_, ho, rfl⟩ (fun s' => typeIs_int s' 1 t) noFill_tuple_mul F.fills_int_mul F.slot_int_rmul repeat_tuple F.slot_int_index.lookup
    (call_meets F.slot_int_rmul (typeIs_int s 1 t) F.entry_int_rmul (F.args_int_rmul_2 _ _) (int_rmul_tuple 1 t l its.toArray n dd sl)
      ⟨ho, rfl, ⟨_, ho, rfl⟩, call_meets F.slot_tuple_mul ⟨_, ho, rfl⟩ F.entry_tuple_mul (F.args_tuple_mul_2 _ _) (once_meets l its.toArray n dd sl t) ⟨ho, ⟨.ref l, H, I, rfl, q⟩⟩⟩)
/-- t * k, k one or more -/
def rTimes (K : PySem.W.Frag) : R2 := fun x y H Q => rOnce K x y H Q ∨ rRepT K x y H Q
theorem op_times {X : Cx} : OpR X (binaryOp .Mult) (rTimes X.K) := op_once.or op_repT
def rLenS (K : PySem.W.Frag) : List V → Hp → VK → Prop := fun xs H Q => ∃ p ys, xs = [.ref p] ∧ (SqL K H p ys ∨ SqT K H p ys) ∧ Q (.int ys.length) H
theorem call_lenS {X : Cx} : CallR X (.builtin "len") (rLenS X.K) := call_len_seq
def rTupOf (K : PySem.W.Frag) : List V → Hp → VK → Prop := fun xs H Q => ∃ p ys, xs = [.ref p] ∧ ((SqL K H p ys ∧ ∀ l, H l = none → Q (.ref l) (upd H l (.tup ys))) ∨ (SqT K H p ys ∧ Q (.ref p) H))
theorem call_tupOf {X : Cx} : CallR X (.type "tuple") (rTupOf X.K) := call_tuple_of
def rLstOf (K : PySem.W.Frag) : List V → Hp → VK → Prop := fun xs H Q => ∃ p ys, xs = [.ref p] ∧ (SqL K H p ys ∨ SqT K H p ys) ∧ ∀ l, H l = none → Q (.ref l) (upd H l (.lst ys))
theorem call_lstOf {X : Cx} : CallR X (.type "list") (rLstOf X.K) := call_list_of
end Fm
end FFmSeq
section FQ1
set_option Elab.async false
set_option linter.all false
set_option maxRecDepth 100000
set_option maxHeartbeats 4000000
local macro_rules | `(tactic| walk_at "ne") => `(tactic| first | assumption | (apply Ne.symm; assumption) | exact L2.ne_of_none (by assumption) (by assumption) | exact Ne.symm (L2.ne_of_none (by assumption) (by assumption)))
local macro_rules | `(tactic| walk_at "hl") => `(tactic| first | assumption | exact L2.upd_same | (refine Eq.trans (L2.upd_ne (by walk_at "ne")) ?_; walk_at "hl"))
local macro_rules | `(tactic| walk_at "sd") => `(tactic| first | (with_reducible show (_ : Int) < _; omega) | (with_reducible show (_ : Int) ≤ _; omega) | assumption | decide | exact ⟨by assumption, by assumption⟩ | exact ⟨by decide, by decide⟩ | exact Or.inr ⟨by decide, by decide⟩ | exact Or.inl ⟨by omega, by omega⟩ | rfl)
local macro_rules | `(tactic| walk_at "st1") => `(tactic| first
  | refine ⟨_, rfl, ?_⟩
  | refine ⟨_, _, rfl, rfl, ?_⟩
  | refine ⟨_, _, rfl, ?_⟩
  | (refine ⟨_, _, _, _, rfl, rfl, L2.SqL.of (by walk_at "hl"), rfl, ?_⟩)
  | (refine ⟨_, _, _, _, rfl, rfl, L2.SqT.of (by walk_at "hl"), rfl, ?_⟩)
  | (refine ⟨_, _, _, _, rfl, rfl, (by walk_at "hl"), rfl, ?_⟩)
  | (refine And.intro (by walk_at "sd") ?_)
  )
local macro_rules | `(tactic| walk_at "st") => `(tactic| repeat walk_at "st1")
local macro_rules | `(tactic| walk_at "op") => `(tactic| try dsimp only [L2.tSeq, L2.tAsg, L2.tOp, L2.tVar, L2.tC, L2.gSub, L2.rI, L2.rI0, L2.rIxL, L2.rIxT, L2.rSetL, L2.tIfS, L2.tTest, L2.tRet, L2.gName, L2.tNext, L2.tAnd, L2.tOr, L2.tNot, L2.tAndV, L2.tOrV, L2.tNotV, L2.tB, L2.tCB, L2.tCons, L2.tNil, L2.tCall, L2.tTup, L2.tLst, L2.tChain, L2.tUn, L2.tPar, L2.tDrop, L2.tIf, L2.tBM, L2.tBM0, L2.rAppend, L2.rCat, L2.rIsi, L2.rIsiT, L2.gTup, L2.gCons, L2.gNil, Fm.tFor_eq, Fm.tLc_eq, L2.iTup, L2.iList, L2.iRng1, L2.iRng2, L2.tSl, L2.tPart, L2.tNoPart, L2.rSlL, L2.rEq, L2.rNe, L2.rU, L2.rEqD, L2.rNeD, Fm.tRevT, Fm.rLenS, Fm.rTupOf, Fm.rLstOf, L2.tDNewK, L2.tCallS, L2.WE, Fm.wKeep, Fm.rIsK, Fm.rIsKT, List.cons_append, List.nil_append, L2.tYes])
namespace Fm
open PySem PySem.Spec PyProof.Rows L2
def top (i : Nat) : Stmt := PySem.Challenge.pw_floormeet_k02_what_a_standing_is.main.body.getD i (.Pass ⟨0, 0, 0, 0⟩)
abbrev s_is_whole : Stmt := top 1
abbrev N_is_whole : List Str := ["thing"]
theorem sc_is_whole : FnScope N_is_whole ["thing"] (defScope s_is_whole) := ⟨rfl, rfl, rfl, by decide +kernel, rfl, by decide +kernel, by decide +kernel⟩
abbrev s_is_up_to : Stmt := top 2
abbrev N_is_up_to : List Str := ["thing", "most"]
theorem sc_is_up_to : FnScope N_is_up_to ["thing", "most"] (defScope s_is_up_to) := ⟨rfl, rfl, rfl, by decide +kernel, rfl, by decide +kernel, by decide +kernel⟩
abbrev s_is_tuple_of : Stmt := top 3
abbrev N_is_tuple_of : List Str := ["thing", "many"]
theorem sc_is_tuple_of : FnScope N_is_tuple_of ["thing", "many"] (defScope s_is_tuple_of) := ⟨rfl, rfl, rfl, by decide +kernel, rfl, by decide +kernel, by decide +kernel⟩
abbrev s_are_up_to : Stmt := top 4
abbrev N_are_up_to : List Str := ["thing", "many", "most", "number"]
theorem sc_are_up_to : FnScope N_are_up_to ["thing", "many", "most"] (defScope s_are_up_to) := ⟨rfl, rfl, rfl, by decide +kernel, rfl, by decide +kernel, by decide +kernel⟩
section
variable {P : Program} {w : World} {K : PySem.W.Frag} {mg : Str → Option Value} {base : Heap}
theorem ok_is_whole (D : Df K mg "is_whole" s_is_whole ["thing"]) (T : Nms mg) : CallOk P w K mg base CX0 1 "is_whole" ["thing"] spWhole := by
  refine df_ok D sc_is_whole (fun vs H Q E h => ?_) (fun f cdv A outer s H vs Q E hr h => ?_)
  · obtain ⟨v, p, d, rfl, _⟩ := h
    rfl
  · obtain ⟨v, p, d, rfl, hd, k⟩ := h
    have nd := sc_is_whole.nd
    refine ⟨_, (pss_one (ps_ret (pe_and (pe_callB (r := rIsi K) call_isi (by rfl) T.n_isinstance (by decide +kernel) (pa_cons (pv 0) (pa_cons (pe_bltn (v := .ty "int") (by rfl) T.n_int (by decide +kernel) rfl) pa_nil))) (pe_one (pe_not (pe_callB (r := rIsi K) call_isi (by rfl) T.n_isinstance (by decide +kernel) (pa_cons (pv 0) (pa_cons (pe_bltn (v := .ty "bool") (by rfl) T.n_bool (by decide +kernel) rfl) pa_nil)))))))), ?_⟩
    walk_at "op"
    walk_at "st"
    refine ⟨_, _, _, _, _, rfl, .ty _, hd.ty, kit_ty (kit_int d), ?_⟩
    walk_at "st"
    refine ite2 (fun c1 => ?_) (fun c1 => ?_)
    · walk_at "st"
      refine ⟨_, _, _, _, _, rfl, .ty _, hd.ty, kit_ty (kit_bool d), ?_⟩
      walk_at "st"
      refine k _ ?_
      cases d <;> simp_all [isI, isB]
    · refine k _ ?_
      cases d <;> simp_all [isI, isB]
theorem ok_is_up_to (D : Df K mg "is_up_to" s_is_up_to ["thing", "most"]) (T : Nms mg) (c_is_whole : CallOk P w K mg base CX0 1 "is_whole" ["thing"] spWhole) : CallOk P w K mg base CX0 2 "is_up_to" ["thing", "most"] spUpTo := by
  refine df_ok D sc_is_up_to (fun vs H Q E h => ?_) (fun f cdv A outer s H vs Q E hr h => ?_)
  · obtain ⟨v, mv, p, d, rfl, _⟩ := h
    rfl
  · obtain ⟨v, mv, p, d, rfl, hd, hm, k⟩ := h
    have nd := sc_is_up_to.nd
    refine ⟨_, (pss_cons (ps_if (PW.pt (pw_or (pt_not (pt_val (pe_cc c_is_whole (hr.mono (by omega)) (pa_cons (pv 0) pa_nil)))) (pw_or1 (pt_cmpR op_lt (pv 0) pe_int (nomark _))))) (pss_one (ps_ret pe_bl)) pss_nil)
      (pss_one (ps_ret (pe_or (pe_cmpR op_isN (pv 1) pe_non (nomark _)) (pe_one (pe_cmpR op_le (pv 0) (pv 1) (nomark _))))))), ?_⟩
    walk_at "op"
    walk_at "st"
    refine ⟨v, p, d, rfl, hd, fun b hb => ?_⟩
    walk_at "st"
    cases b with
    | false =>
      refine iteT (iteT (k false ⟨fun z => Bool.noConfusion z, fun ⟨i, e, _⟩ => hb.mpr ⟨i, e⟩⟩))
    | true =>
      obtain ⟨i, rfl⟩ := hb.mp rfl
      obtain rfl := hd.isInt
      refine iteF ?_
      walk_at "st"
      refine ite2 (fun c0 => ?_) (fun c0 => ?_)
      · refine k false ⟨fun z => Bool.noConfusion z, fun ⟨j, e, h0, _⟩ => ?_⟩
        cases e
        have := of_decide_eq_true c0
        omega
      · have c1 : 0 ≤ i := by
          have := of_decide_eq_false (Bool.eq_false_iff.mpr c0)
          omega
        walk_at "st"
        rcases hm with rfl | ⟨M, rfl⟩
        · refine iteT (k true ⟨fun _ => ⟨i, rfl, c1, fun M z => by cases z⟩, fun _ => rfl⟩)
        · refine iteF ?_
          walk_at "st"
          refine k _ ⟨fun z => ⟨i, rfl, c1, fun N e => ?_⟩, fun ⟨j, e, _, hM⟩ => ?_⟩
          · cases e
            exact of_decide_eq_true z
          · cases e
            exact decide_eq_true (hM M rfl)
theorem ok_is_tuple_of (D : Df K mg "is_tuple_of" s_is_tuple_of ["thing", "many"]) (T : Nms mg) : CallOk P w K mg base CX0 1 "is_tuple_of" ["thing", "many"] spTupOf := by
  refine df_ok D sc_is_tuple_of (fun vs H Q E h => ?_) (fun f cdv A outer s H vs Q E hr h => ?_)
  · obtain ⟨v, n, p, d, rfl, _⟩ := h
    rfl
  · obtain ⟨v, n, p, d, rfl, hd, k⟩ := h
    have nd := sc_is_tuple_of.nd
    refine ⟨_, (pss_one (ps_ret (pe_and (pe_callB (r := rIsi K) call_isi (by rfl) T.n_isinstance (by decide +kernel) (pa_cons (pv 0) (pa_cons (pe_bltn (v := .ty "tuple") (by rfl) T.n_tuple (by decide +kernel) rfl) pa_nil))) (pe_one (pe_cmpR op_eq (pe_callB (r := rLenS K) call_lenS (by rfl) T.n_len (by decide +kernel) (pa_cons (pv 0) pa_nil)) (pv 1) (nomark _)))))), ?_⟩
    walk_at "op"
    walk_at "st"
    refine ⟨_, _, _, _, _, rfl, .ty _, hd.ty, kit_ty (kit_tuple d), ?_⟩
    walk_at "st"
    refine ite2 (fun c1 => ?_) (fun c1 => ?_)
    · obtain ⟨ds, rfl⟩ := isTu_iff.mp c1
      obtain ⟨a, xs, rfl, ha, _, hs⟩ := hd.isTup
      walk_at "st"
      refine ⟨_, _, rfl, .inr (SqT.of ha), ?_⟩
      walk_at "st"
      refine k _ ⟨fun z => ⟨ds, rfl, ?_⟩, fun ⟨es, e, z⟩ => ?_⟩
      · have := of_decide_eq_true z
        cases this
        rw [hs.1]
      · cases e
        rw [← hs.1] at z
        exact decide_eq_true (by rw [z])
    · exact k false ⟨fun z => Bool.noConfusion z, fun ⟨ds, e, _⟩ => absurd (isTu_iff.mpr ⟨ds, e⟩) c1⟩
theorem ok_are_up_to (D : Df K mg "are_up_to" s_are_up_to ["thing", "many", "most"]) (T : Nms mg) (c_is_tuple_of : CallOk P w K mg base CX0 1 "is_tuple_of" ["thing", "many"] spTupOf)
    (c_is_up_to : CallOk P w K mg base CX0 2 "is_up_to" ["thing", "most"] spUpTo) : CallOk P w K mg base CX0 3 "are_up_to" ["thing", "many", "most"] spAre := by
  refine df_ok D sc_are_up_to (fun vs H Q E h => ?_) (fun f cdv A outer s H vs Q E hr h => ?_)
  · obtain ⟨v, mv, n, p, d, rfl, _⟩ := h
    rfl
  · obtain ⟨v, mv, n, p, d, rfl, hd, hm, k⟩ := h
    have nd := sc_are_up_to.nd
    refine ⟨_, (pss_cons (ps_if (pt_not (pt_val (pe_cc c_is_tuple_of (hr.mono (by omega)) (pa_cons (pv 0) (pa_cons (pv 1) pa_nil))))) (pss_one (ps_ret pe_bl)) pss_nil)
      (pss_cons (ps_for PassesOwn.never rfl (pi_tup (pv 0)) (pg_name (i := 3) nd rfl (Or.inl rfl)) (pss_one (ps_if (pt_not (pt_val (pe_cc c_is_up_to (hr.mono (by omega)) (pa_cons (pv 3) (pa_cons (pv 2) pa_nil))))) (pss_one (ps_ret pe_bl)) pss_nil)))
      (pss_one (ps_ret pe_bl)))), ?_⟩
    walk_at "op"
    walk_at "st"
    refine ⟨v, n, p, d, rfl, hd, fun b hb => ?_⟩
    walk_at "st"
    cases b with
    | false =>
      refine iteT (k false ⟨fun z => Bool.noConfusion z, fun ⟨ds, e, hl, _⟩ => hb.mpr ⟨ds, e, hl⟩⟩)
    | true =>
      obtain ⟨ds, rfl, hl⟩ := hb.mp rfl
      obtain ⟨a, xs, rfl, ha, _, hs⟩ := hd.isTup
      refine iteF ?_
      walk_at "st"
      refine ⟨⟨_, SqT.of ha⟩, fT (xs := xs) (fun i σ H' => H' = H ∧ (∃ u, σ = [some (.ref a), some (.int n), some mv, u]) ∧ ∀ j e, j < i → ds[j]? = some e → UpTo mv e)
        ⟨rfl, ⟨none, rfl⟩, fun j e hj => absurd hj (Nat.not_lt_zero j)⟩ (fun i σ H' _ ⟨e, _⟩ => by rw [e]; exact SqT.of ha) ?_ ?_⟩
      · rintro i x σ H' hx ⟨rfl, ⟨u, rfl⟩, hi⟩
        obtain ⟨e, he, hde⟩ := hs.at hx
        walk_at "op"
        walk_at "st"
        refine ⟨x, mv, p, e, rfl, hde, hm, fun b hb => ?_⟩
        walk_at "st"
        cases b with
        | false =>
          refine iteT (k false ⟨fun z => Bool.noConfusion z, fun ⟨es, e1, _, h2⟩ => ?_⟩)
          cases e1
          exact hb.mpr (h2 e (List.mem_of_getElem? he))
        | true =>
          refine iteF ⟨rfl, ⟨_, rfl⟩, fun j e' hj he' => ?_⟩
          by_cases hji : j = i
          · subst hji
            rw [he] at he'
            cases he'
            exact hb.mp rfl
          · exact hi j e' (by omega) he'
      · rintro σ H' ⟨rfl, _, hi⟩
        walk_at "op"
        refine k true ⟨fun _ => ⟨ds, rfl, hl, fun e he => ?_⟩, fun _ => rfl⟩
        obtain ⟨j, hj⟩ := List.getElem?_of_mem he
        exact hi j e (by rw [hs.1]; exact (List.getElem?_eq_some_iff.mp hj).1) hj

end
end Fm
end FQ1
section FQ2
set_option Elab.async false
set_option linter.all false
set_option maxRecDepth 100000
set_option maxHeartbeats 4000000
local macro_rules | `(tactic| walk_at "ne") => `(tactic| first | assumption | (apply Ne.symm; assumption) | exact L2.ne_of_none (by assumption) (by assumption) | exact Ne.symm (L2.ne_of_none (by assumption) (by assumption)))
local macro_rules | `(tactic| walk_at "hl") => `(tactic| first | assumption | exact L2.upd_same | (refine Eq.trans (L2.upd_ne (by walk_at "ne")) ?_; walk_at "hl"))
local macro_rules | `(tactic| walk_at "sd") => `(tactic| first | (with_reducible show (_ : Int) < _; omega) | (with_reducible show (_ : Int) ≤ _; omega) | assumption | decide | exact ⟨by assumption, by assumption⟩ | exact ⟨by decide, by decide⟩ | exact Or.inr ⟨by decide, by decide⟩ | exact Or.inl ⟨by omega, by omega⟩ | rfl)
local macro_rules | `(tactic| walk_at "st1") => `(tactic| first
  | refine ⟨_, rfl, ?_⟩
  | refine ⟨_, _, rfl, rfl, ?_⟩
  | refine ⟨_, _, rfl, ?_⟩
  | (refine ⟨_, _, _, _, rfl, rfl, L2.SqL.of (by walk_at "hl"), rfl, ?_⟩)
  | (refine ⟨_, _, _, _, rfl, rfl, L2.SqT.of (by walk_at "hl"), rfl, ?_⟩)
  | (refine ⟨_, _, _, _, rfl, rfl, (by walk_at "hl"), rfl, ?_⟩)
  | (refine And.intro (by walk_at "sd") ?_)
  )
local macro_rules | `(tactic| walk_at "st") => `(tactic| repeat walk_at "st1")
local macro_rules | `(tactic| walk_at "op") => `(tactic| try dsimp only [L2.tSeq, L2.tAsg, L2.tOp, L2.tVar, L2.tC, L2.gSub, L2.rI, L2.rI0, L2.rIxL, L2.rIxT, L2.rSetL, L2.tIfS, L2.tTest, L2.tRet, L2.gName, L2.tNext, L2.tAnd, L2.tOr, L2.tNot, L2.tAndV, L2.tOrV, L2.tNotV, L2.tB, L2.tCB, L2.tCons, L2.tNil, L2.tCall, L2.tTup, L2.tLst, L2.tChain, L2.tUn, L2.tPar, L2.tDrop, L2.tIf, L2.tBM, L2.tBM0, L2.rAppend, L2.rCat, L2.rIsi, L2.rIsiT, L2.gTup, L2.gCons, L2.gNil, Fm.tFor_eq, Fm.tLc_eq, L2.iTup, L2.iList, L2.iRng1, L2.iRng2, L2.tSl, L2.tPart, L2.tNoPart, L2.rSlL, L2.rEq, L2.rNe, L2.rU, L2.rEqD, L2.rNeD, Fm.tRevT, Fm.rLenS, Fm.rTupOf, Fm.rLstOf, L2.tDNewK, L2.tCallS, L2.WE, Fm.wKeep, Fm.rIsK, Fm.rIsKT, List.cons_append, List.nil_append, L2.tYes])
namespace Fm
open PySem PySem.Spec PyProof.Rows L2
abbrev s_is_table : Stmt := top 30
abbrev N_is_table : List Str := ["thing", "m", "row", "a", "b"]
theorem sc_is_table : FnScope N_is_table ["thing", "m"] (defScope s_is_table) := ⟨rfl, rfl, rfl, by decide +kernel, rfl, by decide +kernel, by decide +kernel⟩
section
variable {P : Program} {w : World} {K : PySem.W.Frag} {mg : Str → Option Value} {base : Heap}
theorem row_iff {m : Nat} {d : PyData} : (∃ ds, d = .tuple ds ∧ (ds.length : Int) = m ∧ ∀ e ∈ ds, UpTo (.int ((m : Int) - 1)) e) ↔ RowD m d := by
  constructor
  · rintro ⟨ds, rfl, hl, h⟩
    refine ⟨ds, rfl, by omega, fun e he => ?_⟩
    obtain ⟨i, rfl, h0, hM⟩ := h e he
    exact ⟨i, rfl, h0, by have := hM _ rfl; omega⟩
  · rintro ⟨ds, rfl, hl, h⟩
    refine ⟨ds, rfl, by omega, fun e he => ?_⟩
    obtain ⟨i, rfl, h0, hM⟩ := h e he
    exact ⟨i, rfl, h0, fun M z => by cases z; omega⟩
theorem cell_at {H : Hp} {p : Addr} {xs : List V} {ds : List PyData} {m : Nat} (hs : Dats H p xs ds) (hl : ds.length = m) (hr : ∀ r ∈ ds, RowD m r) {a b : Nat} (ha : a < m) (hb : b < m) :
    ∃ (ra : Addr) (ys : List V) (i : Int), xs[a]? = some (.ref ra) ∧ H ra = some (.tup ys) ∧ ys[b]? = some (.int i) ∧ cellD ds a b = .int i ∧ 0 ≤ i ∧ i < m := by
  have e1 : ds[a]? = some ds[a] := List.getElem?_eq_getElem (by omega)
  obtain ⟨es, he, hes, hi⟩ := hr ds[a] (List.getElem_mem _)
  obtain ⟨x, hx, hd⟩ := hs.back e1
  rw [he] at hd
  obtain ⟨ra, ys, rfl, hra, _, hy⟩ := hd.isTup
  have e2 : es[b]? = some es[b] := List.getElem?_eq_getElem (by omega)
  obtain ⟨i, hei, h0, h1⟩ := hi es[b] (List.getElem_mem _)
  obtain ⟨y, hyb, hyd⟩ := hy.back e2
  rw [hei] at hyd
  obtain rfl := hyd.isInt
  refine ⟨ra, ys, i, hx, hra, hyb, ?_, h0, h1⟩
  unfold cellD
  rw [e1, he]
  simp only [e2, hei, Option.getD_some]
theorem ok_is_table (D : Df K mg "is_table" s_is_table ["thing", "m"]) (T : Nms mg) (c_is_tuple_of : CallOk P w K mg base CX0 1 "is_tuple_of" ["thing", "many"] spTupOf)
    (c_are_up_to : CallOk P w K mg base CX0 3 "are_up_to" ["thing", "many", "most"] spAre) : CallOk P w K mg base CX0 4 "is_table" ["thing", "m"] spTable := by
  refine df_ok D sc_is_table (fun vs H Q E h => ?_) (fun f cdv A outer s H vs Q E hr h => ?_)
  · obtain ⟨v, m, p, d, rfl, _⟩ := h
    rfl
  · obtain ⟨v, m, p, d, rfl, hm, hd, k⟩ := h
    have nd := sc_is_table.nd
    refine ⟨_, (pss_cons (ps_if (pt_not (pt_val (pe_cc c_is_tuple_of (hr.mono (by omega)) (pa_cons (pv 0) (pa_cons (pv 1) pa_nil))))) (pss_one (ps_ret pe_bl)) pss_nil)
      (pss_cons (ps_for PassesOwn.never rfl (pi_tup (pv 0)) (pg_name (i := 2) nd rfl (Or.inl rfl)) (pss_one (ps_if (pt_not (pt_val (pe_cc c_are_up_to (hr.mono (by omega)) (pa_cons (pv 2) (pa_cons (pv 1) (pa_cons (pe_op op_sub (pv 1) pe_int) pa_nil)))))) (pss_one (ps_ret pe_bl)) pss_nil)))
      (pss_cons (ps_for PassesOwn.never rfl (pi_range1 rfl T.n_range (pa_cons (pv 1) pa_nil)) (pg_name (i := 3) nd rfl (Or.inl rfl)) (pss_one (ps_for PassesOwn.never rfl (pi_range1 rfl T.n_range (pa_cons (pv 3) pa_nil)) (pg_name (i := 4) nd rfl (Or.inl rfl)) (pss_one (ps_if (pt_cmpR op_ne (pe_ix (r := rIxT K) ix_tup (pe_ix (r := rIxT K) ix_tup (pv 0) (pv 3) (fun _ _ => rfl)) (pv 4) (fun _ _ => rfl)) (pe_ix (r := rIxT K) ix_tup (pe_ix (r := rIxT K) ix_tup (pv 0) (pv 4) (fun _ _ => rfl)) (pv 3) (fun _ _ => rfl)) (nomark _)) (pss_one (ps_ret pe_bl)) pss_nil)))))
      (pss_one (ps_ret pe_bl))))), ?_⟩
    walk_at "op"
    walk_at "st"
    refine ⟨v, m, p, d, rfl, hd, fun b hb => ?_⟩
    walk_at "st"
    cases b with
    | false =>
      refine iteT (k false ⟨fun z => Bool.noConfusion z, fun ⟨ds, e, hl, _⟩ => hb.mpr ⟨ds, e, by omega⟩⟩)
    | true =>
      obtain ⟨ds, rfl, hl'⟩ := hb.mp rfl
      have hl : ds.length = m := by omega
      obtain ⟨a, xs, rfl, ha, _, hs⟩ := hd.isTup
      refine iteF ?_
      walk_at "st"
      refine ⟨⟨_, SqT.of ha⟩, fT (xs := xs) (fun i σ H' => H' = H ∧ (∃ u, σ = [some (.ref a), some (.int m), u, none, none]) ∧ ∀ j e, j < i → ds[j]? = some e → RowD m e)
        ⟨rfl, ⟨none, rfl⟩, fun j e hj => absurd hj (Nat.not_lt_zero j)⟩ (fun i σ H' _ ⟨e, _⟩ => by rw [e]; exact SqT.of ha) ?_ ?_⟩
      · rintro i x σ H' hx ⟨rfl, ⟨u, rfl⟩, hi⟩
        obtain ⟨e, he, hde⟩ := hs.at hx
        walk_at "op"
        walk_at "st"
        refine ⟨x, _, m, p, e, rfl, hde, .inr ⟨_, rfl⟩, fun b hb => ?_⟩
        rw [row_iff] at hb
        walk_at "st"
        cases b with
        | false =>
          refine iteT (k false ⟨fun z => Bool.noConfusion z, fun ⟨es, e1, _, h2, _⟩ => ?_⟩)
          cases e1
          exact hb.mpr (h2 e (List.mem_of_getElem? he))
        | true =>
          refine iteF ⟨rfl, ⟨_, rfl⟩, fun j e' hj he' => ?_⟩
          by_cases hji : j = i
          · subst hji
            rw [he] at he'
            cases he'
            exact hb.mp rfl
          · exact hi j e' (by omega) he'
      · rintro σ H' ⟨rfl, ⟨u, rfl⟩, hi⟩
        have hrow : ∀ r ∈ ds, RowD m r := fun r hr => by
          obtain ⟨j, hj⟩ := List.getElem?_of_mem hr
          exact hi j r (by rw [hs.1]; exact (List.getElem?_eq_some_iff.mp hj).1) hj
        walk_at "op"
        walk_at "st"
        rw [Int.toNat_natCast]
        refine fR (fun i σ H1 => H1 = H' ∧ (∃ u1 u2 u3, σ = [some (.ref a), some (.int m), u1, u2, u3]) ∧ ∀ x y, x < i → y < x → cellD ds x y = cellD ds y x)
          ⟨rfl, ⟨_, _, _, rfl⟩, fun x y hx => absurd hx (Nat.not_lt_zero x)⟩ ?_ ?_
        · rintro i σ H1 hi1 ⟨rfl, ⟨u1, u2, u3, rfl⟩, hsy⟩
          rw [Int.zero_add]
          walk_at "op"
          walk_at "st"
          rw [Int.toNat_natCast]
          refine fR (fun j σ H2 => H2 = H1 ∧ (∃ u1 u3, σ = [some (.ref a), some (.int m), u1, some (.int i), u3]) ∧ ∀ y, y < j → cellD ds i y = cellD ds y i)
            ⟨rfl, ⟨_, _, rfl⟩, fun y hy => absurd hy (Nat.not_lt_zero y)⟩ ?_ ?_
          · rintro j σ H2 hj ⟨rfl, ⟨u1, u3, rfl⟩, hsj⟩
            rw [Int.zero_add]
            obtain ⟨ra, ya, x1, a1, a2, a3, a4, _⟩ := cell_at hs hl hrow (a := i) (b := j) hi1 (by omega)
            obtain ⟨rb, yb, x2, b1, b2, b3, b4, _⟩ := cell_at hs hl hrow (a := j) (b := i) (by omega) hi1
            walk_at "op"
            walk_at "st"
            refine ⟨_, _, _, _, rfl, rfl, SqT.of ha, atI_nat a1, ?_⟩
            walk_at "st"
            refine ⟨_, _, _, _, rfl, rfl, SqT.of a2, atI_nat a3, ?_⟩
            walk_at "st"
            refine ⟨_, _, _, _, rfl, rfl, SqT.of ha, atI_nat b1, ?_⟩
            walk_at "st"
            refine ⟨_, _, _, _, rfl, rfl, SqT.of b2, atI_nat b3, rfl, ?_⟩
            walk_at "st"
            refine ite2 (fun c0 => ?_) (fun c0 => ?_)
            · refine k false ⟨fun z => Bool.noConfusion z, fun ⟨es, e1, _, _, h3⟩ => ?_⟩
              cases e1
              have q := h3 i j hi1 (by omega)
              rw [a4, b4] at q
              cases q
              simp at c0
            · refine ⟨rfl, ⟨_, _, rfl⟩, fun y hy => ?_⟩
              by_cases hyj : y = j
              · subst hyj
                rw [a4, b4]
                simp at c0
                rw [c0]
              · exact hsj y (by omega)
          · rintro σ H2 ⟨rfl, ⟨u1, u3, rfl⟩, hsj⟩
            refine ⟨rfl, ⟨_, _, _, rfl⟩, fun x y hx hy => ?_⟩
            by_cases hxi : x = i
            · subst hxi
              exact hsj y hy
            · exact hsy x y (by omega) hy
        · rintro σ H1 ⟨rfl, _, hsy⟩
          walk_at "op"
          refine k true ⟨fun _ => ⟨ds, rfl, hl, hrow, fun x y hx hy => ?_⟩, fun _ => rfl⟩
          rcases Nat.lt_trichotomy x y with h | h | h
          · exact (hsy y x hy h).symm
          · rw [h]
          · exact hsy x y hx h

end
end Fm
end FQ2
section FQ3
set_option Elab.async false
set_option linter.all false
set_option maxRecDepth 100000
set_option maxHeartbeats 4000000
local macro_rules | `(tactic| walk_at "ne") => `(tactic| first | assumption | (apply Ne.symm; assumption) | exact L2.ne_of_none (by assumption) (by assumption) | exact Ne.symm (L2.ne_of_none (by assumption) (by assumption)))
local macro_rules | `(tactic| walk_at "hl") => `(tactic| first | assumption | exact L2.upd_same | (refine Eq.trans (L2.upd_ne (by walk_at "ne")) ?_; walk_at "hl"))
local macro_rules | `(tactic| walk_at "sd") => `(tactic| first | (with_reducible show (_ : Int) < _; omega) | (with_reducible show (_ : Int) ≤ _; omega) | assumption | decide | exact ⟨by assumption, by assumption⟩ | exact ⟨by decide, by decide⟩ | exact Or.inr ⟨by decide, by decide⟩ | exact Or.inl ⟨by omega, by omega⟩ | rfl)
local macro_rules | `(tactic| walk_at "st1") => `(tactic| first
  | refine ⟨_, rfl, ?_⟩
  | refine ⟨_, _, rfl, rfl, ?_⟩
  | refine ⟨_, _, rfl, ?_⟩
  | (refine ⟨_, _, _, _, rfl, rfl, L2.SqL.of (by walk_at "hl"), rfl, ?_⟩)
  | (refine ⟨_, _, _, _, rfl, rfl, L2.SqT.of (by walk_at "hl"), rfl, ?_⟩)
  | (refine ⟨_, _, _, _, rfl, rfl, (by walk_at "hl"), rfl, ?_⟩)
  | (refine And.intro (by walk_at "sd") ?_)
  )
local macro_rules | `(tactic| walk_at "st") => `(tactic| repeat walk_at "st1")
local macro_rules | `(tactic| walk_at "op") => `(tactic| try dsimp only [L2.tSeq, L2.tAsg, L2.tOp, L2.tVar, L2.tC, L2.gSub, L2.rI, L2.rI0, L2.rIxL, L2.rIxT, L2.rSetL, L2.tIfS, L2.tTest, L2.tRet, L2.gName, L2.tNext, L2.tAnd, L2.tOr, L2.tNot, L2.tAndV, L2.tOrV, L2.tNotV, L2.tB, L2.tCB, L2.tCons, L2.tNil, L2.tCall, L2.tTup, L2.tLst, L2.tChain, L2.tUn, L2.tPar, L2.tDrop, L2.tIf, L2.tBM, L2.tBM0, L2.rAppend, L2.rCat, L2.rIsi, L2.rIsiT, L2.gTup, L2.gCons, L2.gNil, Fm.tFor_eq, Fm.tLc_eq, L2.iTup, L2.iList, L2.iRng1, L2.iRng2, L2.tSl, L2.tPart, L2.tNoPart, L2.rSlL, L2.rEq, L2.rNe, L2.rU, L2.rEqD, L2.rNeD, Fm.tRevT, Fm.rLenS, Fm.rTupOf, Fm.rLstOf, L2.tDNewK, L2.tCallS, L2.WE, Fm.wKeep, Fm.rIsK, Fm.rIsKT, List.cons_append, List.nil_append, L2.tYes])
namespace Fm
open PySem PySem.Spec PyProof.Rows L2
abbrev s_is_house : Stmt := top 29
abbrev N_is_house : List Str := ["thing", "floor", "first", "stay", "up"]
theorem sc_is_house : FnScope N_is_house ["thing"] (defScope s_is_house) := ⟨rfl, rfl, rfl, by decide +kernel, rfl, by decide +kernel, by decide +kernel⟩
section
variable {P : Program} {w : World} {K : PySem.W.Frag} {mg : Str → Option Value} {base : Heap}
theorem ok_is_house (D : Df K mg "is_house" s_is_house ["thing"]) (T : Nms mg) {tF tN : Tok} (c_MOST_FLOORS : mg "MOST_FLOORS" = some (.int 4 tF)) (c_MOST_NUMBERS : mg "MOST_NUMBERS" = some (.int 6 tN))
    (c_is_tuple_of : CallOk P w K mg base CX0 1 "is_tuple_of" ["thing", "many"] spTupOf) (c_is_table : CallOk P w K mg base CX0 4 "is_table" ["thing", "m"] spTable) : CallOk P w K mg base CX0 5 "is_house" ["thing"] spHouse := by
  refine df_ok D sc_is_house (fun vs H Q E h => ?_) (fun f cdv A outer s H vs Q E hr h => ?_)
  · obtain ⟨v, p, d, rfl, _⟩ := h
    rfl
  · obtain ⟨v, p, d, rfl, hd, k⟩ := h
    have nd := sc_is_house.nd
    refine ⟨_, (pss_cons (ps_if (PW.pt (pw_or (pt_not (pt_val (pe_callB (r := rIsi K) call_isi (by rfl) T.n_isinstance (by decide +kernel) (pa_cons (pv 0) (pa_cons (pe_bltn (v := .ty "tuple") (by rfl) T.n_tuple (by decide +kernel) rfl) pa_nil))))) (pw_or1 (pt_not (pt_chain op_le op_le pe_int (pe_callB (r := rLenS K) call_lenS (by rfl) T.n_len (by decide +kernel) (pa_cons (pv 0) pa_nil)) (pe_glob (v := .int 4) rfl c_MOST_FLOORS ⟨_, rfl⟩)))))) (pss_one (ps_ret pe_bl)) pss_nil)
      (pss_cons (ps_for PassesOwn.never rfl (pi_tup (pv 0)) (pg_name (i := 1) nd rfl (Or.inl rfl)) (pss_one (ps_if (pt_not (pt_val (pe_cc c_is_tuple_of (hr.mono (by omega)) (pa_cons (pv 1) (pa_cons pe_int pa_nil))))) (pss_one (ps_ret pe_bl)) pss_nil)))
      (pss_cons (ps_set (i := 2) nd rfl (Or.inl rfl) (pe_ix (r := rIxT K) ix_tup (pe_ix (r := rIxT K) ix_tup (pv 0) pe_int (fun _ _ => rfl)) pe_int (fun _ _ => rfl)))
      (pss_cons (ps_if (PW.pt (pw_or (pt_not (pt_val (pe_callB (r := rIsi K) call_isi (by rfl) T.n_isinstance (by decide +kernel) (pa_cons (pv 2) (pa_cons (pe_bltn (v := .ty "tuple") (by rfl) T.n_tuple (by decide +kernel) rfl) pa_nil))))) (pw_or1 (pt_not (pt_chain op_le op_le pe_int (pe_callB (r := rLenS K) call_lenS (by rfl) T.n_len (by decide +kernel) (pa_cons (pv 2) pa_nil)) (pe_glob (v := .int 6) rfl c_MOST_NUMBERS ⟨_, rfl⟩)))))) (pss_one (ps_ret pe_bl)) pss_nil)
      (pss_cons (ps_for PassesOwn.never rfl (pi_tup (pv 0)) (pg_tup rfl (pgs_cons (pg_name (i := 3) nd rfl (Or.inl rfl)) (pgs_cons (pg_name (i := 4) nd rfl (Or.inl rfl)) pgs_nil))) (pss_one (ps_if (PW.pt (pw_or (pt_not (pt_val (pe_cc c_is_table (hr.mono (by omega)) (pa_cons (pv 3) (pa_cons (pe_callB (r := rLenS K) call_lenS (by rfl) T.n_len (by decide +kernel) (pa_cons (pv 2) pa_nil)) pa_nil))))) (pw_or1 (pt_not (pt_val (pe_cc c_is_table (hr.mono (by omega)) (pa_cons (pv 4) (pa_cons (pe_callB (r := rLenS K) call_lenS (by rfl) T.n_len (by decide +kernel) (pa_cons (pv 2) pa_nil)) pa_nil)))))))) (pss_one (ps_ret pe_bl)) pss_nil)))
      (pss_one (ps_ret pe_bl))))))), ?_⟩
    walk_at "op"
    walk_at "st"
    refine ⟨_, _, _, _, _, rfl, .ty _, hd.ty, kit_ty (kit_tuple d), ?_⟩
    walk_at "st"
    by_cases ht : isTu d = true
    · obtain ⟨ds, rfl⟩ := isTu_iff.mp ht
      obtain ⟨a, xs, rfl, ha, _, hs⟩ := hd.isTup
      refine iteF ?_
      walk_at "st"
      refine ⟨_, _, rfl, .inr (SqT.of ha), ?_⟩
      walk_at "st"
      by_cases hlo : 1 ≤ xs.length ∧ xs.length ≤ 4
      · rw [decide_eq_true (show (1 : Int) ≤ (xs.length : Int) by omega)]
        refine iteT ?_
        walk_at "st"
        rw [decide_eq_true (show (xs.length : Int) ≤ 4 by omega)]
        refine iteF ?_
        walk_at "st"
        refine ⟨⟨_, SqT.of ha⟩, fT (xs := xs) (fun i σ H' => H' = H ∧ (∃ u, σ = [some (.ref a), u, none, none, none]) ∧ ∀ j e, j < i → ds[j]? = some e → ∃ es, e = .tuple es ∧ es.length = 2)
          ⟨rfl, ⟨none, rfl⟩, fun j e hj => absurd hj (Nat.not_lt_zero j)⟩ (fun i σ H' _ ⟨e, _⟩ => by rw [e]; exact SqT.of ha) ?_ ?_⟩
        · rintro i x σ H' hx ⟨rfl, ⟨u, rfl⟩, hi⟩
          obtain ⟨e, he, hde⟩ := hs.at hx
          walk_at "op"
          walk_at "st"
          refine ⟨x, 2, p, e, rfl, hde, fun b hb => ?_⟩
          walk_at "st"
          cases b with
          | false =>
            refine iteT (k false ⟨fun z => Bool.noConfusion z, fun ⟨m, n, fs, e1, _, _, _, _, _, h3⟩ => ?_⟩)
            cases e1
            obtain ⟨s1, u1, e2, _⟩ := h3 e (List.mem_of_getElem? he)
            exact hb.mpr ⟨_, e2, rfl⟩
          | true =>
            refine iteF ⟨rfl, ⟨_, rfl⟩, fun j e' hj he' => ?_⟩
            by_cases hji : j = i
            · subst hji
              rw [he] at he'
              cases he'
              obtain ⟨es, e1, e2⟩ := hb.mp rfl
              exact ⟨es, e1, by omega⟩
            · exact hi j e' (by omega) he'
        · rintro σ H' ⟨rfl, ⟨u, rfl⟩, hi⟩
          have hpair : ∀ (j : Nat) (e : PyData), ds[j]? = some e → ∃ s1 u1, e = .tuple [s1, u1] := fun j e he => by
            obtain ⟨es, e1, e2⟩ := hi j e (by rw [hs.1]; exact (List.getElem?_eq_some_iff.mp he).1) he
            match es, e2 with
            | [s1, u1], _ => exact ⟨s1, u1, e1⟩
          have hd0 : ds[0]? = some ds[0] := List.getElem?_eq_getElem (by rw [← hs.1]; omega)
          obtain ⟨s0, u0, e0⟩ := hpair 0 _ hd0
          rw [e0] at hd0
          obtain ⟨x0, hx0, hdx0⟩ := hs.back hd0
          obtain ⟨a0, y0, rfl, ha0, _, hs0⟩ := hdx0.isTup
          obtain ⟨z0, hz0, hdz0⟩ := hs0.back (i := 0) (d := s0) rfl
          walk_at "op"
          walk_at "st"
          refine ⟨_, _, _, _, rfl, rfl, SqT.of ha, atI_nat (j := 0) hx0, ?_⟩
          walk_at "st"
          refine ⟨_, _, _, _, rfl, rfl, SqT.of ha0, atI_nat (j := 0) hz0, ?_⟩
          walk_at "st"
          refine ⟨_, _, _, _, _, rfl, .ty _, hdz0.ty, kit_ty (kit_tuple s0), ?_⟩
          walk_at "st"
          have hfirst : ∀ m n, HouseN m n (.tuple ds) → TabD m s0 := fun m n ⟨fs, e1, _, _, _, _, _, h3⟩ => by
            cases e1
            obtain ⟨s1, u1, e2, h4, _⟩ := h3 _ (List.mem_of_getElem? hd0)
            cases e2
            exact h4
          by_cases ht0 : isTu s0 = true
          · obtain ⟨es0, rfl⟩ := isTu_iff.mp ht0
            obtain ⟨af, yf, rfl, haf, _, hsf⟩ := hdz0.isTup
            refine iteF ?_
            walk_at "st"
            refine ⟨_, _, rfl, .inr (SqT.of haf), ?_⟩
            walk_at "st"
            have hm0 : ∀ m n, HouseN m n (.tuple ds) → m = yf.length ∧ 1 ≤ m ∧ m ≤ 6 := fun m n hN => by
              obtain ⟨rs, e1, e2, _⟩ := hfirst m n hN
              cases e1
              obtain ⟨_, _, _, _, _, q1, q2, _⟩ := hN
              exact ⟨by rw [hsf.1, e2], q1, q2⟩
            by_cases hm1 : 1 ≤ yf.length ∧ yf.length ≤ 6
            · rw [decide_eq_true (show (1 : Int) ≤ (yf.length : Int) by omega)]
              refine iteT ?_
              walk_at "st"
              rw [decide_eq_true (show (yf.length : Int) ≤ 6 by omega)]
              refine iteF ?_
              walk_at "st"
              refine ⟨⟨_, SqT.of ha⟩, fT (xs := xs) (fun i σ H1 => H1 = H' ∧ (∃ u1 u2 u3, σ = [some (.ref a), u1, some (.ref af), u2, u3]) ∧ ∀ j e, j < i → ds[j]? = some e → FloorD yf.length e)
                ⟨rfl, ⟨_, _, _, rfl⟩, fun j e hj => absurd hj (Nat.not_lt_zero j)⟩ (fun i σ H1 _ ⟨e, _⟩ => by rw [e]; exact SqT.of ha) ?_ ?_⟩
              · rintro i x σ H1 hx ⟨rfl, ⟨u1, u2, u3, rfl⟩, hfl⟩
                obtain ⟨e, he, hde⟩ := hs.at hx
                obtain ⟨s1, v1, rfl⟩ := hpair i e he
                obtain ⟨ai, yi, rfl, hai, _, hsi⟩ := hde.isTup
                have hlen : yi.length = 2 := hsi.1
                match yi, hlen with
                | [w1, w2], _ =>
                have hw1 : Dat H1 p w1 s1 := hsi.2 0 w1 s1 rfl rfl
                have hw2 : Dat H1 p w2 v1 := hsi.2 1 w2 v1 rfl rfl
                walk_at "op"
                refine ⟨ai, _, rfl, SqT.of hai, rfl, _, _, rfl, _, _, rfl, rfl, ?_⟩
                walk_at "op"
                walk_at "st"
                refine ⟨_, _, rfl, .inr (SqT.of haf), ?_⟩
                refine ⟨w1, yf.length, p, s1, rfl, by omega, hw1, fun b1 hb1 => ?_⟩
                walk_at "st"
                cases b1 with
                | false =>
                  refine iteT (iteT (k false ⟨fun z => Bool.noConfusion z, fun ⟨m, n, hN⟩ => ?_⟩))
                  obtain ⟨rfl, _, _⟩ := hm0 m n hN
                  obtain ⟨fs, e1, _, _, _, _, _, h3⟩ := hN
                  cases e1
                  obtain ⟨s2, v2, e2, h4, _⟩ := h3 _ (List.mem_of_getElem? he)
                  cases e2
                  exact hb1.mpr h4
                | true =>
                  refine iteF ?_
                  walk_at "st"
                  refine ⟨_, _, rfl, .inr (SqT.of haf), ?_⟩
                  refine ⟨w2, yf.length, p, v1, rfl, by omega, hw2, fun b2 hb2 => ?_⟩
                  walk_at "st"
                  cases b2 with
                  | false =>
                    refine iteT (k false ⟨fun z => Bool.noConfusion z, fun ⟨m, n, hN⟩ => ?_⟩)
                    obtain ⟨rfl, _, _⟩ := hm0 m n hN
                    obtain ⟨fs, e1, _, _, _, _, _, h3⟩ := hN
                    cases e1
                    obtain ⟨s2, v2, e2, _, h4⟩ := h3 _ (List.mem_of_getElem? he)
                    cases e2
                    exact hb2.mpr h4
                  | true =>
                    refine iteF ⟨rfl, ⟨_, _, _, rfl⟩, fun j e' hj he' => ?_⟩
                    by_cases hji : j = i
                    · subst hji
                      rw [he] at he'
                      cases he'
                      exact ⟨s1, v1, rfl, hb1.mp rfl, hb2.mp rfl⟩
                    · exact hfl j e' (by omega) he'
              · rintro σ H1 ⟨rfl, _, hfl⟩
                walk_at "op"
                refine k true ⟨fun _ => ⟨yf.length, xs.length, ds, rfl, hs.1.symm, hlo.1, hlo.2, hm1.1, hm1.2, fun e he => ?_⟩, fun _ => rfl⟩
                obtain ⟨j, hj⟩ := List.getElem?_of_mem he
                exact hfl j e (by rw [hs.1]; exact (List.getElem?_eq_some_iff.mp hj).1) hj
            · have no : ¬ HouseD (.tuple ds) := fun ⟨m, n, hN⟩ => by
                obtain ⟨e1, q1, q2⟩ := hm0 m n hN
                exact hm1 (by omega)
              by_cases h1 : 1 ≤ yf.length
              · rw [decide_eq_true (show (1 : Int) ≤ (yf.length : Int) by omega)]
                refine iteT ?_
                walk_at "st"
                rw [decide_eq_false (show ¬ (yf.length : Int) ≤ 6 by omega)]
                exact iteT (k false ⟨fun z => Bool.noConfusion z, fun z => (no z).elim⟩)
              · rw [decide_eq_false (show ¬ (1 : Int) ≤ (yf.length : Int) by omega)]
                refine iteF ?_
                walk_at "st"
                exact iteT (k false ⟨fun z => Bool.noConfusion z, fun z => (no z).elim⟩)
          · have no : ¬ HouseD (.tuple ds) := fun ⟨m, n, hN⟩ => by
              obtain ⟨rs, e1, _⟩ := hfirst m n hN
              exact ht0 (isTu_iff.mpr ⟨rs, e1⟩)
            rw [Bool.eq_false_iff.mpr ht0]
            exact iteT (iteT (k false ⟨fun z => Bool.noConfusion z, fun z => (no z).elim⟩))
      · have no : ¬ HouseD (.tuple ds) := fun ⟨m, n, fs, e1, e2, q1, q2, _⟩ => by
          cases e1
          exact hlo (by rw [hs.1]; omega)
        by_cases h1 : 1 ≤ xs.length
        · rw [decide_eq_true (show (1 : Int) ≤ (xs.length : Int) by omega)]
          refine iteT ?_
          walk_at "st"
          rw [decide_eq_false (show ¬ (xs.length : Int) ≤ 4 by omega)]
          exact iteT (k false ⟨fun z => Bool.noConfusion z, fun z => (no z).elim⟩)
        · rw [decide_eq_false (show ¬ (1 : Int) ≤ (xs.length : Int) by omega)]
          refine iteF ?_
          walk_at "st"
          exact iteT (k false ⟨fun z => Bool.noConfusion z, fun z => (no z).elim⟩)
    · have no : ¬ HouseD d := fun ⟨m, n, fs, e1, _⟩ => ht (isTu_iff.mpr ⟨fs, e1⟩)
      rw [Bool.eq_false_iff.mpr ht]
      exact iteT (iteT (k false ⟨fun z => Bool.noConfusion z, fun z => (no z).elim⟩))

end
end Fm
end FQ3
section FR4
set_option Elab.async false
set_option linter.all false
set_option maxRecDepth 100000
set_option maxHeartbeats 4000000
local macro_rules | `(tactic| walk_at "ne") => `(tactic| first | assumption | (apply Ne.symm; assumption) | exact L2.ne_of_none (by assumption) (by assumption) | exact Ne.symm (L2.ne_of_none (by assumption) (by assumption)))
local macro_rules | `(tactic| walk_at "hl") => `(tactic| first | assumption | exact L2.upd_same | (refine Eq.trans (L2.upd_ne (by walk_at "ne")) ?_; walk_at "hl"))
local macro_rules | `(tactic| walk_at "sd") => `(tactic| first | (with_reducible show (_ : Int) < _; omega) | (with_reducible show (_ : Int) ≤ _; omega) | assumption | decide | exact ⟨by assumption, by assumption⟩ | exact ⟨by decide, by decide⟩ | exact Or.inr ⟨by decide, by decide⟩ | exact Or.inl ⟨by omega, by omega⟩ | rfl)
local macro_rules | `(tactic| walk_at "st1") => `(tactic| first
  | refine ⟨_, rfl, ?_⟩
  | refine ⟨_, _, rfl, rfl, ?_⟩
  | refine ⟨_, _, rfl, ?_⟩
  | (refine ⟨_, _, _, _, rfl, rfl, L2.SqL.of (by walk_at "hl"), rfl, ?_⟩)
  | (refine ⟨_, _, _, _, rfl, rfl, L2.SqT.of (by walk_at "hl"), rfl, ?_⟩)
  | (refine ⟨_, _, _, _, rfl, rfl, (by walk_at "hl"), rfl, ?_⟩)
  | (refine And.intro (by walk_at "sd") ?_)
  )
local macro_rules | `(tactic| walk_at "st") => `(tactic| repeat walk_at "st1")
local macro_rules | `(tactic| walk_at "op") => `(tactic| try dsimp only [L2.tSeq, L2.tAsg, L2.tOp, L2.tVar, L2.tC, L2.gSub, L2.rI, L2.rI0, L2.rIxL, L2.rIxT, L2.rSetL, L2.tIfS, L2.tTest, L2.tRet, L2.gName, L2.tNext, L2.tAnd, L2.tOr, L2.tNot, L2.tAndV, L2.tOrV, L2.tNotV, L2.tB, L2.tCB, L2.tCons, L2.tNil, L2.tCall, L2.tTup, L2.tLst, L2.tChain, L2.tUn, L2.tPar, L2.tDrop, L2.tIf, L2.tBM, L2.tBM0, L2.rAppend, L2.rCat, L2.rIsi, L2.rIsiT, L2.gTup, L2.gCons, L2.gNil, Fm.tFor_eq, Fm.tLc_eq, L2.iTup, L2.iList, L2.iRng1, L2.iRng2, L2.tSl, L2.tPart, L2.tNoPart, L2.rSlL, L2.rEq, L2.rNe, L2.rU, L2.rEqD, L2.rNeD, Fm.tRevT, Fm.rLenS, Fm.rTupOf, Fm.rLstOf, L2.tDNewK, L2.tCallS, L2.WE, Fm.wKeep, Fm.rIsK, Fm.rIsKT, List.cons_append, List.nil_append, L2.tYes])
namespace Fm
open PySem PySem.Spec PyProof.Rows L2
abbrev s_size : Stmt := top 31
abbrev N_size : List Str := ["house"]
theorem sc_size : FnScope N_size ["house"] (defScope s_size) := ⟨rfl, rfl, rfl, by decide +kernel, rfl, by decide +kernel, by decide +kernel⟩
section
variable {P : Program} {w : World} {K : PySem.W.Frag} {mg : Str → Option Value} {base : Heap}
theorem ok_size (D : Df K mg "size" s_size ["house"]) (T : Nms mg) {C M : Addr} (EX : Exn K mg "NoHouse" C M) (c_is_house : CallOk P w K mg base CX0 5 "is_house" ["thing"] spHouse) : CallOk P w K mg base (L2.CX P w) 6 "size" ["house"] (spSize C) := by
  refine df_okX D sc_size (fun vs H Q E h => ?_) (fun f cdv A outer s H vs Q E hr h => ?_)
  · obtain ⟨v, p, d, rfl, _⟩ := h
    rfl
  · obtain ⟨v, p, d, rfl, hd, k1, k2⟩ := h
    have nd := sc_size.nd
    refine ⟨_, (pss_cons (ps_if (pt_not (pt_val (pe_cc c_is_house (hr.mono (by omega)) (pa_cons (pv 0) pa_nil)))) (pss_one (ps_raiseE rfl (takes_of rfl rfl rfl rfl) EX rfl)) pss_nil)
      (pss_one (ps_ret (pe_tup (pa_cons (pe_callB (r := rLenS K) call_lenS (by rfl) T.n_len (by decide +kernel) (pa_cons (pe_ix (r := rIxT K) ix_tup (pe_ix (r := rIxT K) ix_tup (pv 0) pe_int (fun _ _ => rfl)) pe_int (fun _ _ => rfl)) pa_nil)) (pa_cons (pe_callB (r := rLenS K) call_lenS (by rfl) T.n_len (by decide +kernel) (pa_cons (pv 0) pa_nil)) pa_nil)))))), ?_⟩
    walk_at "op"
    walk_at "st"
    refine ⟨v, p, d, rfl, hd, fun b hb => ?_⟩
    walk_at "st"
    cases b with
    | false => exact iteT (k2 fun z => Bool.noConfusion (hb.mpr z))
    | true =>
      obtain ⟨m, n, hN⟩ := hb.mp rfl
      obtain ⟨fs, rfl, hl, h1, _, _, _, hf⟩ := id hN
      obtain ⟨a, xs, rfl, ha, _, hs⟩ := hd.isTup
      have hd0 : fs[0]? = some fs[0] := List.getElem?_eq_getElem (by omega)
      obtain ⟨s0, u0, e0, ⟨rs, e1, e2, _⟩, _⟩ := hf fs[0] (List.getElem_mem _)
      rw [e0] at hd0
      subst e1
      obtain ⟨x0, hx0, hdx0⟩ := hs.back hd0
      obtain ⟨a0, y0, rfl, ha0, _, hs0⟩ := hdx0.isTup
      obtain ⟨z0, hz0, hdz0⟩ := hs0.back (i := 0) rfl
      obtain ⟨af, yf, rfl, haf, _, hsf⟩ := hdz0.isTup
      refine iteF ?_
      walk_at "op"
      walk_at "st"
      refine ⟨_, _, _, _, rfl, rfl, SqT.of ha, atI_nat (j := 0) hx0, ?_⟩
      walk_at "st"
      refine ⟨_, _, _, _, rfl, rfl, SqT.of ha0, atI_nat (j := 0) hz0, ?_⟩
      refine ⟨_, _, rfl, .inr (SqT.of haf), ?_⟩
      walk_at "st"
      refine ⟨_, _, rfl, .inr (SqT.of ha), ?_⟩
      refine ⟨by show 2 ≤ sizeLine; decide, fun q hq => ?_⟩
      refine k1 m n hN q _ hq ?_ (same_new hq)
      rw [upd_same, hsf.1, e2, hs.1, hl]

end
end Fm
end FR4
section FQ5
set_option Elab.async false
set_option linter.all false
set_option maxRecDepth 100000
set_option maxHeartbeats 4000000
local macro_rules | `(tactic| walk_at "ne") => `(tactic| first | assumption | (apply Ne.symm; assumption) | exact L2.ne_of_none (by assumption) (by assumption) | exact Ne.symm (L2.ne_of_none (by assumption) (by assumption)))
local macro_rules | `(tactic| walk_at "hl") => `(tactic| first | assumption | exact L2.upd_same | (refine Eq.trans (L2.upd_ne (by walk_at "ne")) ?_; walk_at "hl"))
local macro_rules | `(tactic| walk_at "sd") => `(tactic| first | (with_reducible show (_ : Int) < _; omega) | (with_reducible show (_ : Int) ≤ _; omega) | assumption | decide | exact ⟨by assumption, by assumption⟩ | exact ⟨by decide, by decide⟩ | exact Or.inr ⟨by decide, by decide⟩ | exact Or.inl ⟨by omega, by omega⟩ | rfl)
local macro_rules | `(tactic| walk_at "st1") => `(tactic| first
  | refine ⟨_, rfl, ?_⟩
  | refine ⟨_, _, rfl, rfl, ?_⟩
  | refine ⟨_, _, rfl, ?_⟩
  | (refine ⟨_, _, _, _, rfl, rfl, L2.SqL.of (by walk_at "hl"), rfl, ?_⟩)
  | (refine ⟨_, _, _, _, rfl, rfl, L2.SqT.of (by walk_at "hl"), rfl, ?_⟩)
  | (refine ⟨_, _, _, _, rfl, rfl, (by walk_at "hl"), rfl, ?_⟩)
  | (refine And.intro (by walk_at "sd") ?_)
  )
local macro_rules | `(tactic| walk_at "st") => `(tactic| repeat walk_at "st1")
local macro_rules | `(tactic| walk_at "op") => `(tactic| try dsimp only [L2.tSeq, L2.tAsg, L2.tOp, L2.tVar, L2.tC, L2.gSub, L2.rI, L2.rI0, L2.rIxL, L2.rIxT, L2.rSetL, L2.tIfS, L2.tTest, L2.tRet, L2.gName, L2.tNext, L2.tAnd, L2.tOr, L2.tNot, L2.tAndV, L2.tOrV, L2.tNotV, L2.tB, L2.tCB, L2.tCons, L2.tNil, L2.tCall, L2.tTup, L2.tLst, L2.tChain, L2.tUn, L2.tPar, L2.tDrop, L2.tIf, L2.tBM, L2.tBM0, L2.rAppend, L2.rCat, L2.rIsi, L2.rIsiT, L2.gTup, L2.gCons, L2.gNil, Fm.tFor_eq, Fm.tLc_eq, L2.iTup, L2.iList, L2.iRng1, L2.iRng2, L2.tSl, L2.tPart, L2.tNoPart, L2.rSlL, L2.rEq, L2.rNe, L2.rU, L2.rEqD, L2.rNeD, Fm.tRevT, Fm.rLenS, Fm.rTupOf, Fm.rLstOf, L2.tDNewK, L2.tCallS, L2.WE, Fm.wKeep, Fm.rIsK, Fm.rIsKT, List.cons_append, List.nil_append, L2.tYes])
namespace Fm
open PySem PySem.Spec PyProof.Rows L2
abbrev s_law_bag : Stmt := top 52
abbrev N_law_bag : List Str := ["cell"]
theorem sc_law_bag : FnScope N_law_bag ["cell"] (defScope s_law_bag) := ⟨rfl, rfl, rfl, by decide +kernel, rfl, by decide +kernel, by decide +kernel⟩
abbrev s_law_pick : Stmt := top 53
abbrev N_law_pick : List Str := ["bag", "many", "told", "first", "second"]
theorem sc_law_pick : FnScope N_law_pick ["bag", "many"] (defScope s_law_pick) := ⟨rfl, rfl, rfl, by decide +kernel, rfl, by decide +kernel, by decide +kernel⟩
abbrev s_law_table : Stmt := top 54
abbrev N_law_table : List Str := ["bag", "m", "way", "free", "k", "rows", "a", "row", "b", "least", "most", "some"]
theorem sc_law_table : FnScope N_law_table ["bag", "m"] (defScope s_law_table) := ⟨rfl, rfl, rfl, by decide +kernel, rfl, by decide +kernel, by decide +kernel⟩
section
variable {P : Program} {w : World} {K : PySem.W.Frag} {mg : Str → Option Value} {base : Heap}
theorem atI_of {xs : List V} {i : Int} {v : V} (h0 : 0 ≤ i) (h : xs[i.toNat]? = some v) : atI xs i = some v := by
  have e := atI_nat h
  rw [Int.toNat_of_nonneg h0] at e
  exact e
theorem ok_law_bag (D : Df K mg "_law_bag" s_law_bag ["cell"]) (T : Nms mg) : CallOk P w K mg base CX0 1 "_law_bag" ["cell"] spBag := by
  refine df_ok D sc_law_bag (fun vs H Q E h => ?_) (fun f cdv A outer s H vs Q E hr h => ?_)
  · obtain ⟨c, rfl, _⟩ := h
    rfl
  · obtain ⟨c, rfl, k⟩ := h
    have nd := sc_law_bag.nd
    refine ⟨_, (pss_one (ps_ret (pe_lst (pa_cons (pe_callB (call_max2 rfl) (by rfl) T.n_max (by decide +kernel) (pa_cons pe_int (pa_cons (pe_op op_sub (pv 0) (pe_op op_pow pe_int pe_int)) pa_nil))) (pa_cons (pv 0) (pa_cons pe_int pa_nil)))))), ?_⟩
    walk_at "op"
    walk_at "st"
    refine ⟨by show 3 ≤ sizeLine; decide, fun q hq => ?_⟩
    exact k q _ hq ⟨_, _, _, upd_same⟩ (same_new hq)
theorem ok_law_pick (D : Df K mg "_law_pick" s_law_pick ["bag", "many"]) (T : Nms mg) : CallOk P w K mg base CX0 1 "_law_pick" ["bag", "many"] spPick := by
  refine df_ok D sc_law_pick (fun vs H Q E h => ?_) (fun f cdv A outer s H vs Q E hr h => ?_)
  · obtain ⟨p, m, rfl, _⟩ := h
    rfl
  · obtain ⟨p, m, rfl, m0, ml, ⟨x, y, c, hp⟩, k⟩ := h
    have nd := sc_law_pick.nd
    refine ⟨_, (pss_cons (ps_asg (pe_op op_add (pe_ix (r := rIxL K) ix_list (pv 0) pe_int (fun _ _ => rfl)) pe_int) (pg_sub (pv 0) pe_int set_list))
      (pss_cons (ps_if (pt_cmpR op_gt (pe_ix (r := rIxL K) ix_list (pv 0) pe_int (fun _ _ => rfl)) pe_int (nomark _)) (pss_cons (ps_set (i := 2) nd rfl (Or.inl rfl) (pe_op op_mod (pe_ix (r := rIxL K) ix_list (pv 0) pe_int (fun _ _ => rfl)) (pv 1)))
      (pss_cons (ps_asg (pe_op op_fdivW (pe_ix (r := rIxL K) ix_list (pv 0) pe_int (fun _ _ => rfl)) (pv 1)) (pg_sub (pv 0) pe_int set_list))
      (pss_one (ps_ret (pv 2))))) pss_nil)
      (pss_cons (ps_set (i := 3) nd rfl (Or.inl rfl) (pe_op op_mod (pe_op op_add (pe_op op_add (pe_op op_mul (pe_op op_mod (pe_ix (r := rIxL K) ix_list (pv 0) pe_int (fun _ _ => rfl)) pe_int) pe_int) (pe_op op_mul (pe_ix (r := rIxL K) ix_list (pv 0) pe_int (fun _ _ => rfl)) pe_int)) pe_int) pe_int))
      (pss_cons (ps_set (i := 4) nd rfl (Or.inl rfl) (pe_op op_mod (pe_op op_add (pe_op op_mul (pv 3) (pv 3)) (pe_op op_mul (pe_ix (r := rIxL K) ix_list (pv 0) pe_int (fun _ _ => rfl)) pe_int)) pe_int))
      (pss_one (ps_ret (pe_op op_mod (pe_op op_fdivW (pe_op op_add (pe_op op_mul (pv 3) pe_int) (pv 4)) pe_int) (pv 1)))))))), ?_⟩
    walk_at "op"
    walk_at "st"
    refine ite2 (fun c0 => ?_) (fun c0 => ?_)
    · walk_at "st"
      refine k _ _ (Int.emod_nonneg _ (by omega)) (Int.emod_lt_of_pos _ m0) ⟨_, _, _, upd_same⟩ (ext_at.trans ext_at)
    · walk_at "st"
      refine k _ _ (Int.emod_nonneg _ (by omega)) (Int.emod_lt_of_pos _ m0) ⟨_, _, _, upd_same⟩ ext_at
/-- the seven ways of a table's number -/
def ways7 (fs : List Int) (m a b : Int) : List Int :=
  let lo := if b < a then b else a
  let hi := if b > a then b else a
  [fs.getD (lo * 6 + hi).toNat 0, hi, lo, (a + b) % m, if m - 1 < a + b then m - 1 else a + b, fs.getD 0 0, a * b % m]
theorem ways7_comm (fs : List Int) (m a b : Int) : ways7 fs m a b = ways7 fs m b a := by
  have e1 : (if b < a then b else a) = if a < b then a else b := by split <;> split <;> omega
  have e2 : (if b > a then b else a) = if a > b then a else b := by split <;> split <;> omega
  unfold ways7
  rw [e1, e2, Int.add_comm b a, Int.mul_comm b a]
theorem ways7_in {fs : List Int} {m : Nat} {a b : Nat} (hf : ∀ f ∈ fs, 0 ≤ f ∧ f < (m : Int)) (hl : fs.length = 36) (hm : m ≤ 6) (ha : a < m) (hb : b < m) : ∀ e ∈ ways7 fs m a b, 0 ≤ e ∧ e < (m : Int) := by
  have gd : ∀ i, i < 36 → 0 ≤ fs.getD i 0 ∧ fs.getD i 0 < (m : Int) := fun i hi => by
    rw [List.getD_eq_getElem?_getD, List.getElem?_eq_getElem (show i < fs.length by omega), Option.getD_some]
    exact hf _ (List.getElem_mem _)
  intro e he
  unfold ways7 at he
  simp only [List.mem_cons, List.not_mem_nil, or_false] at he
  have m0 : (0 : Int) < m := by omega
  rcases he with rfl | rfl | rfl | rfl | rfl | rfl | rfl
  · apply gd
    split <;> split <;> omega
  · split <;> omega
  · split <;> omega
  · exact ⟨Int.emod_nonneg _ (by omega), Int.emod_lt_of_pos _ m0⟩
  · split <;> omega
  · exact gd 0 (by omega)
  · exact ⟨Int.emod_nonneg _ (by omega), Int.emod_lt_of_pos _ m0⟩
def spTab : Sp := fun vs H Q _ => ∃ (p : Addr) (m : Nat), vs = [.ref p, .int m] ∧ 1 ≤ m ∧ m ≤ 6 ∧ Bag H p ∧ ∀ (v : V) (d : PyData) (H' : Hp), Bag H' p → Ext p H H' → Dat H' p v d → TabD m d → Q v H'
/-- rows made by a function of two places -/
theorem tab_of {m : Nat} {G : Nat → Nat → Int} (hs : ∀ a b, G a b = G b a) (hb : ∀ a b, a < m → b < m → 0 ≤ G a b ∧ G a b < (m : Int)) :
    TabD m (.tuple ((List.range m).map fun a => .tuple ((List.range m).map fun b => .int (G a b)))) := by
  refine ⟨_, rfl, by simp, fun r hr => ?_, fun a b ha hb => ?_⟩
  · obtain ⟨a, ha, rfl⟩ := List.mem_map.mp hr
    refine ⟨_, rfl, by simp, fun e he => ?_⟩
    obtain ⟨b, hb', rfl⟩ := List.mem_map.mp he
    exact ⟨_, rfl, hb a b (List.mem_range.mp ha) (List.mem_range.mp hb')⟩
  · have c : ∀ x y, x < m → y < m → cellD ((List.range m).map fun a => PyData.tuple ((List.range m).map fun b => .int (G a b))) x y = .int (G x y) := fun x y hx hy => by
      unfold cellD
      simp [hx, hy]
    rw [c a b ha hb, c b a hb ha, hs]
theorem range_snoc {α : Type} (f : Nat → α) (n : Nat) : (List.range (n + 1)).map f = (List.range n).map f ++ [f n] := by
  rw [List.range_succ, List.map_append]
  rfl
theorem Ext.off {H H' : Hp} {p L : Addr} {o : HO} (e : Ext p H H') (h : H L = none) : Ext p H (upd H' L o) := fun b u eb n => by
  rw [upd_ne (ne_of_none eb h)]
  exact e b u eb n
theorem Bag.up {H : Hp} {p L : Addr} {o : HO} (h : Bag H p) (n : p ≠ L) : Bag (upd H L o) p := by
  obtain ⟨x, y, c, q⟩ := h
  exact ⟨x, y, c, by rw [upd_ne n]; exact q⟩
theorem Bag.ne {H : Hp} {p L : Addr} (h : Bag H p) (n : H L = none) : p ≠ L := by
  obtain ⟨x, y, c, q⟩ := h
  exact ne_of_none q n
theorem Bag.here {H : Hp} {p : Addr} (h : Bag H p) : ∃ u, H p = some u := by
  obtain ⟨x, y, c, q⟩ := h
  exact ⟨_, q⟩
theorem ext_new {H : Hp} {p L : Addr} {o : HO} (h : H L = none) : Ext p H (upd H L o) := fun b u eb _ => by
  rw [upd_ne (ne_of_none eb h)]
  exact eb
theorem len_le {n : Nat} (h : n ≤ 1000) : n ≤ sizeLine := Nat.le_of_lt (small1000 h)
/-- what both makers of tables share: the rows so far -/
def RowsAt (H : Hp) (p R : Addr) (m a : Nat) (G : Nat → Nat → Int) : Prop :=
  ∃ xs, H R = some (.lst xs) ∧ Dats H p xs ((List.range a).map fun x => .tuple ((List.range m).map fun y => .int (G x y)))
def RowAt (H : Hp) (W : Addr) (a b : Nat) (G : Nat → Nat → Int) : Prop := H W = some (.lst (((List.range b).map fun y => G a y).map V.int))
theorem Ext.free {H H' : Hp} {p S : Addr} (e : Ext p H H') (n : S ≠ p) (h : H' S = none) : H S = none := by
  cases q : H S with
  | none => rfl
  | some u =>
    rw [e S u q n] at h
    cases h
theorem Dat.setL {H : Hp} {p R : Addr} {xs ys : List V} {v : V} {d : PyData} (hR : H R = some (.lst xs)) (h : Dat H p v d) : noList d = true → Dat (upd H R (.lst ys)) p v d := by
  induction h with
  | non => exact fun _ => .non
  | bl b => exact fun _ => .bl b
  | int i => exact fun _ => .int i
  | str x => exact fun _ => .str x
  | tup h1 h2 h3 h4 ih => exact fun hn => .tup (by rw [upd_ne (ne_of h1 hR (by intro z; cases z))]; exact h1) h2 h3 fun i x d a b => ih i x d a b (noList_tup hn d (List.mem_of_getElem? b))
  | lst h1 h2 h3 h4 ih => exact fun hn => by unfold noList at hn; cases hn
  | dct h1 h2 => exact fun _ => .dct (by rw [upd_ne (ne_of h1 hR (by intro z; cases z))]; exact h1) h2
theorem Dats.setL {H : Hp} {p R : Addr} {xs ys zs : List V} {ds : List PyData} (hR : H R = some (.lst xs)) (h : Dats H p zs ds) (hn : ∀ d ∈ ds, noList d = true) : Dats (upd H R (.lst ys)) p zs ds :=
  ⟨h.1, fun i x d a b => (h.2 i x d a b).setL hR (hn d (List.mem_of_getElem? b))⟩
theorem noList_ints {α : Type} (l : List α) (f : α → Int) : noList (.tuple (l.map fun x => .int (f x))) = true := noList_of fun d hd => by
  obtain ⟨x, _, rfl⟩ := List.mem_map.mp hd
  unfold noList
  rfl
theorem fs_at {fs : List Int} {i : Nat} (h : i < fs.length) : (fs.map V.int)[i]? = some (.int (fs.getD i 0)) := by
  rw [List.getElem?_map, List.getElem?_eq_getElem h, List.getD_eq_getElem?_getD, List.getElem?_eq_getElem h]
  rfl
theorem ok_law_table (D : Df K mg "_law_table" s_law_table ["bag", "m"]) (T : Nms mg) (c_law_pick : CallOk P w K mg base CX0 1 "_law_pick" ["bag", "many"] spPick) : CallOk P w K mg base CX0 2 "_law_table" ["bag", "m"] spTab := by
  refine df_ok D sc_law_table (fun vs H Q E h => ?_) (fun f cdv A outer s H vs Q E hr h => ?_)
  · obtain ⟨p, m, rfl, _⟩ := h
    rfl
  · obtain ⟨p, m, rfl, hm1, hm6, hB, k⟩ := h
    have nd := sc_law_table.nd
    have ml : (m : Int).natAbs.log2 < 9000 := Nat.lt_of_le_of_lt (Nat.log2_le_self _) (by omega)
    refine ⟨_, (pss_cons (ps_set (i := 2) nd rfl (Or.inl rfl) (pe_cc c_law_pick (hr.mono (by omega)) (pa_cons (pv 0) (pa_cons pe_int pa_nil))))
      (pss_cons (ps_setLc (i := 3) (own := [("k", 4)]) (g := (gName 4)) (tt := tYes) (by rfl) nd rfl rfl (sw_true rfl rfl rfl (by decide +kernel)) (pi_range1 rfl T.n_range (pa_cons pe_int pa_nil)) (blkOk_by (own := [("k", 4)]) (N := N_law_table) (sc := defScope s_law_table) (by decide +kernel)) (fun _ _ _ _ _ => (pg_name (i := 4) nd rfl (Or.inl rfl))) (fun _ _ _ _ _ => pts_nil) (fun _ _ _ _ _ => (pe_cc c_law_pick (hr.mono (by omega)) (pa_cons (pv 0) (pa_cons (pv 1) pa_nil)))))
      (pss_cons (ps_set (i := 5) nd rfl (Or.inl rfl) (pe_lst pa_nil))
      (pss_cons (ps_for PassesOwn.never rfl (pi_range1 rfl T.n_range (pa_cons (pv 1) pa_nil)) (pg_name (i := 6) nd rfl (Or.inl rfl)) (pss_cons (ps_set (i := 7) nd rfl (Or.inl rfl) (pe_lst pa_nil))
      (pss_cons (ps_for PassesOwn.never rfl (pi_range1 rfl T.n_range (pa_cons (pv 1) pa_nil)) (pg_name (i := 8) nd rfl (Or.inl rfl)) (pss_cons (ps_par (i := 9) (j := 10) (by rfl) nd rfl rfl (by decide) rfl rfl (pa_cons (pe_callB (call_min2 rfl) (by rfl) T.n_min (by decide +kernel) (pa_cons (pv 6) (pa_cons (pv 8) pa_nil))) (pa_cons (pe_callB (call_max2 rfl) (by rfl) T.n_max (by decide +kernel) (pa_cons (pv 6) (pa_cons (pv 8) pa_nil))) pa_nil)) (by rfl))
      (pss_cons (ps_set (i := 11) nd rfl (Or.inl rfl) (pe_lst (pa_cons (pe_ix (r := rIxL K) ix_list (pv 3) (pe_op op_add (pe_op op_mul (pv 9) pe_int) (pv 10)) (fun _ _ => rfl)) (pa_cons (pv 10) (pa_cons (pv 9) (pa_cons (pe_op op_mod (pe_op op_add (pv 6) (pv 8)) (pv 1)) (pa_cons (pe_callB (call_min2 rfl) (by rfl) T.n_min (by decide +kernel) (pa_cons (pe_op op_add (pv 6) (pv 8)) (pa_cons (pe_op op_sub (pv 1) pe_int) pa_nil))) (pa_cons (pe_ix (r := rIxL K) ix_list (pv 3) pe_int (fun _ _ => rfl)) (pa_cons (pe_op op_mod (pe_op op_mul (pv 6) (pv 8)) (pv 1)) pa_nil)))))))))
      (pss_one (ps_expr (pe_bm PySem.F.plainAttrs_list PySem.F.slot_list_append PySem.F.type_list_append mt_append (pv 7) (pa_cons (pe_ix (r := rIxL K) ix_list (pv 11) (pv 2) (fun _ _ => rfl)) pa_nil)))))))
      (pss_one (ps_expr (pe_bm PySem.F.plainAttrs_list PySem.F.slot_list_append PySem.F.type_list_append mt_append (pv 5) (pa_cons (pe_callTy (r := rTupOf K) call_tupOf (by rfl) T.n_tuple (by decide +kernel) (pa_cons (pv 7) pa_nil)) pa_nil)))))))
      (pss_one (ps_ret (pe_callTy (r := rTupOf K) call_tupOf (by rfl) T.n_tuple (by decide +kernel) (pa_cons (pv 5) pa_nil)))))))), ?_⟩
    walk_at "op"
    walk_at "st"
    refine fun way H1 hw0 hw7 hB1 x1 => ?_
    walk_at "st"
    refine fun L hL => ?_
    have nL := hB1.ne hL
    refine lR (fun i H2 => Bag H2 p ∧ Ext p H1 H2 ∧ ∃ fs : List Int, H2 L = some (.lst (fs.map V.int)) ∧ fs.length = i ∧ ∀ e ∈ fs, 0 ≤ e ∧ e < (m : Int)) ?_ ?_ ?_
    · exact ⟨hB1.up nL, ext_new hL, [], upd_same, rfl, fun e he => by simp at he⟩
    · rintro i H2 hi ⟨hB2, x2, fs, hLs, hl, hf⟩
      walk_at "op"
      refine ⟨rfl, ?_⟩
      walk_at "st"
      refine fun k' H3 k0 k1 hB3 x3 => ?_
      have hL3 := x3 _ _ hLs nL.symm
      refine ⟨_, hL3, by rw [List.length_map, hl]; exact small1000 (by have : Int.toNat 36 = 36 := rfl; omega), hB3.up nL, (x2.trans x3).off hL, fs ++ [k'], ?_, by simp [hl], fun e he => ?_⟩
      · rw [upd_same, List.map_append]
        rfl
      · rcases List.mem_append.mp he with he | he
        · exact hf e he
        · simp at he
          subst he
          exact ⟨k0, k1⟩
    · rintro H2 ⟨hB2, x2, fs, hLs, hl, hf⟩
      have hl36 : fs.length = 36 := hl
      clear hl
      have x02 := x1.trans x2
      let G : Nat → Nat → Int := fun a b => (ways7 fs m a b).getD way.toNat 0
      have hG : ∀ a b, G a b = G b a := fun a b => by show (ways7 fs m a b).getD _ 0 = (ways7 fs m b a).getD _ 0; rw [ways7_comm]
      have hGat : ∀ a b : Nat, (ways7 fs m a b)[way.toNat]? = some (G a b) := fun a b => by
        have hlen : way.toNat < (ways7 fs m a b).length := by show way.toNat < 7; omega
        show _ = some ((ways7 fs m a b).getD way.toNat 0)
        rw [List.getD_eq_getElem?_getD, List.getElem?_eq_getElem hlen, Option.getD_some]
      have hGb : ∀ a b, a < m → b < m → 0 ≤ G a b ∧ G a b < (m : Int) := fun a b ha hb => ways7_in hf hl36 hm6 ha hb _ (List.mem_of_getElem? (hGat a b))
      refine ⟨by show 0 ≤ sizeLine; omega, fun R hR => ?_⟩
      have nR := hB2.ne hR
      have nLR : L ≠ R := ne_of_none hLs hR
      walk_at "st"
      rw [Int.toNat_natCast]
      refine fR (fun a σ H3 => Bag H3 p ∧ Ext p H2 H3 ∧ (∃ u4 u6 u7 u8 u9 u10 u11, σ = [some (.ref p), some (.int m), some (.int way), some (.ref L), u4, some (.ref R), u6, u7, u8, u9, u10, u11]) ∧ RowsAt H3 p R m a G)
        ⟨hB2.up nR, ext_new hR, ⟨_, _, _, _, _, _, _, rfl⟩, [], upd_same, Dats.nil⟩ ?_ ?_
      · rintro a σ H3 ha ⟨hB3, x3, ⟨u4, u6, u7, u8, u9, u10, u11, rfl⟩, xs, hRs, hD⟩
        rw [Int.zero_add]
        have hL3 := x3 _ _ hLs nL.symm
        walk_at "op"
        refine ⟨by show 0 ≤ sizeLine; omega, fun W hW => ?_⟩
        have nW := hB3.ne hW
        have nLW : L ≠ W := ne_of_none hL3 hW
        have nRW : R ≠ W := ne_of_none hRs hW
        walk_at "st"
        rw [Int.toNat_natCast]
        refine fR (fun b σ H4 => Bag H4 p ∧ Ext p H3 H4 ∧ (∃ u8 u9 u10 u11, σ = [some (.ref p), some (.int m), some (.int way), some (.ref L), u4, some (.ref R), some (.int a), some (.ref W), u8, u9, u10, u11]) ∧ RowAt H4 W a b G)
          ⟨hB3.up nW, ext_new hW, ⟨_, _, _, _, rfl⟩, upd_same⟩ ?_ ?_
        · rintro b σ H4 hb ⟨hB4, x4, ⟨u8, u9, u10, u11, rfl⟩, hWs⟩
          rw [Int.zero_add]
          have hL4 := x4 _ _ hL3 nL.symm
          walk_at "op"
          walk_at "st"
          refine ⟨_, _, _, _, rfl, rfl, SqL.of hL4, atI_of (by split <;> split <;> omega) (fs_at (by rw [hl36]; split <;> split <;> omega)), ?_⟩
          walk_at "st"
          refine ⟨_, _, _, _, rfl, rfl, SqL.of hL4, atI_of (i := 0) (by decide) (fs_at (by rw [hl36]; decide)), ?_⟩
          walk_at "st"
          refine ⟨by show 7 ≤ sizeLine; decide, fun S hS => ?_⟩
          have nWS : W ≠ S := ne_of_none hWs hS
          have nS := hB4.ne hS
          walk_at "st"
          have hW5 : ∀ o, upd H4 S o W = some (.lst (((List.range b).map fun y => G a y).map V.int)) := fun o => by rw [upd_ne nWS]; exact hWs
          refine ⟨.inl ⟨rfl, _, SqL.of (hW5 _)⟩, ?_⟩
          walk_at "st"
          refine ⟨_, _, _, _, rfl, rfl, SqL.of upd_same, atI_of (v := .int (G a b)) hw0 (by show ((ways7 fs m a b).map V.int)[way.toNat]? = _; rw [List.getElem?_map, hGat]; rfl), ?_⟩
          refine ⟨_, _, _, rfl, rfl, hW5 _, by rw [List.length_map, List.length_map, List.length_range]; exact small1000 (by omega), ?_⟩
          refine ⟨(hB4.up nS).up nW, (x4.off (x4.free nS.symm hS)).off hW, ⟨_, _, _, _, rfl⟩, ?_⟩
          show _ = _
          rw [upd_same, range_snoc, List.map_append]
          rfl
        · rintro σ H4 ⟨hB4, x4, ⟨u8, u9, u10, u11, rfl⟩, hWs⟩
          have hR4 := x4 _ _ hRs nR.symm
          walk_at "op"
          walk_at "st"
          refine ⟨.inl ⟨rfl, _, SqL.of hR4⟩, ?_⟩
          walk_at "st"
          refine ⟨_, _, rfl, .inl ⟨SqL.of hWs, fun t ht => ?_⟩⟩
          have nRt : R ≠ t := ne_of_none hR4 ht
          have nt := hB4.ne ht
          refine ⟨_, _, _, rfl, rfl, (by rw [upd_ne nRt]; exact hR4), by rw [hD.1, List.length_map, List.length_range]; exact small1000 (by omega), ?_⟩
          refine ⟨(hB4.up nt).up nR, ((x3.trans x4).off ((x3.trans x4).free nt.symm ht)).off hR, ⟨_, _, _, _, _, _, _, rfl⟩, _, upd_same, ?_⟩
          rw [range_snoc]
          have hD4 : Dats (upd H4 t (.tup (((List.range m).map fun y => G a y).map V.int))) p xs _ := (hD.ext x4).ext (ext_new ht)
          refine Dats.snoc (hD4.setL (by rw [upd_ne nRt]; exact hR4) fun d hd => ?_) (Dat.setL (by rw [upd_ne nRt]; exact hR4) (Dat.new ht nt.symm ?_) (noList_ints _ _))
          · obtain ⟨x, _, rfl⟩ := List.mem_map.mp hd
            exact noList_ints _ _
          · have q := Dats.ints (H := H4) (p := p) ((List.range m).map fun y => G a y)
            rw [List.map_map (g := PyData.int)] at q
            exact q
      · rintro σ H3 ⟨hB3, x3, ⟨u4, u6, u7, u8, u9, u10, u11, rfl⟩, xs, hRs, hD⟩
        walk_at "op"
        walk_at "st"
        refine ⟨_, _, rfl, .inl ⟨SqL.of hRs, fun t ht => ?_⟩⟩
        have nt := hB3.ne ht
        exact k _ _ _ (hB3.up nt) ((x02.trans x3).trans (ext_new ht)) (Dat.new ht nt.symm hD) (tab_of hG hGb)

end
end Fm
end FQ5
section FQ6
set_option Elab.async false
set_option linter.all false
set_option maxRecDepth 100000
set_option maxHeartbeats 4000000
local macro_rules | `(tactic| walk_at "ne") => `(tactic| first | assumption | (apply Ne.symm; assumption) | exact L2.ne_of_none (by assumption) (by assumption) | exact Ne.symm (L2.ne_of_none (by assumption) (by assumption)))
local macro_rules | `(tactic| walk_at "hl") => `(tactic| first | assumption | exact L2.upd_same | (refine Eq.trans (L2.upd_ne (by walk_at "ne")) ?_; walk_at "hl"))
local macro_rules | `(tactic| walk_at "sd") => `(tactic| first | (with_reducible show (_ : Int) < _; omega) | (with_reducible show (_ : Int) ≤ _; omega) | assumption | decide | exact ⟨by assumption, by assumption⟩ | exact ⟨by decide, by decide⟩ | exact Or.inr ⟨by decide, by decide⟩ | exact Or.inl ⟨by omega, by omega⟩ | rfl)
local macro_rules | `(tactic| walk_at "st1") => `(tactic| first
  | refine ⟨_, rfl, ?_⟩
  | refine ⟨_, _, rfl, rfl, ?_⟩
  | refine ⟨_, _, rfl, ?_⟩
  | (refine ⟨_, _, _, _, rfl, rfl, L2.SqL.of (by walk_at "hl"), rfl, ?_⟩)
  | (refine ⟨_, _, _, _, rfl, rfl, L2.SqT.of (by walk_at "hl"), rfl, ?_⟩)
  | (refine ⟨_, _, _, _, rfl, rfl, (by walk_at "hl"), rfl, ?_⟩)
  | (refine And.intro (by walk_at "sd") ?_)
  )
local macro_rules | `(tactic| walk_at "st") => `(tactic| repeat walk_at "st1")
local macro_rules | `(tactic| walk_at "op") => `(tactic| try dsimp only [L2.tSeq, L2.tAsg, L2.tOp, L2.tVar, L2.tC, L2.gSub, L2.rI, L2.rI0, L2.rIxL, L2.rIxT, L2.rSetL, L2.tIfS, L2.tTest, L2.tRet, L2.gName, L2.tNext, L2.tAnd, L2.tOr, L2.tNot, L2.tAndV, L2.tOrV, L2.tNotV, L2.tB, L2.tCB, L2.tCons, L2.tNil, L2.tCall, L2.tTup, L2.tLst, L2.tChain, L2.tUn, L2.tPar, L2.tDrop, L2.tIf, L2.tBM, L2.tBM0, L2.rAppend, L2.rCat, L2.rIsi, L2.rIsiT, L2.gTup, L2.gCons, L2.gNil, Fm.tFor_eq, Fm.tLc_eq, L2.iTup, L2.iList, L2.iRng1, L2.iRng2, L2.tSl, L2.tPart, L2.tNoPart, L2.rSlL, L2.rEq, L2.rNe, L2.rU, L2.rEqD, L2.rNeD, Fm.tRevT, Fm.rLenS, Fm.rTupOf, Fm.rLstOf, L2.tDNewK, L2.tCallS, L2.WE, Fm.wKeep, Fm.rIsK, Fm.rIsKT, List.cons_append, List.nil_append, L2.tYes])
namespace Fm
open PySem PySem.Spec PyProof.Rows L2
abbrev s_law_up : Stmt := top 55
abbrev N_law_up : List Str := ["bag", "m", "stay", "way", "free", "k", "rows", "a", "row", "b", "least", "most", "some"]
theorem sc_law_up : FnScope N_law_up ["bag", "m", "stay"] (defScope s_law_up) := ⟨rfl, rfl, rfl, by decide +kernel, rfl, by decide +kernel, by decide +kernel⟩
section
variable {P : Program} {w : World} {K : PySem.W.Frag} {mg : Str → Option Value} {base : Heap}
/-- a number of rows of data -/
def cellI (rs : List PyData) (a b : Nat) : Int := match cellD rs a b with
  | .int i => i
  | _ => 0
theorem cellI_in {m : Nat} {rs : List PyData} (hl : rs.length = m) (hr : ∀ r ∈ rs, RowD m r) {a b : Nat} (ha : a < m) (hb : b < m) : 0 ≤ cellI rs a b ∧ cellI rs a b < (m : Int) := by
  have e1 : rs[a]? = some rs[a] := List.getElem?_eq_getElem (by omega)
  obtain ⟨es, he, hes, hi⟩ := hr rs[a] (List.getElem_mem _)
  have e2 : es[b]? = some es[b] := List.getElem?_eq_getElem (by omega)
  obtain ⟨i, hei, h0, h1⟩ := hi es[b] (List.getElem_mem _)
  have : cellD rs a b = .int i := by
    unfold cellD
    rw [e1, he]
    simp only [e2, hei, Option.getD_some]
  unfold cellI
  rw [this]
  exact ⟨h0, h1⟩
theorem cellI_comm {m : Nat} {rs : List PyData} (h : ∀ a b, a < m → b < m → cellD rs a b = cellD rs b a) {a b : Nat} (ha : a < m) (hb : b < m) : cellI rs a b = cellI rs b a := by
  unfold cellI
  rw [h a b ha hb]
theorem tab_of2 {m : Nat} {G : Nat → Nat → Int} (hs : ∀ a b, a < m → b < m → G a b = G b a) (hb : ∀ a b, a < m → b < m → 0 ≤ G a b ∧ G a b < (m : Int)) :
    TabD m (.tuple ((List.range m).map fun a => .tuple ((List.range m).map fun b => .int (G a b)))) := by
  refine ⟨_, rfl, by simp, fun r hr => ?_, fun a b ha hb => ?_⟩
  · obtain ⟨a, ha, rfl⟩ := List.mem_map.mp hr
    refine ⟨_, rfl, by simp, fun e he => ?_⟩
    obtain ⟨b, hb', rfl⟩ := List.mem_map.mp he
    exact ⟨_, rfl, hb a b (List.mem_range.mp ha) (List.mem_range.mp hb')⟩
  · have c : ∀ x y, x < m → y < m → cellD ((List.range m).map fun a => PyData.tuple ((List.range m).map fun b => .int (G a b))) x y = .int (G x y) := fun x y hx hy => by
      unfold cellD
      simp [hx, hy]
    rw [c a b ha hb, c b a hb ha, hs a b ha hb]
/-- the six ways of an up table's number -/
def ways6 (fs : List Int) (c m a b : Int) : List Int :=
  let lo := if b < a then b else a
  let hi := if b > a then b else a
  [fs.getD (lo * 6 + hi).toNat 0, lo, hi, (a + b) / m, fs.getD 0 0, c]
theorem ways6_comm (fs : List Int) (c m a b : Int) : ways6 fs c m a b = ways6 fs c m b a := by
  have e1 : (if b < a then b else a) = if a < b then a else b := by split <;> split <;> omega
  have e2 : (if b > a then b else a) = if a > b then a else b := by split <;> split <;> omega
  unfold ways6
  rw [e1, e2, Int.add_comm b a]
theorem ways6_in {fs : List Int} {c : Int} {m : Nat} {a b : Nat} (hf : ∀ f ∈ fs, 0 ≤ f ∧ f < (m : Int)) (hl : fs.length = 36) (hm : m ≤ 6) (ha : a < m) (hb : b < m) (hc : 0 ≤ c ∧ c < (m : Int)) : ∀ e ∈ ways6 fs c m a b, 0 ≤ e ∧ e < (m : Int) := by
  have gd : ∀ i, i < 36 → 0 ≤ fs.getD i 0 ∧ fs.getD i 0 < (m : Int) := fun i hi => by
    rw [List.getD_eq_getElem?_getD, List.getElem?_eq_getElem (show i < fs.length by omega), Option.getD_some]
    exact hf _ (List.getElem_mem _)
  intro e he
  unfold ways6 at he
  simp only [List.mem_cons, List.not_mem_nil, or_false] at he
  have m0 : (0 : Int) < m := by omega
  rcases he with rfl | rfl | rfl | rfl | rfl | rfl
  · apply gd
    split <;> split <;> omega
  · split <;> omega
  · split <;> omega
  · refine ⟨Int.ediv_nonneg (by omega) (by omega), ?_⟩
    apply Int.ediv_lt_of_lt_mul m0
    by_cases h1 : m = 1
    · subst h1
      omega
    · have : (m : Int) * m ≥ 2 * m := Int.mul_le_mul_of_nonneg_right (by omega) (by omega)
      omega
  · exact gd 0 (by omega)
  · exact hc
def spUp : Sp := fun vs H Q _ => ∃ (p : Addr) (m : Nat) (sv : V) (sd : PyData), vs = [.ref p, .int m, sv] ∧ 1 ≤ m ∧ m ≤ 6 ∧ Bag H p ∧ Dat H p sv sd ∧ TabD m sd ∧ ∀ (v : V) (d : PyData) (H' : Hp), Bag H' p → Ext p H H' → Dat H' p v d → TabD m d → Q v H'
theorem ok_law_up (D : Df K mg "_law_up" s_law_up ["bag", "m", "stay"]) (T : Nms mg) (c_law_pick : CallOk P w K mg base CX0 1 "_law_pick" ["bag", "many"] spPick) : CallOk P w K mg base CX0 2 "_law_up" ["bag", "m", "stay"] spUp := by
  refine df_ok D sc_law_up (fun vs H Q E h => ?_) (fun f cdv A outer s H vs Q E hr h => ?_)
  · obtain ⟨p, m, sv, sd, rfl, _⟩ := h
    rfl
  · obtain ⟨p, m, sv, sd, rfl, hm1, hm6, hB, hSD, hST, k⟩ := h
    obtain ⟨srs, rfl, hsl, hsr, hss⟩ := hST
    obtain ⟨sa, sx, rfl, hsa, hsp, hsD⟩ := hSD.isTup
    have nd := sc_law_up.nd
    have m0 : (0 : Int) < m := by omega
    have ml : (m : Int).natAbs.log2 < 9000 := Nat.lt_of_le_of_lt (Nat.log2_le_self _) (by omega)
    refine ⟨_, (pss_cons (ps_set (i := 3) nd rfl (Or.inl rfl) (pe_cc c_law_pick (hr.mono (by omega)) (pa_cons (pv 0) (pa_cons pe_int pa_nil))))
      (pss_cons (ps_setLc (i := 4) (own := [("k", 5)]) (g := (gName 5)) (tt := tYes) (by rfl) nd rfl rfl (sw_true rfl rfl rfl (by decide +kernel)) (pi_range1 rfl T.n_range (pa_cons pe_int pa_nil)) (blkOk_by (own := [("k", 5)]) (N := N_law_up) (sc := defScope s_law_up) (by decide +kernel)) (fun _ _ _ _ _ => (pg_name (i := 5) nd rfl (Or.inl rfl))) (fun _ _ _ _ _ => pts_nil) (fun _ _ _ _ _ => (pe_cc c_law_pick (hr.mono (by omega)) (pa_cons (pv 0) (pa_cons (pv 1) pa_nil)))))
      (pss_cons (ps_set (i := 6) nd rfl (Or.inl rfl) (pe_lst pa_nil))
      (pss_cons (ps_for PassesOwn.never rfl (pi_range1 rfl T.n_range (pa_cons (pv 1) pa_nil)) (pg_name (i := 7) nd rfl (Or.inl rfl)) (pss_cons (ps_set (i := 8) nd rfl (Or.inl rfl) (pe_lst pa_nil))
      (pss_cons (ps_for PassesOwn.never rfl (pi_range1 rfl T.n_range (pa_cons (pv 1) pa_nil)) (pg_name (i := 9) nd rfl (Or.inl rfl)) (pss_cons (ps_par (i := 10) (j := 11) (by rfl) nd rfl rfl (by decide) rfl rfl (pa_cons (pe_callB (call_min2 rfl) (by rfl) T.n_min (by decide +kernel) (pa_cons (pv 7) (pa_cons (pv 9) pa_nil))) (pa_cons (pe_callB (call_max2 rfl) (by rfl) T.n_max (by decide +kernel) (pa_cons (pv 7) (pa_cons (pv 9) pa_nil))) pa_nil)) (by rfl))
      (pss_cons (ps_set (i := 12) nd rfl (Or.inl rfl) (pe_lst (pa_cons (pe_ix (r := rIxL K) ix_list (pv 4) (pe_op op_add (pe_op op_mul (pv 10) pe_int) (pv 11)) (fun _ _ => rfl)) (pa_cons (pv 10) (pa_cons (pv 11) (pa_cons (pe_op op_fdivW (pe_op op_add (pv 7) (pv 9)) (pv 1)) (pa_cons (pe_ix (r := rIxL K) ix_list (pv 4) pe_int (fun _ _ => rfl)) (pa_cons (pe_ix (r := rIxT K) ix_tup (pe_ix (r := rIxT K) ix_tup (pv 2) (pv 7) (fun _ _ => rfl)) (pv 9) (fun _ _ => rfl)) pa_nil))))))))
      (pss_one (ps_expr (pe_bm PySem.F.plainAttrs_list PySem.F.slot_list_append PySem.F.type_list_append mt_append (pv 8) (pa_cons (pe_ix (r := rIxL K) ix_list (pv 12) (pv 3) (fun _ _ => rfl)) pa_nil)))))))
      (pss_one (ps_expr (pe_bm PySem.F.plainAttrs_list PySem.F.slot_list_append PySem.F.type_list_append mt_append (pv 6) (pa_cons (pe_callTy (r := rTupOf K) call_tupOf (by rfl) T.n_tuple (by decide +kernel) (pa_cons (pv 8) pa_nil)) pa_nil)))))))
      (pss_one (ps_ret (pe_callTy (r := rTupOf K) call_tupOf (by rfl) T.n_tuple (by decide +kernel) (pa_cons (pv 6) pa_nil)))))))), ?_⟩
    walk_at "op"
    walk_at "st"
    refine fun way H1 hw0 hw7 hB1 x1 => ?_
    walk_at "st"
    refine fun L hL => ?_
    have nL := hB1.ne hL
    refine lR (fun i H2 => Bag H2 p ∧ Ext p H1 H2 ∧ ∃ fs : List Int, H2 L = some (.lst (fs.map V.int)) ∧ fs.length = i ∧ ∀ e ∈ fs, 0 ≤ e ∧ e < (m : Int)) ?_ ?_ ?_
    · exact ⟨hB1.up nL, ext_new hL, [], upd_same, rfl, fun e he => by simp at he⟩
    · rintro i H2 hi ⟨hB2, x2, fs, hLs, hl, hf⟩
      walk_at "op"
      refine ⟨rfl, ?_⟩
      walk_at "st"
      refine fun k' H3 k0 k1 hB3 x3 => ?_
      have hL3 := x3 _ _ hLs nL.symm
      refine ⟨_, hL3, by rw [List.length_map, hl]; exact small1000 (by have : Int.toNat 36 = 36 := rfl; omega), hB3.up nL, (x2.trans x3).off hL, fs ++ [k'], ?_, by simp [hl], fun e he => ?_⟩
      · rw [upd_same, List.map_append]
        rfl
      · rcases List.mem_append.mp he with he | he
        · exact hf e he
        · simp at he
          subst he
          exact ⟨k0, k1⟩
    · rintro H2 ⟨hB2, x2, fs, hLs, hl, hf⟩
      have hl36 : fs.length = 36 := hl
      clear hl
      have x02 := x1.trans x2
      let G : Nat → Nat → Int := fun a b => (ways6 fs (cellI srs a b) m a b).getD way.toNat 0
      have hG : ∀ a b, a < m → b < m → G a b = G b a := fun a b ha hb => by show (ways6 fs (cellI srs a b) m a b).getD _ 0 = (ways6 fs (cellI srs b a) m b a).getD _ 0; rw [ways6_comm, cellI_comm hss ha hb]
      have hGat : ∀ a b : Nat, (ways6 fs (cellI srs a b) m a b)[way.toNat]? = some (G a b) := fun a b => by
        have hlen : way.toNat < (ways6 fs (cellI srs a b) m a b).length := by show way.toNat < 6; omega
        show _ = some ((ways6 fs (cellI srs a b) m a b).getD way.toNat 0)
        rw [List.getD_eq_getElem?_getD, List.getElem?_eq_getElem hlen, Option.getD_some]
      have hGb : ∀ a b, a < m → b < m → 0 ≤ G a b ∧ G a b < (m : Int) := fun a b ha hb => ways6_in hf hl36 hm6 ha hb (cellI_in hsl hsr ha hb) _ (List.mem_of_getElem? (hGat a b))
      refine ⟨by show 0 ≤ sizeLine; omega, fun R hR => ?_⟩
      have nR := hB2.ne hR
      have nLR : L ≠ R := ne_of_none hLs hR
      walk_at "st"
      rw [Int.toNat_natCast]
      refine fR (fun a σ H3 => Bag H3 p ∧ Ext p H2 H3 ∧ (∃ u4 u6 u7 u8 u9 u10 u11, σ = [some (.ref p), some (.int m), some (.ref sa), some (.int way), some (.ref L), u4, some (.ref R), u6, u7, u8, u9, u10, u11]) ∧ RowsAt H3 p R m a G)
        ⟨hB2.up nR, ext_new hR, ⟨_, _, _, _, _, _, _, rfl⟩, [], upd_same, Dats.nil⟩ ?_ ?_
      · rintro a σ H3 ha ⟨hB3, x3, ⟨u4, u6, u7, u8, u9, u10, u11, rfl⟩, xs, hRs, hD⟩
        rw [Int.zero_add]
        have hL3 := x3 _ _ hLs nL.symm
        walk_at "op"
        refine ⟨by show 0 ≤ sizeLine; omega, fun W hW => ?_⟩
        have nW := hB3.ne hW
        have nLW : L ≠ W := ne_of_none hL3 hW
        have nRW : R ≠ W := ne_of_none hRs hW
        walk_at "st"
        rw [Int.toNat_natCast]
        refine fR (fun b σ H4 => Bag H4 p ∧ Ext p H3 H4 ∧ (∃ u8 u9 u10 u11, σ = [some (.ref p), some (.int m), some (.ref sa), some (.int way), some (.ref L), u4, some (.ref R), some (.int a), some (.ref W), u8, u9, u10, u11]) ∧ RowAt H4 W a b G)
          ⟨hB3.up nW, ext_new hW, ⟨_, _, _, _, rfl⟩, upd_same⟩ ?_ ?_
        · rintro b σ H4 hb ⟨hB4, x4, ⟨u8, u9, u10, u11, rfl⟩, hWs⟩
          rw [Int.zero_add]
          have hL4 := x4 _ _ hL3 nL.symm
          walk_at "op"
          walk_at "st"
          refine ⟨_, _, _, _, rfl, rfl, SqL.of hL4, atI_of (by split <;> split <;> omega) (fs_at (by rw [hl36]; split <;> split <;> omega)), ?_⟩
          walk_at "st"
          refine ⟨_, _, _, _, rfl, rfl, SqL.of hL4, atI_of (i := 0) (by decide) (fs_at (by rw [hl36]; decide)), ?_⟩
          walk_at "st"
          have hsa4 := x4 _ _ (x3 _ _ (x2 _ _ (x1 _ _ hsa hsp) hsp) hsp) hsp
          obtain ⟨ra, ys, ci, a1, a2, a3, a4, _⟩ := cell_at ((((hsD.ext x1).ext x2).ext x3).ext x4) hsl hsr (a := a) (b := b) (by omega) (by omega)
          have hci : ci = cellI srs a b := by unfold cellI; rw [a4]
          subst hci
          refine ⟨_, _, _, _, rfl, rfl, SqT.of hsa4, atI_nat a1, ?_⟩
          walk_at "st"
          refine ⟨_, _, _, _, rfl, rfl, SqT.of a2, atI_nat a3, ?_⟩
          refine ⟨by show 6 ≤ sizeLine; decide, fun S hS => ?_⟩
          have nWS : W ≠ S := ne_of_none hWs hS
          have nS := hB4.ne hS
          walk_at "st"
          have hW5 : ∀ o, upd H4 S o W = some (.lst (((List.range b).map fun y => G a y).map V.int)) := fun o => by rw [upd_ne nWS]; exact hWs
          refine ⟨.inl ⟨rfl, _, SqL.of (hW5 _)⟩, ?_⟩
          walk_at "st"
          refine ⟨_, _, _, _, rfl, rfl, SqL.of upd_same, atI_of (v := .int (G a b)) hw0 (by show ((ways6 fs (cellI srs a b) m a b).map V.int)[way.toNat]? = _; rw [List.getElem?_map, hGat]; rfl), ?_⟩
          refine ⟨_, _, _, rfl, rfl, hW5 _, by rw [List.length_map, List.length_map, List.length_range]; exact small1000 (by omega), ?_⟩
          refine ⟨(hB4.up nS).up nW, (x4.off (x4.free nS.symm hS)).off hW, ⟨_, _, _, _, rfl⟩, ?_⟩
          show _ = _
          rw [upd_same, range_snoc, List.map_append]
          rfl
        · rintro σ H4 ⟨hB4, x4, ⟨u8, u9, u10, u11, rfl⟩, hWs⟩
          have hR4 := x4 _ _ hRs nR.symm
          walk_at "op"
          walk_at "st"
          refine ⟨.inl ⟨rfl, _, SqL.of hR4⟩, ?_⟩
          walk_at "st"
          refine ⟨_, _, rfl, .inl ⟨SqL.of hWs, fun t ht => ?_⟩⟩
          have nRt : R ≠ t := ne_of_none hR4 ht
          have nt := hB4.ne ht
          refine ⟨_, _, _, rfl, rfl, (by rw [upd_ne nRt]; exact hR4), by rw [hD.1, List.length_map, List.length_range]; exact small1000 (by omega), ?_⟩
          refine ⟨(hB4.up nt).up nR, ((x3.trans x4).off ((x3.trans x4).free nt.symm ht)).off hR, ⟨_, _, _, _, _, _, _, rfl⟩, _, upd_same, ?_⟩
          rw [range_snoc]
          have hD4 : Dats (upd H4 t (.tup (((List.range m).map fun y => G a y).map V.int))) p xs _ := (hD.ext x4).ext (ext_new ht)
          refine Dats.snoc (hD4.setL (by rw [upd_ne nRt]; exact hR4) fun d hd => ?_) (Dat.setL (by rw [upd_ne nRt]; exact hR4) (Dat.new ht nt.symm ?_) (noList_ints _ _))
          · obtain ⟨x, _, rfl⟩ := List.mem_map.mp hd
            exact noList_ints _ _
          · have q := Dats.ints (H := H4) (p := p) ((List.range m).map fun y => G a y)
            rw [List.map_map (g := PyData.int)] at q
            exact q
      · rintro σ H3 ⟨hB3, x3, ⟨u4, u6, u7, u8, u9, u10, u11, rfl⟩, xs, hRs, hD⟩
        walk_at "op"
        walk_at "st"
        refine ⟨_, _, rfl, .inl ⟨SqL.of hRs, fun t ht => ?_⟩⟩
        have nt := hB3.ne ht
        exact k _ _ _ (hB3.up nt) ((x02.trans x3).trans (ext_new ht)) (Dat.new ht nt.symm hD) (tab_of2 hG hGb)

end
end Fm
end FQ6
section FQ7
set_option Elab.async false
set_option linter.all false
set_option maxRecDepth 100000
set_option maxHeartbeats 4000000
local macro_rules | `(tactic| walk_at "ne") => `(tactic| first | assumption | (apply Ne.symm; assumption) | exact L2.ne_of_none (by assumption) (by assumption) | exact Ne.symm (L2.ne_of_none (by assumption) (by assumption)))
local macro_rules | `(tactic| walk_at "hl") => `(tactic| first | assumption | exact L2.upd_same | (refine Eq.trans (L2.upd_ne (by walk_at "ne")) ?_; walk_at "hl"))
local macro_rules | `(tactic| walk_at "sd") => `(tactic| first | (with_reducible show (_ : Int) < _; omega) | (with_reducible show (_ : Int) ≤ _; omega) | assumption | decide | exact ⟨by assumption, by assumption⟩ | exact ⟨by decide, by decide⟩ | exact Or.inr ⟨by decide, by decide⟩ | exact Or.inl ⟨by omega, by omega⟩ | rfl)
local macro_rules | `(tactic| walk_at "st1") => `(tactic| first
  | refine ⟨_, rfl, ?_⟩
  | refine ⟨_, _, rfl, rfl, ?_⟩
  | refine ⟨_, _, rfl, ?_⟩
  | (refine ⟨_, _, _, _, rfl, rfl, L2.SqL.of (by walk_at "hl"), rfl, ?_⟩)
  | (refine ⟨_, _, _, _, rfl, rfl, L2.SqT.of (by walk_at "hl"), rfl, ?_⟩)
  | (refine ⟨_, _, _, _, rfl, rfl, (by walk_at "hl"), rfl, ?_⟩)
  | (refine And.intro (by walk_at "sd") ?_)
  )
local macro_rules | `(tactic| walk_at "st") => `(tactic| repeat walk_at "st1")
local macro_rules | `(tactic| walk_at "op") => `(tactic| try dsimp only [L2.tSeq, L2.tAsg, L2.tOp, L2.tVar, L2.tC, L2.gSub, L2.rI, L2.rI0, L2.rIxL, L2.rIxT, L2.rSetL, L2.tIfS, L2.tTest, L2.tRet, L2.gName, L2.tNext, L2.tAnd, L2.tOr, L2.tNot, L2.tAndV, L2.tOrV, L2.tNotV, L2.tB, L2.tCB, L2.tCons, L2.tNil, L2.tCall, L2.tTup, L2.tLst, L2.tChain, L2.tUn, L2.tPar, L2.tDrop, L2.tIf, L2.tBM, L2.tBM0, L2.rAppend, L2.rCat, L2.rIsi, L2.rIsiT, L2.gTup, L2.gCons, L2.gNil, Fm.tFor_eq, Fm.tLc_eq, L2.iTup, L2.iList, L2.iRng1, L2.iRng2, L2.tSl, L2.tPart, L2.tNoPart, L2.rSlL, L2.rEq, L2.rNe, L2.rU, L2.rEqD, L2.rNeD, Fm.tRevT, Fm.rLenS, Fm.rTupOf, Fm.rLstOf, L2.tDNewK, L2.tCallS, L2.WE, Fm.wKeep, Fm.rIsK, Fm.rIsKT, List.cons_append, List.nil_append, L2.tYes])
namespace Fm
open PySem PySem.Spec PyProof.Rows L2
abbrev s_law_house : Stmt := top 56
abbrev N_law_house : List Str := ["bag", "m", "floors", "found", "k", "stay"]
theorem sc_law_house : FnScope N_law_house ["bag"] (defScope s_law_house) := ⟨rfl, rfl, rfl, by decide +kernel, rfl, by decide +kernel, by decide +kernel⟩
section
variable {P : Program} {w : World} {K : PySem.W.Frag} {mg : Str → Option Value} {base : Heap}
theorem row_fit {m : Nat} {d : PyData} (hm : m ≤ 6) (h : RowD m d) : Fit 300 1 d ∧ noList d = true ∧ d.hasDict = false := by
  obtain ⟨ds, rfl, hl, hd⟩ := h
  have h1 : ∀ e ∈ ds, Fit 41 0 e := fun e he => by
    obtain ⟨i, rfl, h0, hi⟩ := hd e he
    refine fit_int ?_
    have : i.natAbs < 10 := by omega
    exact Nat.lt_of_lt_of_le this (by decide)
  have h2 : ∀ e ∈ ds, noList e = true := fun e he => by
    obtain ⟨i, rfl, _⟩ := hd e he
    unfold noList
    rfl
  have h3 : ∀ e ∈ ds, e.hasDict = false := fun e he => by
    obtain ⟨i, rfl, _⟩ := hd e he
    simp only [PyData.hasDict]
  exact ⟨(fit_tup h1 h2).mono (by rw [hl]; omega) (by omega), noList_of h2, by simp only [PyData.hasDict]; exact hasDict_all h3⟩
theorem tab_fit {m : Nat} {d : PyData} (hm : m ≤ 6) (h : TabD m d) : Fit 2000 2 d ∧ noList d = true ∧ d.hasDict = false := by
  obtain ⟨ds, rfl, hl, hd, _⟩ := h
  have h1 := fun e he => row_fit hm (hd e he)
  exact ⟨(fit_tup (fun e he => (h1 e he).1) fun e he => (h1 e he).2.1).mono (by rw [hl]; omega) (by omega), noList_of fun e he => (h1 e he).2.1, by simp only [PyData.hasDict]; exact hasDict_all fun e he => (h1 e he).2.2⟩
theorem floor_fit {m : Nat} {d : PyData} (hm : m ≤ 6) (h : FloorD m d) : Fit 5000 3 d ∧ noList d = true ∧ d.hasDict = false := by
  obtain ⟨s, u, rfl, hs, hu⟩ := h
  have h1 : ∀ e ∈ [s, u], Fit 2000 2 e ∧ noList e = true ∧ e.hasDict = false := fun e he => by
    simp only [List.mem_cons, List.not_mem_nil, or_false] at he
    rcases he with rfl | rfl
    · exact tab_fit hm hs
    · exact tab_fit hm hu
  exact ⟨(fit_tup (fun e he => (h1 e he).1) fun e he => (h1 e he).2.1).mono (by show _ * 2 + 3 ≤ _; omega) (by omega), noList_of fun e he => (h1 e he).2.1, by simp only [PyData.hasDict]; exact hasDict_all fun e he => (h1 e he).2.2⟩
theorem house_fit {m n : Nat} {d : PyData} (h : HouseN m n d) : Fit 30000 4 d ∧ noList d = true ∧ d.hasDict = false := by
  obtain ⟨ds, rfl, hl, h1, h4, _, hm, hd⟩ := h
  have h1 := fun e he => floor_fit hm (hd e he)
  exact ⟨(fit_tup (fun e he => (h1 e he).1) fun e he => (h1 e he).2.1).mono (by rw [hl]; omega) (by omega), noList_of fun e he => (h1 e he).2.1, by simp only [PyData.hasDict]; exact hasDict_all fun e he => (h1 e he).2.2⟩
def spMkHouse : Sp := fun vs H Q _ => ∃ p : Addr, vs = [.ref p] ∧ Bag H p ∧ ∀ (v : V) (d : PyData) (m n : Nat) (H' : Hp), Bag H' p → Ext p H H' → Dat H' p v d → HouseN m n d → Q v H'
theorem ok_law_house (D : Df K mg "_law_house" s_law_house ["bag"]) (T : Nms mg) (c_law_pick : CallOk P w K mg base CX0 1 "_law_pick" ["bag", "many"] spPick) (c_law_table : CallOk P w K mg base CX0 2 "_law_table" ["bag", "m"] spTab)
    (c_law_up : CallOk P w K mg base CX0 2 "_law_up" ["bag", "m", "stay"] spUp) : CallOk P w K mg base CX0 3 "_law_house" ["bag"] spMkHouse := by
  refine df_ok D sc_law_house (fun vs H Q E h => ?_) (fun f cdv A outer s H vs Q E hr h => ?_)
  · obtain ⟨p, rfl, _⟩ := h
    rfl
  · obtain ⟨p, rfl, hB, k⟩ := h
    have nd := sc_law_house.nd
    refine ⟨_, (pss_cons (ps_par (i := 1) (j := 2) (by rfl) nd rfl rfl (by decide) rfl rfl (pa_cons (pe_op op_add pe_int (pe_cc c_law_pick (hr.mono (by omega)) (pa_cons (pv 0) (pa_cons (pe_ix (r := rIxL K) ix_list (pe_lst (pa_cons pe_int (pa_cons pe_int pa_nil))) (pe_cc c_law_pick (hr.mono (by omega)) (pa_cons (pv 0) (pa_cons pe_int pa_nil))) (fun _ _ => rfl)) pa_nil)))) (pa_cons (pe_op op_add pe_int (pe_cc c_law_pick (hr.mono (by omega)) (pa_cons (pv 0) (pa_cons pe_int pa_nil)))) pa_nil)) (by rfl))
      (pss_cons (ps_set (i := 3) nd rfl (Or.inl rfl) (pe_lst pa_nil))
      (pss_cons (ps_for PassesOwn.never rfl (pi_range1 rfl T.n_range (pa_cons (pv 2) pa_nil)) (pg_name (i := 4) nd rfl (Or.inl rfl)) (pss_cons (ps_set (i := 5) nd rfl (Or.inl rfl) (pe_cc c_law_table (hr.mono (by omega)) (pa_cons (pv 0) (pa_cons (pv 1) pa_nil))))
      (pss_one (ps_expr (pe_bm PySem.F.plainAttrs_list PySem.F.slot_list_append PySem.F.type_list_append mt_append (pv 3) (pa_cons (pe_tup (pa_cons (pv 5) (pa_cons (pe_cc c_law_up (hr.mono (by omega)) (pa_cons (pv 0) (pa_cons (pv 1) (pa_cons (pv 5) pa_nil)))) pa_nil))) pa_nil))))))
      (pss_one (ps_ret (pe_callTy (r := rTupOf K) call_tupOf (by rfl) T.n_tuple (by decide +kernel) (pa_cons (pv 3) pa_nil))))))), ?_⟩
    walk_at "op"
    walk_at "st"
    refine fun q0 hq0 => ?_
    have hB0 := hB.up (o := .lst [.int 3, .int 6]) (hB.ne hq0)
    have n0 := hB.ne hq0
    walk_at "st"
    refine fun k0 H1 k00 k02 hB1 x1 => ?_
    obtain ⟨c, hc, c1, c6⟩ : ∃ c : Int, atI [V.int 3, V.int 6] k0 = some (.int c) ∧ 1 ≤ c ∧ c ≤ 6 := by
      rcases (show k0 = 0 ∨ k0 = 1 by omega) with rfl | rfl
      · exact ⟨3, rfl, by decide, by decide⟩
      · exact ⟨6, rfl, by decide, by decide⟩
    have hq1 := x1 _ _ (upd_same (H := H) (a := q0)) n0.symm
    have cl : c.natAbs.log2 < 9000 := Nat.lt_of_le_of_lt (Nat.log2_le_self _) (by omega)
    refine ⟨_, _, _, _, rfl, rfl, SqL.of hq1, hc, ?_⟩
    walk_at "st"
    refine fun m1 H2 m10 m11 hB2 x2 => ?_
    walk_at "st"
    refine fun n1 H3 n10 n11 hB3 x3 => ?_
    obtain ⟨m, hm⟩ : ∃ m : Nat, (m : Int) = 1 + m1 := ⟨(1 + m1).toNat, by omega⟩
    obtain ⟨n, hn⟩ : ∃ n : Nat, (n : Int) = 1 + n1 := ⟨(1 + n1).toNat, by omega⟩
    have hm6 : m ≤ 6 := by omega
    have hm1 : 1 ≤ m := by omega
    have hn4 : n ≤ 4 := by omega
    have x03 : Ext p H H3 := (((ext_new hq0).trans x1).trans x2).trans x3
    walk_at "st"
    rw [← hm, ← hn]
    refine fun R hR => ?_
    have nR := hB3.ne hR
    walk_at "st"
    rw [Int.toNat_natCast]
    refine fR (fun i σ H4 => Bag H4 p ∧ Ext p H3 H4 ∧ (∃ u4 u5, σ = [some (.ref p), some (.int m), some (.int n), some (.ref R), u4, u5]) ∧ ∃ xs ds, H4 R = some (.lst xs) ∧ Dats H4 p xs ds ∧ ds.length = i ∧ ∀ e ∈ ds, FloorD m e)
      ⟨hB3.up nR, ext_new hR, ⟨_, _, rfl⟩, [], [], upd_same, Dats.nil, rfl, fun e he => by simp at he⟩ ?_ ?_
    · rintro i σ H4 hi ⟨hB4, x4, ⟨u4, u5, rfl⟩, xs, ds, hRs, hD, hl, hf⟩
      walk_at "op"
      walk_at "st"
      refine fun sv sd H5 hB5 x5 hsd hst => ?_
      have hR5 := x5 _ _ hRs nR.symm
      walk_at "st"
      refine ⟨.inl ⟨rfl, _, SqL.of hR5⟩, ?_⟩
      walk_at "st"
      refine ⟨p, m, sv, sd, rfl, hm1, hm6, hB5, hsd, hst, fun uv ud H6 hB6 x6 hud hut => ?_⟩
      have hR6 := x6 _ _ hR5 nR.symm
      refine ⟨by show 2 ≤ sizeLine; decide, fun t ht => ?_⟩
      have nt := hB6.ne ht
      have nRt : R ≠ t := ne_of_none hR6 ht
      have x36 := (x4.trans x5).trans x6
      refine ⟨_, _, _, rfl, rfl, (by rw [upd_ne nRt]; exact hR6), by rw [hD.1, hl]; exact small1000 (by omega), ?_⟩
      have hD6 : Dats (upd H6 t (.tup [sv, uv])) p xs ds := ((hD.ext x5).ext x6).ext (ext_new ht)
      have hN : Dat (upd H6 t (.tup [sv, uv])) p (.ref t) (.tuple [sd, ud]) := Dat.new ht nt.symm (Dats.cons (hsd.ext x6) (Dats.cons hud Dats.nil))
      have hFN : FloorD m (.tuple [sd, ud]) := ⟨sd, ud, rfl, hst, hut⟩
      refine ⟨(hB6.up nt).up nR, (x36.off (x36.free nt.symm ht)).off hR, ⟨_, _, rfl⟩, _, _, upd_same, Dats.snoc (hD6.setL (by rw [upd_ne nRt]; exact hR6) fun e he => (floor_fit hm6 (hf e he)).2.1) (hN.setL (by rw [upd_ne nRt]; exact hR6) (floor_fit hm6 hFN).2.1), by simp [hl], fun e he => ?_⟩
      rcases List.mem_append.mp he with he | he
      · exact hf e he
      · simp at he
        subst he
        exact hFN
    · rintro σ H4 ⟨hB4, x4, ⟨u4, u5, rfl⟩, xs, ds, hRs, hD, hl, hf⟩
      walk_at "op"
      walk_at "st"
      refine ⟨_, _, rfl, .inl ⟨SqL.of hRs, fun t ht => ?_⟩⟩
      have nt := hB4.ne ht
      exact k _ _ m n _ (hB4.up nt) ((x03.trans x4).trans (ext_new ht)) (Dat.new ht nt.symm hD) ⟨ds, rfl, hl, by omega, hn4, hm1, hm6, hf⟩

end
end Fm
end FQ7
section FFmMore
set_option Elab.async false
set_option linter.all false
set_option maxRecDepth 100000
set_option maxHeartbeats 4000000
namespace Fm
open PySem PySem.Spec PyProof.Rows L2
/-- the sum of a tuple's ints -/
def rSumT (K : PySem.W.Frag) : List V → Hp → VK → Prop := fun vs H Q => ∃ (a : Addr) (ns : List Int), vs = [V.ref a] ∧ SqT K H a (ns.map V.int) ∧ Q (.int ns.sum) H
theorem cr_sumT {X : Cx} (hc : X.calm = true) : CallR X (.builtin "sum") (rSumT X.K) := by
  intro pins s σ H vs us Q I r h
  obtain ⟨a, ns, rfl, hs, q⟩ := h
  obtain ⟨its, rv, ⟨o, ho, hcl, n, hd⟩, _⟩ := I.tuple hs
  obtain rfl := Vals.ref1 r
  have hi := rv.ints
  obtain ⟨xs, e⟩ := hi.allInts.items
  have hn : numsOf (PySem.intItems xs).toList = ns := by rw [← e]; exact hi.numsOf
  rw [nums_intItems] at hn
  rw [e] at hd
  refine PySem.W.ktm_sumG (I.ok.hd hc) ⟨o, ho, hcl, n, hd⟩ fun h' tk t' hk => ?_
  rw [preSum_eq, List.take_of_length_le (by simp), hn]
  exact ⟨.int _, H, I.kept hk, ⟨_, rfl⟩, q⟩
def rSumI (K : PySem.W.Frag) : List V → Hp → VK → Prop := fun vs H Q => rSum K vs H Q ∨ rSumT K vs H Q
theorem cr_sumI {X : Cx} (hc : X.calm = true) : CallR X (.builtin "sum") (rSumI X.K) := (cr_sum hc).or (cr_sumT hc)
/-- xs[i], read by xs[i] += e -/
def rGetL (K : PySem.W.Frag) : V → V → Hp → VK → Prop := fun x y H Q => ∃ (p : Addr) (xs : List V) (i : Nat) (v : V), x = .ref p ∧ y = .int i ∧ SqL K H p xs ∧ xs[i]? = some v ∧ Q v H
theorem get_list {X : Cx} : PGet X (rGetL X.K) := by
  intro pins s σ H o i ov iv Q I ro ri h
  obtain ⟨p, xs, i, z, rfl, rfl, hq, he, q⟩ := h
  cases ro
  obtain ⟨t, rfl⟩ := ri
  obtain ⟨its, r, pl, hz⟩ := I.list hq
  obtain ⟨u, eu, ru⟩ := r.get he
  have hi : i < xs.length := (List.getElem?_eq_some_iff.mp he).1
  have hn := line63
  refine wpAny_getItem_list pl.isList (by omega) (by omega) (x := u) (by simpa using eu) ?_
  exact ⟨z, H, I, ru, q⟩
/-- a tuple at a, its items counted -/
def IteT (K : PySem.W.Frag) (a : Addr) : It where
  go := fun i H => ∃ (xs : List V) (x : V), SqT K H a xs ∧ xs[i]? = some x
  yld := fun i H v H' => ∃ T x, v = .ref T ∧ H T = none ∧ H' = upd H T (.tup [.int (i : Nat), x]) ∧ ∀ xs, SqT K H a xs → xs[i]? = some x
  stop := fun i H => ∃ xs : List V, SqT K H a xs ∧ xs.length ≤ i
end Fm
end FFmMore
section FFmMore2
set_option Elab.async false
set_option linter.all false
set_option maxRecDepth 100000
set_option maxHeartbeats 4000000
namespace Fm
open PySem PySem.Spec PyProof.Rows L2
/-- the enumerate object e over the tuple at a, its iterator at it, i turns on -/
def EnT (a e it : Addr) (its : Array Value) (i : Nat) (h : Heap) : Prop := (∃ old, IsEnum h e it ((i : Nat) : Int) old) ∧ (h.IsTupleIter it a i ∧ h.IsTuple a its) ∧ e ≠ it ∧ a ≠ it ∧ e ≠ a
theorem turn_enumT {P : Program} {w : World} {K : PySem.W.Frag} {elts : List Expr} {kk : Nat} {tpos : Pos} (a e it : Addr) (hei : e ≠ it) (hai : a ≠ it) (hea : e ≠ a) :
    Turn P w K (.Tuple elts kk tpos) (IteT K a) [e, it] e (fun i h => (∃ old, IsEnum h e it ((i : Nat) : Int) old) ∧ h.IsTupleIter it a i) where
  mem := List.mem_cons_self
  obj := fun i h st b hb => by
    obtain ⟨⟨old, he⟩, o, ho, _, hd⟩ := st
    rcases List.mem_cons.mp hb with z | z
    · subst z
      exact ⟨_, he, fun v q => nomatch q⟩
    · obtain rfl := List.mem_singleton.mp z
      exact ⟨o, ho, fun v q => by rw [hd] at q; cases q⟩
  keep := fun i h h' st k => by
    obtain ⟨⟨old, he⟩, hi⟩ := st
    exact ⟨⟨old, k e List.mem_cons_self _ he⟩, hi.at fun o q => k it (List.mem_cons_of_mem _ List.mem_cons_self) o q⟩
  item := by
    intro X hP hw hK hc i pins s σ H E I hf st hg
    subst hP hw hK
    obtain ⟨⟨old, he⟩, hit⟩ := st
    obtain ⟨xs, x, hq, hx⟩ := hg
    obtain ⟨its, rv, ⟨o, ho, hoc, no, hod⟩, hz⟩ := I.tuple hq
    have ht : s.heap.IsTuple a its.toArray := ⟨o, ho, hoc, no, hod⟩
    obtain ⟨u, hu, ru⟩ := rv.get hx
    have hlt : i < its.toArray.size := by
      rw [List.size_toArray, ← rv.length]
      exact (List.getElem?_eq_some_iff.mp hx).1
    have hel : e < s.heap.objs.size := Heap.lt_size he
    have hil : it < s.heap.objs.size := by
      obtain ⟨_, q, _⟩ := hit
      exact Heap.lt_size q
    have hef : e ∉ [it, a] := by
      intro z
      rcases List.mem_cons.mp z with z | z
      · exact hei z
      · exact hea (List.mem_singleton.mp z)
    refine wpAny_pyNext_enum_itemD (Draws.tuple (prog := X.prog) (w := X.w) (A := X.A.in1) (show X.A.in1.handled = none from I.ok.hd hc) it a hai its.toArray) he ⟨hit, ht⟩ hlt hei hef fun y h' tk hy ho' st' hT hsz hk => ?_
    have ey : y = u := by
      have q : its.toArray[i]? = some u := by simpa using hu
      rw [q] at hy
      exact (Option.some.inj hy).symm
    subst ey
    refine ⟨_, rfl, wpAny_letOwnedTupleGo_enum (s := { s with heap := h', toks := tk + 1 }) ho' fun h2 he2 sb => ?_⟩
    have hT2 : h2.get? s.heap.objs.size = some { cls := .type "tuple", data := .seq #[.int i tk, y] } := (sb.2 _ (Nat.ne_of_gt hel)).trans hT
    have new : ObjOk X.prog X.w (upd H s.heap.objs.size (.tup [.int (i : Nat), x])) h2 s.heap.objs.size (.tup [.int (i : Nat), x]) := by
      refine ⟨by show 2 ≤ sizeLine; decide, [.int i tk, y], .cons ⟨_, rfl⟩ (.cons ru .nil), _, hT2, rfl, _, rfl⟩
    have old2 : ∀ b ob, b ∉ [e, it] → s.heap.get? b = some ob → h2.get? b = some ob := fun b ob hb q => by
      have n1 : b ≠ e := fun z => hb (z ▸ List.mem_cons_self)
      have n2 : b ≠ it := fun z => hb (z ▸ List.mem_cons_of_mem _ List.mem_cons_self)
      exact (sb.2 b n1).trans (hk b ob n1 n2 q)
    have I1 := I.turnedNew (t' := tk + 1) (ch := [e, it]) old2 hf (Nat.le_refl _) new
    refine ⟨.ref s.heap.objs.size, _, I1, rfl, ⟨_, x, rfl, I.hok.fresh (Nat.le_refl _), rfl, fun ys hy => ?_⟩, ⟨⟨y, ?_⟩, ?_⟩, fun b hb => ?_⟩
    · rw [I.tuple_inj hy hq]
      exact hx
    · have e1 : ((i + 1 : Nat) : Int) = (i : Int) + 1 := by omega
      rw [e1]
      exact he2
    · exact st'.1.at fun ob q => (sb.2 it (Ne.symm hei)).trans q
    · have hb' : b < s.heap.objs.size := by
        rcases List.mem_cons.mp hb with z | z
        · rw [z]; exact hel
        · rw [List.mem_singleton.mp z]; exact hil
      rw [upd_ne (Nat.ne_of_lt hb')]
      exact (hf b hb).1
  done := by
    intro X hP hw hK hc i pins s σ H E I hf st hg
    subst hP hw hK
    obtain ⟨⟨old, he⟩, hit⟩ := st
    obtain ⟨xs, hq, hx⟩ := hg
    obtain ⟨its, rv, ⟨o, ho, hoc, no, hod⟩, hz⟩ := I.tuple hq
    have ht : s.heap.IsTuple a its.toArray := ⟨o, ho, hoc, no, hod⟩
    obtain ⟨f0, f1, f2, f3, f4, f5⟩ := hf it (List.mem_cons_of_mem _ List.mem_cons_self)
    have hl : its.toArray.size ≤ i := by
      rw [List.size_toArray, ← rv.length]
      exact hx
    have D : Draws X.prog X.w X.A.in1 it [it, a] i (fun _ _ => False) (fun j h => j = i ∧ h.IsTupleIter it a i ∧ h.IsTuple a its.toArray) := {
      live := fun _ _ st => by
        obtain ⟨o, ho, _⟩ := st.2.1
        exact ⟨o, ho⟩
      frame := fun j h h' st hk => ⟨st.1, st.2.1.at fun o e => hk it List.mem_cons_self o e, st.2.2.at fun o e => hk a (List.mem_cons_of_mem _ List.mem_cons_self) o e⟩
      item := fun j s Q E hj st hQ => absurd st.1 (Nat.ne_of_lt hj)
      done := fun s Q E st hE => wpAny_nextOf_tuple_end (show X.A.in1.handled = none from I.ok.hd hc) st.2.1 st.2.2 (Array.getElem?_eq_none hl) hE }
    exact wpAny_pyNext_enum_endD D he ⟨rfl, hit, ht⟩ fun h' eb => ⟨rfl, I.turned (t' := s.toks) (fun b o hb q => eb b o hb q) f0 f1 f3 f4 f5⟩
  self := fun A i s Q E st h => by
    obtain ⟨⟨_, he⟩, _⟩ := st
    exact wpAny_pyIter_enum he h
end Fm
end FFmMore2
section FFmMore3
set_option Elab.async false
set_option linter.all false
set_option maxRecDepth 100000
set_option maxHeartbeats 4000000
namespace Fm
open PySem PySem.Spec PyProof.Rows L2
theorem meets_enumT (a : Addr) (its : Array Value) :
    Meets (Builtin.«enumerate.__new__» ⟨[.type "enumerate", .ref a], []⟩) (fun _ R s => s.heap.IsTuple a its ∧
      R (.ok (.ret (.ref (s.heap.push { cls := .type "tuple_iterator", data := .fields #[.ref a, .int 0 0] }).objs.size)))
        { s with heap := (s.heap.push { cls := .type "tuple_iterator", data := .fields #[.ref a, .int 0 0] }).push { cls := .type "enumerate", data := .fields #[.none, .bool false, .ref s.heap.objs.size, rawInt 0, .none, .none] } }) :=
  .of_wp fun prog w A R s hh => by
    obtain ⟨hp, g, d, tk, os⟩ := s
    obtain ⟨hT, hh⟩ := hh
    have hsub := PySem.sub_enumerate
    have it1 : ∀ {A' : Around} {E : Value → Shared → Prop} {Q : Value → Shared → Prop}, Q (.ref hp.objs.size) ⟨hp.push { cls := .type "tuple_iterator", data := .fields #[.ref a, .int 0 0] }, g, d, tk, os⟩ → wpAny (model prog w) A' (pyIter (.ref a)) Q E ⟨hp, g, d, tk, os⟩ :=
      fun q => wpAny_pyIter_tuple (s := ⟨hp, g, d, tk, os⟩) hT q
    wp_walk using it1
    refine wpAny_stack_any fun st => wpAny_pure ?_
    split
    · rename_i cc _ _ _ _ _
      cases (cc == Value.type "enumerate") <;> (wp_walk using it1; exact ⟨_, rfl, hh⟩)
    · wp_walk using it1
      exact ⟨_, rfl, hh⟩
theorem call_enumT {prog : Program} {w : World} {A : Around} {E : Value → Shared → Prop} {s : Shared} {a : Addr} {its : Array Value} {Q : Value → Shared → Prop} (hT : s.heap.IsTuple a its)
    (h : ∀ h', IsEnum h' (s.heap.objs.size + 1) s.heap.objs.size 0 .none → h'.IsTupleIter s.heap.objs.size a 0 → (∀ b o, s.heap.get? b = some o → h'.get? b = some o) → Q (.ref (s.heap.objs.size + 1)) { s with heap := h' }) :
    wpAny (model prog w) A (call (.type "enumerate") [.ref a]) Q E s := by
  refine callType_new F.called_enumerate (by decide) (F.typeCall_enumerate_1 _) (F.newCall_enumerate_1 _) (fun obj => F.args_object_init_2 obj _) F.entry_enumerate_new (meets_enumT a its) ⟨hT, ?_⟩
  let h1 := s.heap.push { cls := .type "tuple_iterator", data := .fields #[.ref a, .int 0 0] }
  have hz : h1.objs.size = s.heap.objs.size + 1 := Heap.size_push ..
  show _ ∧ _
  rw [hz]
  let h2 := h1.push { cls := .type "enumerate", data := .fields #[.none, .bool false, .ref s.heap.objs.size, rawInt 0, .none, .none] }
  have he : IsEnum h2 (s.heap.objs.size + 1) s.heap.objs.size 0 .none := by
    have q := Heap.get?_push_size h1 (o := { cls := .type "enumerate", data := .fields #[.none, .bool false, .ref s.heap.objs.size, rawInt 0, .none, .none] }) rfl
    rw [hz] at q
    exact q
  refine ⟨⟨_, he, rfl⟩, h h2 he ⟨_, Heap.get?_push_of_some _ (Heap.get?_push_size _ rfl), rfl, rfl⟩ fun b o x => Heap.get?_push_of_some _ (Heap.get?_push_of_some _ x)⟩
def iEnumT (K : PySem.W.Frag) (ta : TA) : TI := fun σ H R => ta σ H fun vs H1 => ∃ a xs, vs = [.ref a] ∧ SqT K H1 a xs ∧ R (IteT K a) H1
theorem pi_enumT {X : Cx} {e : Expr} {ta : TA} {p pos tpos : Pos} {elts : List Expr} {kk : Nat} (hg : Gl X "enumerate") (hm : X.mg "enumerate" = none) (ha : PA X [e] ta) (hs : starEach [e] X.env = [(false, eval e X.env)] := by rfl) :
    PI X (.Tuple elts kk tpos) (.Call (.Name "enumerate" p) [e] [] pos) (iEnumT X.K ta) := by
  refine ⟨fun pins s σ H R I h => ?_⟩
  refine Call_ (ld_blt I hg hm boot_enumerate (PyProof.Rows.callWith_type1 (thn (ha.run pos pins s σ H _ I h) fun us s1 ⟨vs, H1, I1, r1, q1⟩ => ?_) hs rfl))
  obtain ⟨a, xs, rfl, hq, q⟩ := q1
  obtain rfl := Vals.ref1 r1
  obtain ⟨its, rv, ⟨o, ho, hoc, no, hod⟩, hz⟩ := I1.tuple hq
  have hal : a < s1.heap.objs.size := Heap.lt_size ho
  refine call_enumT (its := its.toArray) ⟨o, ho, hoc, no, hod⟩ fun h' he hit hk => wpAny_pyIter_enum he ?_
  have I2 : Inv X pins σ H1 { s1 with heap := h' } := I1.kept (t' := s1.toks) hk
  refine ⟨s1.heap.objs.size + 1, [s1.heap.objs.size + 1, s1.heap.objs.size], _, _, H1, rfl, I2, turn_enumT a (s1.heap.objs.size + 1) s1.heap.objs.size (Nat.succ_ne_self _) (Nat.ne_of_lt hal) (Nat.ne_of_gt (Nat.lt_succ_of_lt hal)), ⟨⟨.none, he⟩, hit⟩, fun b hb => ?_, q⟩
  have hle : s1.heap.objs.size ≤ b := by
    rcases List.mem_cons.mp hb with z | z
    · rw [z]; exact Nat.le_succ _
    · rw [List.mem_singleton.mp z]; exact Nat.le_refl _
  exact I1.fpOk hle (I1.hok.fresh hle)
theorem walk_enumT {K : PySem.W.Frag} {a : Addr} {xs : List V} : Walk (IteT K a) xs.length (fun H => SqT K H a xs) (YPair (fun i => some (.int (i : Nat))) (fun i => xs[i]?)) where
  goes := fun i _ hi q => ⟨xs, xs[i], q, List.getElem?_eq_getElem hi⟩
  stops := fun _ q => ⟨xs, q, Nat.le_refl _⟩
  yields := fun i H v H' _ q y => by
    obtain ⟨T, x, h1, h2, h3, h4⟩ := y
    exact ⟨T, _, x, h1, h2, h3, rfl, h4 xs q⟩
theorem walk_zipT {K : PySem.W.Frag} {a b : Addr} {xs ys : List V} (hn : xs.length = ys.length) : Walk (RZ.ItzT K a b) xs.length (fun H => SqT K H a xs ∧ SqT K H b ys) (YPair (fun i => xs[i]?) (fun i => ys[i]?)) where
  goes := fun i _ hi q => ⟨xs, ys, xs[i], ys[i]'(by omega), q.1, q.2, List.getElem?_eq_getElem hi, List.getElem?_eq_getElem (by omega)⟩
  stops := fun _ q => ⟨xs, ys, q.1, q.2, .inl (Nat.le_refl _)⟩
  yields := fun i H v H' _ q y => by
    obtain ⟨T, x, z, h1, h2, h3, h4, h5⟩ := y
    exact ⟨T, x, z, h1, h2, h3, h4 xs q.1, h5 ys q.2⟩
section
variable {J : It} {n : Nat} {G : Hp → Prop} {Y : Nat → Hp → V → Hp → Prop}
theorem fI (w : Walk J n G Y) {g : TG} {tb : TS} {D : Ends} {σ : L2.St} {H : Hp} (Pv : Nat → L2.St → Hp → Prop) (h0 : Pv 0 σ H) (hG : ∀ i σ H, i ≤ n → Pv i σ H → G H)
    (hs : ∀ i x σ H H', i < n → Pv i σ H → Y i H x H' → g x σ H' fun σ2 H2 => tb { D with nx := Pv (i + 1), ct := Pv (i + 1), bk := D.nx } σ2 H2) (hd : ∀ σ H, Pv n σ H → D.nx σ H) : ForB J g tb D σ H := for_it w Pv h0 hG hs hd
theorem lI (w : Walk J n G Y) {g : TG} {tt : TT} {te : TE} {vs : List Nat} {σ : L2.St} {H1 : Hp} {D : Addr} {Qd : Hp → Prop} (Pv : Nat → Hp → Prop) (h0 : Pv 0 (upd H1 D (.lst []))) (hG : ∀ i H, i ≤ n → Pv i H → G H)
    (hs : ∀ i x H H', i < n → Pv i H → Y i H x H' → g x (wipe σ vs) H' fun σ2 H2 => wipe σ2 vs = wipe σ vs ∧ tt σ2 H2 fun b H3 =>
      if b = true then te σ2 H3 fun y H4 => ∃ acc, H4 D = some (.lst acc) ∧ acc.length < sizeLine ∧ Pv (i + 1) (upd H4 D (.lst (acc ++ [y]))) else Pv (i + 1) H3) (hd : ∀ H, Pv n H → Qd H) : LcB J g tt te vs σ H1 D Qd := lc_it w Pv h0 hG hs hd
end
end Fm
end FFmMore3
section FFmSumL
set_option Elab.async false
set_option linter.all false
set_option maxRecDepth 100000
set_option maxHeartbeats 4000000
namespace Fm
open PySem PySem.Spec PyProof.Rows L2
/-- the list at b holds us -/
def LstAt (h : Heap) (b : Addr) (us : List Value) : Prop := ∃ n, h.get? b = some { cls := .type "list", data := .seq us.toArray n }
section
variable {prog : Program} {w : World} {A : Around} {R : Result → Shared → Prop} {I : Addr} {fp wr : List Addr} {G : Array GenState → Array GenState → Prop} {n : Nat} {P : Nat → Value → Prop} {St : Nat → Shared → Prop}
/-- what is summed: lists -/
theorem sum_loop_lists (W : WalksS prog w A.in1 I fp wr G n P St) (parts : Nat → List Value) (hP : ∀ i v, P i v → ∃ b, v = .ref b) (hlive : ∀ i s, St i s → ∀ b ∈ wr, b < s.heap.objs.size) (B : Nat) (hB : ∀ i s, St i s → B ≤ s.heap.objs.size) (S : Addr) (hSf : S ∉ fp) :
    ∀ (k i : Nat) (s : Shared) (t : Addr) (us : List Value) (c : Nat), n - i = k → i ≤ n → St i s → s.heap.get? S = some { cls := .type "list", dict := none, data := .seq #[.ref t] c, slots := #[] } → LstAt s.heap t us → t ≠ S → t ∉ wr → 
    (∀ j b s', i ≤ j → j < n → P j (.ref b) → Moved (S :: wr) G s s' → LstAt s'.heap b (parts j) ∧ b ≠ S ∧ b ∉ wr) → (us ++ ((List.range n).drop i).flatMap parts).length ≤ sizeLine →
    (∀ s' t', Moved (S :: wr) G s s' → LstAt s'.heap t' (us ++ ((List.range n).drop i).flatMap parts) → ((t' = t ∧ i = n) ∨ (B ≤ t' ∧ i < n)) → R (.ok (.ret (.ref t'))) s') → codeAny (model prog w) A (.builtin "sum.loop" ⟨[.ref I, .ref S, rawInt 2, rawInt 0], []⟩) R s := by
  have hSw : S ∉ wr := fun h => hSf (W.sub _ h)
  have hsub : ∀ b ∈ wr, b ∈ S :: wr := fun b hb => List.mem_cons_of_mem _ hb
  intro k
  induction k with
  | zero =>
    intro i s t us c hk hi hst hS hT htS htw hparts hlen hR
    obtain rfl : i = n := by omega
    refine codeAny_builtin F.entry_sum_loop ?_
    rw [Around.under_plainId F.plain_sum_loop _]
    show wpAny _ A.in1 (seqItems? (.ref S) >>= _) _ _ s
    refine wpAny_bind (wpAny_seqItems hS rfl ?_)
    show wpAny _ A.in1 (tryCatch (pyNext (.ref I)) _ >>= _) _ _ s
    refine wpAny_bind (wpAny_tryCatch (W.done s _ _ hst fun s' hm => ?_))
    refine wpAny_pure (hR s' t (hm.mono hsub) ?_ (.inl ⟨rfl, rfl⟩))
    obtain ⟨m, e⟩ := hT
    have e0 : (List.range i).drop i = [] := by simp
    rw [e0, List.flatMap_nil, List.append_nil]
    exact ⟨m, hm.heap t _ htw e⟩
  | succ k ih =>
    intro i s t us c hk hi hst hS hT htS htw hparts hlen hR
    have hlt : i < n := by omega
    refine codeAny_builtin F.entry_sum_loop ?_
    rw [Around.under_plainId F.plain_sum_loop _]
    show wpAny _ A.in1 (seqItems? (.ref S) >>= _) _ _ s
    refine wpAny_bind (wpAny_seqItems hS rfl ?_)
    show wpAny _ A.in1 (tryCatch (pyNext (.ref I)) _ >>= _) _ _ s
    refine wpAny_bind (wpAny_tryCatch (W.item i s _ _ hlt hst fun v s' hPv hst' hm => ?_))
    obtain ⟨b, rfl⟩ := hP i v hPv
    have hS' := hm.heap S _ hSw hS
    obtain ⟨⟨nb, hb⟩, hbS, hbw⟩ := hparts i b s' (Nat.le_refl _) hlt hPv (hm.mono hsub)
    obtain ⟨nt, ht⟩ := hT
    have ht' := hm.heap t _ htw ht
    have e0 : (List.range n).drop i = i :: (List.range n).drop (i + 1) := by
      rw [List.drop_eq_getElem_cons (by simpa using hlt)]
      simp
    rw [e0, List.flatMap_cons] at hlen
    have hl2 : us.length + (parts i).length ≤ sizeLine := by
      rw [List.length_append, List.length_append] at hlen
      omega
    show wpAny _ A.in1 ((holding [Value.ref b] (binaryOp .Add (.ref t) (.ref b))).attempt >>= _) _ _ _
    refine wpAny_bind (wpAny_attempt (wpAny_holding (PySem.P.add_list ht' hb ?_ (by rw [List.size_toArray, List.size_toArray]; exact hl2))))
    let hp1 := s'.heap.push { cls := .type "list", data := .seq (us.toArray ++ (parts i).toArray) }
    have hS1 : hp1.get? S = _ := Heap.get?_push_of_some _ hS'
    show wpAny _ A.in1 (updateSeq S (fun _ => #[.ref s'.heap.objs.size]) >>= _) _ _ _
    refine wpAny_bind (wpAny_updateSeq hS1 rfl ?_)
    have hS2 := Heap.get?_update_self (Obj.mapSeq fun _ => #[Value.ref s'.heap.objs.size]) hS1 rfl
    refine wpAny_bind (wpAny_letGo ?_)
    refine wpAny_bind (wpAny_updateSeq hS2 rfl (wpAny_pure ⟨plainId_quiet F.plain_sum_loop _, ?_⟩))
    have eS : ∀ {x : Addr} {o : Obj}, x ≠ S → s'.heap.get? x = some o → ((hp1.update S (Obj.mapSeq fun _ => #[Value.ref s'.heap.objs.size])).update S (Obj.mapSeq fun _ => #[Value.ref s'.heap.objs.size])).get? x = some o := fun {x o} hx q =>
      (Heap.get?_update_other _ _ (Ne.symm hx)).trans ((Heap.get?_update_other _ _ (Ne.symm hx)).trans (Heap.get?_push_of_some _ q))
    have hSl : S < s'.heap.objs.size := Heap.lt_size hS'
    have nS : s'.heap.objs.size ≠ S := Nat.ne_of_gt hSl
    have hN : ((hp1.update S (Obj.mapSeq fun _ => #[Value.ref s'.heap.objs.size])).update S (Obj.mapSeq fun _ => #[Value.ref s'.heap.objs.size])).get? s'.heap.objs.size = some { cls := .type "list", data := .seq (us.toArray ++ (parts i).toArray) } :=
      (Heap.get?_update_other _ _ (Ne.symm nS)).trans ((Heap.get?_update_other _ _ (Ne.symm nS)).trans (Heap.get?_push_size _ rfl))
    have hmv : Moved (S :: wr) G s { s' with heap := (hp1.update S (Obj.mapSeq fun _ => #[Value.ref s'.heap.objs.size])).update S (Obj.mapSeq fun _ => #[Value.ref s'.heap.objs.size]) } :=
      (hm.mono hsub).then_heap (Nat.le_refl _) fun x o hx q => eS (fun z => hx (z ▸ List.mem_cons_self)) q
    refine ih (i + 1) _ s'.heap.objs.size (us ++ parts i) _ (by omega) hlt (W.frame _ s' _ _ hst' (Nat.le_refl _) fun x hx o q => eS (fun z => hSf (z ▸ hx)) q) (Heap.get?_update_self _ hS2 rfl) ⟨0, hN.trans (by simp)⟩ nS
      (fun z => Nat.lt_irrefl _ (hlive _ _ hst' _ z)) (fun j x s2 hj1 hj2 hpx hm2 => hparts j x s2 (by omega) hj2 hpx (Moved.trans W.gtrans hmv hm2)) (by rw [List.append_assoc]; exact hlen) fun s2 t2 hm2 hl2 hc => ?_
    refine hR s2 t2 (Moved.trans W.gtrans hmv hm2) (by rw [e0, List.flatMap_cons, ← List.append_assoc]; exact hl2) (.inr ⟨?_, hlt⟩)
    rcases hc with ⟨rfl, _⟩ | ⟨hc, _⟩
    · exact hB _ _ hst'
    · exact hc
end
theorem sub_list_str : isSubtype (.type "list") (.type "str") = pure false := by rw [isSubtype_type]; kernel_rfl
theorem sub_list_bytes : isSubtype (.type "list") (.type "bytes") = pure false := by rw [isSubtype_type]; kernel_rfl
theorem sub_list_bytearray : isSubtype (.type "list") (.type "bytearray") = pure false := by rw [isSubtype_type]; kernel_rfl
theorem args_sum2 (a b : Value) : argsOk "sum" ⟨[a, b], []⟩ := by unfold argsOk; kernel_rfl
section
variable {prog : Program} {w : World} {A : Around} {E : Value → Shared → Prop} {s : Shared}
theorem call_sum_lists {l t : Addr} {its : Array Value} {parts : Nat → List Value} {us : List Value} {Q : Value → Shared → Prop} (hh : A.handled = none) (hl : s.heap.IsList l its) (hr : ∀ i v, its[i]? = some v → ∃ b, v = .ref b ∧ LstAt s.heap b (parts i))
    (ht : LstAt s.heap t us) (hz : (us ++ (List.range its.size).flatMap parts).length ≤ sizeLine)
    (hQ : ∀ h' t', (∀ b o, s.heap.get? b = some o → h'.get? b = some o) → LstAt h' t' (us ++ (List.range its.size).flatMap parts) → ((t' = t ∧ its.size = 0) ∨ (s.heap.objs.size ≤ t' ∧ 0 < its.size)) → ∀ tk, Q (.ref t') { s with heap := h', toks := tk }) :
    wpAny (model prog w) A (call (.builtin "sum") [.ref l, .ref t]) Q E s := by
  obtain ⟨ol, hol, hcl, nl, hdl⟩ := id hl
  obtain ⟨nt, hot⟩ := id ht
  refine call_function_tree F.kind_sum F.plain_sum F.entry_sum (args_sum2 _ _) ?_
  unfold Builtin.«sum»
  simp only [List.length_cons, List.length_nil]
  rw [if_neg (by decide)]
  refine wpAny_bind (wpAny_of_eq (show Builtin.Builtins.bindParams "sum" ["start"] 0 ⟨[.ref t], []⟩ = pure [some (.ref t)] from rfl) ?_)
  refine wpAny_bind (wpAny_pyIter_list hl ?_)
  refine wpAny_bind (wpAny_pure ?_)
  let I := s.heap.objs.size
  let h1 := s.heap.push { cls := .type "list_iterator", data := .fields #[.ref l, .int 0 0] }
  have hot1 : h1.get? t = _ := Heap.get?_push_of_some _ hot
  have tt : ∀ (s' : Shared), s'.heap = h1 → s'.TypeIs (.ref t) "list" := fun s' e => ⟨_, by rw [e]; exact hot1, rfl⟩
  simp only [List.forIn_cons, List.forIn_nil]
  refine wpAny_bind (wpAny_bind (wpAny_bind (wpAny_isInstance (T := "list") (b := false) (tt _ rfl) sub_list_str ?_)))
  simp only [Bool.false_eq_true, if_false]
  refine wpAny_pure (wpAny_bind (wpAny_bind (wpAny_isInstance (T := "list") (b := false) (tt _ rfl) sub_list_bytes ?_)))
  simp only [Bool.false_eq_true, if_false]
  refine wpAny_pure (wpAny_bind (wpAny_bind (wpAny_isInstance (T := "list") (b := false) (tt _ rfl) sub_list_bytearray ?_)))
  simp only [Bool.false_eq_true, if_false]
  refine wpAny_pure (wpAny_pure ?_)
  refine wpAny_bind (wpAny_newObj_type ?_)
  refine wpAny_pure ⟨plainId_quiet F.plain_sum_loop _, ?_⟩
  have hlI : l ≠ I := Nat.ne_of_lt (Heap.lt_size hol)
  have htI : t ≠ I := Nat.ne_of_lt (Heap.lt_size hot)
  have hz1 : h1.objs.size = I + 1 := Heap.size_push ..
  have W0 := Walks.list (prog := prog) (w := w) (A := A.in1) (show A.in1.handled = none from hh) I l hlI its
  have W1 := W0.toS
  have hSI : h1.objs.size ≠ I := by
    rw [hz1]
    exact Nat.succ_ne_self _
  have hlS : l ≠ h1.objs.size := by
    rw [hz1]
    exact Nat.ne_of_lt (Nat.lt_succ_of_lt (Heap.lt_size hol))
  have htS : t ≠ h1.objs.size := by
    rw [hz1]
    exact Nat.ne_of_lt (Nat.lt_succ_of_lt (Heap.lt_size hot))
  have keep0 : ∀ {o : Obj} (b : Addr) (ob : Obj), s.heap.get? b = some ob → (h1.push o).get? b = some ob := fun b ob q => Heap.get?_push_of_some _ (Heap.get?_push_of_some _ q)
  have hdrop : (List.range its.size).drop 0 = List.range its.size := rfl
  refine sum_loop_lists W1 parts (fun i v hv => (hr i v hv).imp fun b q => q.1) (fun i s' st b hb => ?_) I (fun i s' st => ?_) h1.objs.size (fun z => ?_) its.size 0 _ t us _ (by omega) (Nat.zero_le _) ⟨⟨_, Heap.get?_push_of_some _ (Heap.get?_push_size _ rfl), rfl, rfl⟩, hl.at fun o e => keep0 l o e⟩ (Heap.get?_push_size _ rfl)
    ⟨_, keep0 t _ hot⟩ htS (fun z => htI (List.mem_singleton.mp z)) (fun j b s' _ hj hb hm => ?_) (by rw [hdrop]; exact hz) fun s' t' hm hl' hc => ?_
  · obtain rfl := List.mem_singleton.mp hb
    obtain ⟨_, q, _⟩ := st.1
    exact Heap.lt_size q
  · obtain ⟨_, q, _⟩ := st.1
    exact Nat.le_of_lt (Heap.lt_size q)
  · rcases List.mem_cons.mp z with z | z
    · exact hSI z
    · exact hlS (List.mem_singleton.mp z).symm
  · obtain ⟨b', eb, nb, hob⟩ := hr j _ hb
    cases eb
    have hbI : b ≠ I := Nat.ne_of_lt (Heap.lt_size hob)
    have hbS : b ≠ h1.objs.size := by
      rw [hz1]
      exact Nat.ne_of_lt (Nat.lt_succ_of_lt (Heap.lt_size hob))
    refine ⟨⟨nb, hm.heap b _ (fun z => ?_) (keep0 b _ hob)⟩, hbS, fun z => hbI (List.mem_singleton.mp z)⟩
    rcases List.mem_cons.mp z with z | z
    · exact hbS z
    · exact hbI (List.mem_singleton.mp z)
  · obtain ⟨h', g', d', tk', os'⟩ := s'
    obtain rfl : g' = s.gens := hm.gens
    obtain rfl : d' = s.drawn := hm.drawn
    obtain rfl : os' = s.os := hm.os
    refine hQ h' t' (fun b o q => hm.heap b o (fun z => ?_) (keep0 b o q)) (by rw [hdrop] at hl'; exact hl') (by rcases hc with ⟨a, b⟩ | ⟨a, b⟩; exact .inl ⟨a, b.symm⟩; exact .inr ⟨a, b⟩) tk'
    have hb := Heap.lt_size q
    rcases List.mem_cons.mp z with z | z
    · rw [z, hz1] at hb
      exact absurd hb (by show ¬ I + 1 < I; omega)
    · rw [List.mem_singleton.mp z] at hb
      exact Nat.lt_irrefl _ hb
end
/-- sum(xs, start), lists -/
def rSumL (K : PySem.W.Frag) : List V → Hp → VK → Prop := fun vs H Q => ∃ (a t : Addr) (xs zs : List V) (parts : Nat → List V), vs = [.ref a, .ref t] ∧ SqL K H a xs ∧ H t = some (.lst zs) ∧ 0 < xs.length ∧
  (∀ i x, xs[i]? = some x → ∃ b, x = .ref b ∧ H b = some (.lst (parts i))) ∧ (zs ++ (List.range xs.length).flatMap parts).length ≤ sizeLine ∧ ∀ p, H p = none → Q (.ref p) (upd H p (.lst (zs ++ (List.range xs.length).flatMap parts)))
theorem vals_flat {f : Nat → List V} {g : Nat → List Value} : ∀ {l : List Nat}, (∀ i ∈ l, Vals (f i) (g i)) → Vals (l.flatMap f) (l.flatMap g)
  | [], _ => .nil
  | i :: r, h => by
    rw [List.flatMap_cons, List.flatMap_cons]
    exact (h i List.mem_cons_self).append (vals_flat fun j hj => h j (List.mem_cons_of_mem _ hj))
theorem cr_sumL {X : Cx} (hc : X.calm = true) : CallR X (.builtin "sum") (rSumL X.K) := by
  intro pins s σ H vs us Q I r h
  obtain ⟨a, t, xs, zs, parts, rfl, hs, hz, h0, hp, hlen, q⟩ := h
  obtain ⟨u1, u2, rfl, r1, r2⟩ : ∃ u1 u2, us = [u1, u2] ∧ RelV (.ref a) u1 ∧ RelV (.ref t) u2 := by
    cases r with
    | cons r1 rr =>
      cases rr with
      | cons r2 rr =>
        cases rr
        exact ⟨_, _, rfl, r1, r2⟩
  cases r1
  cases r2
  obtain ⟨its, rv, hl, hlz⟩ := I.list hs
  obtain ⟨hzz, iz, nz, rz, ez⟩ := (show ObjOk X.prog X.w H s.heap t (.lst zs) from I.hok t _ hz)
  have ex : ∀ i, ∃ g : List Value, ∀ x, xs[i]? = some x → Vals (parts i) g ∧ ∃ b, x = .ref b ∧ LstAt s.heap b g := fun i => by
    cases e : xs[i]? with
    | none => exact ⟨[], fun x q => by cases q⟩
    | some x =>
      obtain ⟨b, rfl, hb⟩ := hp i x e
      obtain ⟨_, g, n, rg, eg⟩ := (show ObjOk X.prog X.w H s.heap b (.lst (parts i)) from I.hok b _ hb)
      exact ⟨g, fun y q => by cases q; exact ⟨rg, b, rfl, n, eg⟩⟩
  obtain ⟨g, hg⟩ := Classical.axiomOfChoice ex
  have hn : its.toArray.size = xs.length := by rw [List.size_toArray, rv.length]
  have vf : Vals (zs ++ (List.range xs.length).flatMap parts) (iz ++ (List.range xs.length).flatMap g) := rz.append (vals_flat fun i hi => by
    have hi' := List.mem_range.mp hi
    exact (hg i xs[i] (List.getElem?_eq_getElem hi')).1)
  refine call_sum_lists (parts := g) (us := iz) (I.ok.hd hc) hl.isList (fun i v hv => ?_) ⟨nz, ez⟩ (by rw [hn, ← vf.length]; exact hlen) fun h' t' hk hl' hcs tk => ?_
  · have hv' : its[i]? = some v := by simpa using hv
    have hi : i < xs.length := by
      rw [rv.length]
      exact (List.getElem?_eq_some_iff.mp hv').1
    obtain ⟨_, b, eb, hb⟩ := hg i xs[i] (List.getElem?_eq_getElem hi)
    obtain ⟨u, hu, ru⟩ := rv.get (List.getElem?_eq_getElem hi)
    rw [hv'] at hu
    cases hu
    rw [eb] at ru
    cases ru
    exact ⟨b, rfl, hb⟩
  · rw [hn] at hl' hcs
    rcases hcs with ⟨_, z⟩ | ⟨hge, _⟩
    · omega
    · obtain ⟨n', e'⟩ := hl'
      refine ⟨.ref t', _, I.laid (t' := tk) (a := t') (o := .lst (zs ++ (List.range xs.length).flatMap parts)) hk hge ⟨hlen, _, n', vf, e'⟩, rfl, q t' (I.hok.fresh hge)⟩
end Fm
end FFmSumL
section FK1
set_option Elab.async false
set_option linter.all false
set_option maxRecDepth 100000
set_option maxHeartbeats 4000000
local macro_rules | `(tactic| walk_at "ne") => `(tactic| first | assumption | (apply Ne.symm; assumption) | exact L2.ne_of_none (by assumption) (by assumption) | exact Ne.symm (L2.ne_of_none (by assumption) (by assumption)))
local macro_rules | `(tactic| walk_at "hl") => `(tactic| first | assumption | exact L2.upd_same | (refine Eq.trans (L2.upd_ne (by walk_at "ne")) ?_; walk_at "hl"))
local macro_rules | `(tactic| walk_at "sd") => `(tactic| first | (with_reducible show (_ : Int) < _; omega) | (with_reducible show (_ : Int) ≤ _; omega) | assumption | decide | exact ⟨by assumption, by assumption⟩ | exact ⟨by decide, by decide⟩ | exact Or.inr ⟨by decide, by decide⟩ | exact Or.inl ⟨by omega, by omega⟩ | rfl)
local macro_rules | `(tactic| walk_at "st1") => `(tactic| first
  | refine ⟨_, rfl, ?_⟩
  | refine ⟨_, _, rfl, rfl, ?_⟩
  | refine ⟨_, _, rfl, ?_⟩
  | (refine ⟨_, _, _, _, rfl, rfl, L2.SqL.of (by walk_at "hl"), rfl, ?_⟩)
  | (refine ⟨_, _, _, _, rfl, rfl, L2.SqT.of (by walk_at "hl"), rfl, ?_⟩)
  | (refine ⟨_, _, _, _, rfl, rfl, (by walk_at "hl"), rfl, ?_⟩)
  | (refine And.intro (by walk_at "sd") ?_)
  )
local macro_rules | `(tactic| walk_at "st") => `(tactic| repeat walk_at "st1")
local macro_rules | `(tactic| walk_at "op") => `(tactic| try dsimp only [L2.tSeq, L2.tAsg, L2.tOp, L2.tVar, L2.tC, L2.gSub, L2.rI, L2.rI0, L2.rIxL, L2.rIxT, L2.rSetL, L2.tIfS, L2.tTest, L2.tRet, L2.gName, L2.tNext, L2.tAnd, L2.tOr, L2.tNot, L2.tAndV, L2.tOrV, L2.tNotV, L2.tB, L2.tCB, L2.tCons, L2.tNil, L2.tCall, L2.tTup, L2.tLst, L2.tChain, L2.tUn, L2.tPar, L2.tDrop, L2.tIf, L2.tBM, L2.tBM0, L2.rAppend, L2.rCat, L2.rIsi, L2.rIsiT, L2.gTup, L2.gCons, L2.gNil, Fm.tFor_eq, Fm.tLc_eq, L2.iTup, L2.iList, L2.iRng1, L2.iRng2, L2.tSl, L2.tPart, L2.tNoPart, L2.rSlL, L2.rEq, L2.rNe, L2.rU, L2.rEqD, L2.rNeD, Fm.tRevT, Fm.rLenS, Fm.rTupOf, Fm.rLstOf, L2.tDNewK, L2.tCallS, L2.WE, Fm.wKeep, Fm.rIsK, Fm.rIsKT, List.cons_append, List.nil_append, L2.tYes])
namespace Fm
open PySem PySem.Spec PyProof.Rows L2
abbrev s_has_form : Stmt := top 35
abbrev N_has_form : List Str := ["thing", "m", "floors", "most", "counts"]
theorem sc_has_form : FnScope N_has_form ["thing", "m", "floors", "most"] (defScope s_has_form) := ⟨rfl, rfl, rfl, by decide +kernel, rfl, by decide +kernel, by decide +kernel⟩
section
variable {P : Program} {w : World} {K : PySem.W.Frag} {mg : Str → Option Value} {base : Heap}
/-! ### standings, as data -/
def rowD (r : List Int) : PyData := .tuple (r.map PyData.int)
def stD (rows : List (List Int)) (out : Int) : PyData := .tuple (rows.map rowD ++ [.int out])
structure StOk (m : Nat) (rows : List (List Int)) (out : Int) : Prop where
  len : ∀ r ∈ rows, r.length = m
  pos : ∀ r ∈ rows, ∀ c ∈ r, 0 ≤ c
  out : 0 ≤ out
theorem sl_init {K : PySem.W.Frag} {H : Hp} {Q : VK} {a : Addr} {xs : List V} {y : V} (h : SqT K H a (xs ++ [y])) (q : ∀ p, H p = none → Q (.ref p) (upd H p (.tup xs))) : rSlA K (.ref a) none (some (-1)) H Q := by
  have e1 : HT.sIx (xs ++ [y]).length 0 none = 0 := rfl
  have e2 : HT.sIx (xs ++ [y]).length (xs ++ [y]).length (some (-1)) = xs.length := by
    unfold HT.sIx
    rw [List.length_append]
    show (if (-1 : Int) < 0 then _ else _) = _
    rw [if_pos (by decide)]
    show ((-1 : Int) + ((xs.length + 1 : Nat) : Int)).toNat = _
    omega
  refine ⟨a, _, rfl, h, fun z => ?_, fun _ p hp => ?_⟩
  · rw [e2, List.length_append] at z
    have : ([y] : List V).length = 1 := rfl
    omega
  · have e3 : cutV (xs ++ [y]) none (some (-1)) = xs := by
      unfold cutV
      rw [e1, e2, List.drop_zero, Nat.sub_zero, List.take_left]
    rw [e3]
    exact q p hp
theorem atI_last {xs : List V} {y : V} (hl : xs.length ≤ 1000) : atI (xs ++ [y]) (-1) = some y := by
  unfold atI ixN
  rw [if_neg (by decide), List.length_append]
  have h1 : ([y] : List V).length = 1 := rfl
  rw [h1, if_pos (by omega)]
  show (xs ++ [y])[_]? = some y
  have e : ((-1 : Int) + ((xs.length + 1 : Nat) : Int)).toNat = xs.length := by omega
  rw [e]
  simp
/-- a standing's parts in the heap -/
theorem st_parts {H : Hp} {p : Addr} {v : V} {rows : List (List Int)} {out : Int} (h : Dat H p v (stD rows out)) : ∃ a xs, v = .ref a ∧ H a = some (.tup (xs ++ [.int out])) ∧ a ≠ p ∧ Dats H p xs (rows.map rowD) := by
  obtain ⟨a, ys, rfl, ha, np, hs⟩ := h.isTup
  have hl := hs.1
  rw [List.length_append] at hl
  have h1 : ([PyData.int out] : List PyData).length = 1 := rfl
  obtain ⟨x, hx, hdx⟩ := hs.back (i := (rows.map rowD).length) (d := .int out) (by simp)
  obtain rfl := hdx.isInt
  refine ⟨a, ys.take (rows.map rowD).length, rfl, ?_, np, by rw [List.length_take]; omega, fun i x d e1 e2 => ?_⟩
  · have e : ys = ys.take (rows.map rowD).length ++ [.int out] := by
      conv => lhs; rw [← List.take_append_drop (rows.map rowD).length ys]
      congr 1
      rw [List.drop_eq_getElem_cons (by omega), List.drop_eq_nil_of_le (by omega)]
      congr 1
      have := List.getElem?_eq_some_iff.mp hx
      exact this.2
    rw [← e]
    exact ha
  · have hi : i < (rows.map rowD).length := (List.getElem?_eq_some_iff.mp e2).1
    rw [List.getElem?_take_of_lt hi] at e1
    exact hs.2 i x d e1 (by rw [List.getElem?_append_left hi]; exact e2)
def spForm : Sp := fun vs H Q _ => ∃ (v : V) (p : Addr) (m n : Nat) (rows : List (List Int)) (out : Int), vs = [v, .int m, .int n, .non] ∧ Dat H p v (stD rows out) ∧ rows.length = n ∧ 1 ≤ n ∧ n ≤ 4 ∧ StOk m rows out ∧ ∀ H', Same H H' → Q (.bl true) H'
theorem ok_has_form (D : Df K mg "has_form" s_has_form ["thing", "m", "floors", "most"]) (T : Nms mg) (c_is_tuple_of : CallOk P w K mg base CX0 1 "is_tuple_of" ["thing", "many"] spTupOf)
    (c_is_up_to : CallOk P w K mg base CX0 2 "is_up_to" ["thing", "most"] spUpTo) (c_are_up_to : CallOk P w K mg base CX0 3 "are_up_to" ["thing", "many", "most"] spAre) : CallOk P w K mg base CX0 4 "has_form" ["thing", "m", "floors", "most"] spForm := by
  refine df_ok D sc_has_form (fun vs H Q E h => ?_) (fun f cdv A outer s H vs Q E hr h => ?_)
  · obtain ⟨v, p, m, n, rows, out, rfl, _⟩ := h
    rfl
  · obtain ⟨v, p, m, n, rows, out, rfl, hd, hn, hn1, hn4, ok, k⟩ := h
    obtain ⟨a, xs, rfl, ha, nap, hx⟩ := st_parts hd
    have nd := sc_has_form.nd
    refine ⟨_, (pss_cons (ps_if (PW.pt (pw_or (pt_not (pt_val (pe_cc c_is_tuple_of (hr.mono (by omega)) (pa_cons (pv 0) (pa_cons (pe_op op_add (pv 2) pe_int) pa_nil))))) (pw_or1 (pt_not (pt_val (pe_cc c_is_up_to (hr.mono (by omega)) (pa_cons (pe_ix (r := rIxT K) ix_tup (pv 0) (pe_un un_neg pe_int) (fun _ _ => rfl)) (pa_cons (pv 3) pa_nil)))))))) (pss_one (ps_ret pe_bl)) pss_nil)
      (pss_cons (ps_for PassesOwn.never rfl (pi_tup (pe_slice (r := rSlA K) sl_tupA (pv 0) po_none (po_some (pe_un un_neg pe_int)))) (pg_name (i := 4) nd rfl (Or.inl rfl)) (pss_one (ps_if (pt_not (pt_val (pe_cc c_are_up_to (hr.mono (by omega)) (pa_cons (pv 4) (pa_cons (pv 1) (pa_cons (pv 3) pa_nil)))))) (pss_one (ps_ret pe_bl)) pss_nil)))
      (pss_one (ps_ret pe_bl)))), ?_⟩
    walk_at "op"
    walk_at "st"
    refine ⟨_, _, p, _, rfl, hd, fun b hb => ?_⟩
    have hb1 : b = true := hb.mpr ⟨_, rfl, by simp [hn]⟩
    walk_at "st"
    subst hb1
    refine iteF ?_
    walk_at "st"
    refine ⟨_, _, _, _, rfl, rfl, SqT.of ha, atI_last (by rw [hx.1, List.length_map]; omega), ?_⟩
    walk_at "st"
    refine ⟨_, _, p, _, rfl, Dat.int out, .inl rfl, fun b hb => ?_⟩
    have hb1 : b = true := hb.mpr ⟨_, rfl, ok.out, fun M z => by cases z⟩
    walk_at "st"
    subst hb1
    refine iteF ?_
    walk_at "st"
    refine sl_init (SqT.of ha) fun q hq => ?_
    refine ⟨_, rfl, ⟨_, SqT.of upd_same⟩, fT (xs := xs) (fun i σ H' => Same H H' ∧ H' q = some (.tup xs) ∧ ∃ u, σ = [some (.ref a), some (.int m), some (.int n), some .non, u])
      ⟨same_new hq, upd_same, _, rfl⟩ (fun i σ H' _ ⟨_, e, _⟩ => SqT.of e) ?_ ?_⟩
    · rintro i x σ H' hxi ⟨sm, hq2, u, rfl⟩
      obtain ⟨e, he, hde⟩ := hx.at hxi
      rw [List.getElem?_map] at he
      cases er : rows[i]? with
      | none => rw [er] at he; cases he
      | some r =>
        rw [er] at he
        cases he
        have hr := List.mem_of_getElem? er
        walk_at "op"
        walk_at "st"
        refine ⟨x, _, _, p, _, rfl, hde.same sm, .inl rfl, fun b hb => ?_⟩
        have hb1 : b = true := hb.mpr ⟨_, rfl, by rw [List.length_map, ok.len r hr], fun e he => by
          obtain ⟨c, hc, rfl⟩ := List.mem_map.mp he
          exact ⟨c, rfl, ok.pos r hr c hc, fun M z => by cases z⟩⟩
        walk_at "st"
        subst hb1
        exact iteF ⟨sm, hq2, _, rfl⟩
    · rintro σ H' ⟨sm, hq2, u, rfl⟩
      walk_at "op"
      exact k _ sm

end
end Fm
end FK1
section FK2
set_option Elab.async false
set_option linter.all false
set_option maxRecDepth 100000
set_option maxHeartbeats 4000000
local macro_rules | `(tactic| walk_at "ne") => `(tactic| first | assumption | (apply Ne.symm; assumption) | exact L2.ne_of_none (by assumption) (by assumption) | exact Ne.symm (L2.ne_of_none (by assumption) (by assumption)))
local macro_rules | `(tactic| walk_at "hl") => `(tactic| first | assumption | exact L2.upd_same | (refine Eq.trans (L2.upd_ne (by walk_at "ne")) ?_; walk_at "hl"))
local macro_rules | `(tactic| walk_at "sd") => `(tactic| first | (with_reducible show (_ : Int) < _; omega) | (with_reducible show (_ : Int) ≤ _; omega) | assumption | decide | exact ⟨by assumption, by assumption⟩ | exact ⟨by decide, by decide⟩ | exact Or.inr ⟨by decide, by decide⟩ | exact Or.inl ⟨by omega, by omega⟩ | rfl)
local macro_rules | `(tactic| walk_at "st1") => `(tactic| first
  | refine ⟨_, rfl, ?_⟩
  | refine ⟨_, _, rfl, rfl, ?_⟩
  | refine ⟨_, _, rfl, ?_⟩
  | (refine ⟨_, _, _, _, rfl, rfl, L2.SqL.of (by walk_at "hl"), rfl, ?_⟩)
  | (refine ⟨_, _, _, _, rfl, rfl, L2.SqT.of (by walk_at "hl"), rfl, ?_⟩)
  | (refine ⟨_, _, _, _, rfl, rfl, (by walk_at "hl"), rfl, ?_⟩)
  | (refine And.intro (by walk_at "sd") ?_)
  )
local macro_rules | `(tactic| walk_at "st") => `(tactic| repeat walk_at "st1")
local macro_rules | `(tactic| walk_at "op") => `(tactic| try dsimp only [L2.tSeq, L2.tAsg, L2.tOp, L2.tVar, L2.tC, L2.gSub, L2.rI, L2.rI0, L2.rIxL, L2.rIxT, L2.rSetL, L2.tIfS, L2.tTest, L2.tRet, L2.gName, L2.tNext, L2.tAnd, L2.tOr, L2.tNot, L2.tAndV, L2.tOrV, L2.tNotV, L2.tB, L2.tCB, L2.tCons, L2.tNil, L2.tCall, L2.tTup, L2.tLst, L2.tChain, L2.tUn, L2.tPar, L2.tDrop, L2.tIf, L2.tBM, L2.tBM0, L2.rAppend, L2.rCat, L2.rIsi, L2.rIsiT, L2.gTup, L2.gCons, L2.gNil, Fm.tFor_eq, Fm.tLc_eq, L2.iTup, L2.iList, L2.iRng1, L2.iRng2, L2.tSl, L2.tPart, L2.tNoPart, L2.rSlL, L2.rEq, L2.rNe, L2.rU, L2.rEqD, L2.rNeD, Fm.tRevT, Fm.rLenS, Fm.rTupOf, Fm.rLstOf, L2.tDNewK, L2.tCallS, L2.WE, Fm.wKeep, Fm.rIsK, Fm.rIsKT, List.cons_append, List.nil_append, L2.tYes])
namespace Fm
open PySem PySem.Spec PyProof.Rows L2
abbrev s_coming : Stmt := top 47
abbrev N_coming : List Str := ["standing", "told", "rising", "counts", "many"]
theorem sc_coming : FnScope N_coming ["standing"] (defScope s_coming) := ⟨rfl, rfl, rfl, by decide +kernel, rfl, by decide +kernel, by decide +kernel⟩
abbrev s_meetings_left : Stmt := top 45
abbrev N_meetings_left : List Str := ["standing", "many"]
theorem sc_meetings_left : FnScope N_meetings_left ["standing"] (defScope s_meetings_left) := ⟨rfl, rfl, rfl, by decide +kernel, rfl, by decide +kernel, by decide +kernel⟩
section
variable {P : Program} {w : World} {K : PySem.W.Frag} {mg : Str → Option Value} {base : Heap}
theorem houseN_inj {m n m' n' : Nat} {d : PyData} (h : HouseN m n d) (h' : HouseN m' n' d) : m = m' ∧ n = n' := by
  obtain ⟨fs, rfl, hl, h1, h4, _, _, hf⟩ := h
  obtain ⟨fs', e, hl', _, _, _, _, hf'⟩ := h'
  cases e
  have h0 : 0 < fs.length := by omega
  obtain ⟨s, u, e1, ⟨rs, e2, e3, _⟩, _⟩ := hf fs[0] (List.getElem_mem _)
  obtain ⟨s', u', e1', ⟨rs', e2', e3', _⟩, _⟩ := hf' fs[0] (List.getElem_mem _)
  rw [e1] at e1'
  cases e1'
  rw [e2] at e2'
  cases e2'
  exact ⟨by omega, by omega⟩
theorem dats_ints {H : Hp} {p : Addr} : ∀ {ys : List V} {ns : List Int}, Dats H p ys (ns.map PyData.int) → ys = ns.map V.int
  | [], [], _ => rfl
  | [], n :: ns, h => by have := h.1; simp at this
  | y :: ys, [], h => by have := h.1; simp at this
  | y :: ys, n :: ns, h => by
    obtain rfl := (h.2 0 y (.int n) rfl rfl).isInt
    rw [dats_ints (ys := ys) (ns := ns) ⟨by have := h.1; simpa using this, fun i x d a b => h.2 (i + 1) x d a b⟩]
    rfl
theorem row_parts {H : Hp} {p : Addr} {v : V} {r : List Int} (h : Dat H p v (rowD r)) : ∃ a, v = .ref a ∧ H a = some (.tup (r.map V.int)) ∧ a ≠ p := by
  obtain ⟨a, ys, rfl, ha, np, hs⟩ := h.isTup
  rw [dats_ints hs] at ha
  exact ⟨a, rfl, ha, np⟩
theorem sameOff {H H' : Hp} {L : Addr} {o : HO} (e : Same H H') (h : H L = none) : Same H (upd H' L o) := fun b u eb => by
  rw [upd_ne (ne_of_none eb h)]
  exact e b u eb
theorem sameFree {H H' : Hp} {S : Addr} (e : Same H H') (h : H' S = none) : H S = none := by
  cases q : H S with
  | none => rfl
  | some u =>
    rw [e S u q] at h
    cases h
/-- how many come to each floor -/
def comeF : Int → List (List Int) → List Int
  | _, [] => []
  | r, c :: cs => (c.sum + r) :: comeF (if c.sum + r = 0 then 0 else c.sum + r - 1) cs
theorem comeF_len : ∀ (r : Int) (rows : List (List Int)), (comeF r rows).length = rows.length
  | _, [] => rfl
  | r, c :: cs => by unfold comeF; rw [List.length_cons, List.length_cons, comeF_len]
def spComing : Sp := fun vs H Q _ => ∃ (v : V) (p : Addr) (rows : List (List Int)) (out : Int), vs = [v] ∧ Dat H p v (stD rows out) ∧ rows.length ≤ 4 ∧ ∀ q H', H q = none → H' q = some (.lst ((comeF 0 rows).map V.int)) → Same H H' → Q (.ref q) H'
theorem ok_coming (D : Df K mg "coming" s_coming ["standing"]) (T : Nms mg) : CallOk P w K mg base CX0 1 "coming" ["standing"] spComing := by
  refine df_ok D sc_coming (fun vs H Q E h => ?_) (fun f cdv A outer s H vs Q E hr h => ?_)
  · obtain ⟨v, p, rows, out, rfl, _⟩ := h
    rfl
  · obtain ⟨v, p, rows, out, rfl, hd, hn4, k⟩ := h
    obtain ⟨a, xs, rfl, ha, nap, hx⟩ := st_parts hd
    have nd := sc_coming.nd
    refine ⟨_, (pss_cons (ps_set (i := 1) nd rfl (Or.inl rfl) (pe_lst pa_nil))
      (pss_cons (ps_set (i := 2) nd rfl (Or.inl rfl) pe_int)
      (pss_cons (ps_for PassesOwn.never rfl (pi_tup (pe_slice (r := rSlA K) sl_tupA (pv 0) po_none (po_some (pe_un un_neg pe_int)))) (pg_name (i := 3) nd rfl (Or.inl rfl)) (pss_cons (ps_set (i := 4) nd rfl (Or.inl rfl) (pe_op op_add (pe_callB (r := rSumI K) (cr_sumI rfl) (by rfl) T.n_sum (by decide +kernel) (pa_cons (pv 3) pa_nil)) (pv 2)))
      (pss_cons (ps_expr (pe_bm PySem.F.plainAttrs_list PySem.F.slot_list_append PySem.F.type_list_append mt_append (pv 1) (pa_cons (pv 4) pa_nil)))
      (pss_one (ps_set (i := 2) nd rfl (Or.inl rfl) (pe_ifExp (pt_truth (pv 4) (fun _ => rfl)) (pe_op op_sub (pv 4) pe_int) pe_int))))))
      (pss_one (ps_ret (pv 1)))))), ?_⟩
    walk_at "op"
    walk_at "st"
    refine fun L hL => ?_
    have nL : a ≠ L := ne_of_none ha hL
    walk_at "st"
    refine sl_init (SqT.of (by rw [upd_ne nL]; exact ha)) fun q hq => ?_
    have nLq : L ≠ q := ne_of_none upd_same hq
    have hq0 : H q = none := by rw [← hq, upd_ne nLq.symm]
    refine ⟨_, rfl, ⟨_, SqT.of upd_same⟩, fT (xs := xs) (fun i σ H' => Same H H' ∧ H' q = some (.tup xs) ∧ ∃ (T : List Int) (r : Int) (u1 u2 : Option V), σ = [some (.ref a), some (.ref L), some (.int r), u1, u2] ∧ H' L = some (.lst (T.map V.int)) ∧ T.length = i ∧ comeF 0 rows = T ++ comeF r (rows.drop i))
      ⟨sameOff (sameOff (Same.refl H) hL) hq0, upd_same, [], 0, _, _, rfl, by rw [upd_ne nLq]; exact upd_same, rfl, rfl⟩ (fun i σ H' _ ⟨_, e, _⟩ => SqT.of e) ?_ ?_⟩
    · rintro i x σ H' hxi ⟨sm, hq2, T', r, u1, u2, rfl, hL2, hl, hc⟩
      obtain ⟨e, he, hde⟩ := hx.at hxi
      rw [List.getElem?_map] at he
      cases er : rows[i]? with
      | none => rw [er] at he; cases he
      | some c =>
        rw [er] at he
        cases he
        obtain ⟨ac, rfl, hac, _⟩ := row_parts (hde.same sm)
        have hil := (List.getElem?_eq_some_iff.mp er).1
        have ed : rows.drop i = c :: rows.drop (i + 1) := by
          rw [List.drop_eq_getElem_cons hil]
          rw [List.getElem?_eq_getElem hil] at er
          cases er
          rfl
        have hc2 : comeF 0 rows = (T' ++ [c.sum + r]) ++ comeF (if c.sum + r = 0 then 0 else c.sum + r - 1) (rows.drop (i + 1)) := by
          rw [hc, ed]
          conv => lhs; unfold comeF
          rw [List.append_assoc]
          rfl
        walk_at "op"
        walk_at "st"
        refine .inr ⟨ac, c, rfl, SqT.of hac, ?_⟩
        walk_at "st"
        refine ⟨.inl ⟨rfl, _, SqL.of hL2⟩, ?_⟩
        walk_at "st"
        refine ⟨_, _, _, rfl, rfl, hL2, by rw [List.length_map, hl]; exact small1000 (by omega), ?_⟩
        walk_at "st"
        have tailOk : ∀ z : Int, (if c.sum + r = 0 then 0 else c.sum + r - 1) = z → Same H (upd H' L (.lst (T'.map V.int ++ [.int (c.sum + r)]))) ∧ upd H' L (.lst (T'.map V.int ++ [.int (c.sum + r)])) q = some (.tup xs) ∧
            ∃ (T2 : List Int) (r2 : Int) (w1 w2 : Option V), [some (V.ref a), some (V.ref L), some (V.int z), some (V.ref ac), some (V.int (c.sum + r))] = [some (.ref a), some (.ref L), some (.int r2), w1, w2] ∧
              upd H' L (.lst (T'.map V.int ++ [.int (c.sum + r)])) L = some (.lst (T2.map V.int)) ∧ T2.length = i + 1 ∧ comeF 0 rows = T2 ++ comeF r2 (rows.drop (i + 1)) := fun z hz => by
          refine ⟨sameOff sm hL, by rw [upd_ne nLq.symm]; exact hq2, T' ++ [c.sum + r], z, _, _, rfl, by rw [upd_same, List.map_append]; rfl, by simp [hl], ?_⟩
          rw [hc2, hz]
        refine ite2 (fun c0 => ?_) (fun c0 => ?_)
        · walk_at "st"
          exact tailOk _ (if_neg (by simpa using c0))
        · exact tailOk _ (if_pos (by simpa using c0))
    · rintro σ H' ⟨sm, hq2, T', r, u1, u2, rfl, hL2, hl, hc⟩
      walk_at "op"
      walk_at "st"
      have e : rows.drop xs.length = [] := by
        rw [hx.1, List.length_map]
        simp
      rw [e, show comeF r [] = [] from by unfold comeF; rfl, List.append_nil] at hc
      exact k L H' hL (by rw [hL2, hc]) sm

def leftF (rows : List (List Int)) : Int := ((comeF 0 rows).map fun s => if s - 1 > 0 then s - 1 else 0).sum
def spLeft : Sp := fun vs H Q _ => ∃ (v : V) (p : Addr) (rows : List (List Int)) (out : Int), vs = [v] ∧ Dat H p v (stD rows out) ∧ rows.length ≤ 4 ∧ ∀ H', Same H H' → Q (.int (leftF rows)) H'
theorem ok_meetings_left (D : Df K mg "meetings_left" s_meetings_left ["standing"]) (T : Nms mg) (c_coming : CallOk P w K mg base CX0 1 "coming" ["standing"] spComing) : CallOk P w K mg base CX0 2 "meetings_left" ["standing"] spLeft := by
  refine df_ok D sc_meetings_left (fun vs H Q E h => ?_) (fun f cdv A outer s H vs Q E hr h => ?_)
  · obtain ⟨v, p, rows, out, rfl, _⟩ := h
    rfl
  · obtain ⟨v, p, rows, out, rfl, hd, hn4, k⟩ := h
    have nd := sc_meetings_left.nd
    refine ⟨_, (pss_one (ps_ret (pe_callB (r := rSumI K) (cr_sumI rfl) (by rfl) T.n_sum (by decide +kernel) (pa_cons (pe_lc (own := [("many", 1)]) (g := (gName 1)) (tt := tYes) (by rfl) nd (pi_list (pe_cc c_coming (hr.mono (by omega)) (pa_cons (pv 0) pa_nil))) (blkOk_by (own := [("many", 1)]) (N := N_meetings_left) (sc := defScope s_meetings_left) (by decide +kernel)) (fun _ _ _ _ _ => (pg_name (i := 1) nd rfl (Or.inl rfl))) (fun _ _ _ _ _ => pts_nil) (fun _ _ _ _ _ => (pe_callB (call_max2 rfl) (by rfl) T.n_max (by decide +kernel) (pa_cons pe_int (pa_cons (pe_op op_sub (pv 1) pe_int) pa_nil))))) pa_nil)))), ?_⟩
    walk_at "op"
    walk_at "st"
    refine ⟨v, p, rows, out, rfl, hd, hn4, fun q H1 hq hq1 sm => ?_⟩
    refine ⟨_, rfl, ⟨_, SqL.of hq1⟩, fun D' hD' => ?_⟩
    have nqD : q ≠ D' := ne_of_none hq1 hD'
    have hD0 := sameFree sm hD'
    refine lI walk_list (fun i H2 => Same H H2 ∧ H2 q = some (.lst ((comeF 0 rows).map V.int)) ∧ ∃ T2 : List Int, H2 D' = some (.lst (T2.map V.int)) ∧ T2 = ((comeF 0 rows).map fun s => if s - 1 > 0 then s - 1 else 0).take i) 
      ⟨sameOff sm hD0, by rw [upd_ne nqD]; exact hq1, [], upd_same, rfl⟩ (fun i H2 _ ⟨_, e, _⟩ => SqL.of e) ?_ ?_
    · rintro i x H2 _ hi ⟨sm2, hq2, T2, hT2, e2⟩ ⟨rfl, hx⟩
      rw [List.getElem?_map] at hx
      cases es : (comeF 0 rows)[i]? with
      | none => rw [es] at hx; cases hx
      | some c =>
        rw [es] at hx
        cases hx
        walk_at "op"
        refine ⟨rfl, ?_⟩
        walk_at "st"
        have hlen : T2.length ≤ 4 := by
          rw [e2, List.length_take, List.length_map, comeF_len]
          omega
        refine ⟨_, hT2, by rw [List.length_map]; exact small1000 (by omega), sameOff sm2 hD0, by rw [upd_ne nqD]; exact hq2, T2 ++ [if c - 1 > 0 then c - 1 else 0], by rw [upd_same, List.map_append]; rfl, ?_⟩
        rw [e2, List.take_add_one, List.getElem?_map, es]
        rfl
    · rintro H2 ⟨sm2, hq2, T2, hT2, e2⟩
      walk_at "op"
      walk_at "st"
      refine .inl ⟨D', T2, rfl, SqL.of hT2, ?_⟩
      rw [e2, List.length_map, ← List.length_map (f := fun s => if s - 1 > 0 then s - 1 else 0), List.take_length]
      exact k _ sm2

end
end Fm
end FK2
section FK3
set_option Elab.async false
set_option linter.all false
set_option maxRecDepth 100000
set_option maxHeartbeats 4000000
local macro_rules | `(tactic| walk_at "ne") => `(tactic| first | assumption | (apply Ne.symm; assumption) | exact L2.ne_of_none (by assumption) (by assumption) | exact Ne.symm (L2.ne_of_none (by assumption) (by assumption)))
local macro_rules | `(tactic| walk_at "hl") => `(tactic| first | assumption | exact L2.upd_same | (refine Eq.trans (L2.upd_ne (by walk_at "ne")) ?_; walk_at "hl"))
local macro_rules | `(tactic| walk_at "sd") => `(tactic| first | (with_reducible show (_ : Int) < _; omega) | (with_reducible show (_ : Int) ≤ _; omega) | assumption | decide | exact ⟨by assumption, by assumption⟩ | exact ⟨by decide, by decide⟩ | exact Or.inr ⟨by decide, by decide⟩ | exact Or.inl ⟨by omega, by omega⟩ | rfl)
local macro_rules | `(tactic| walk_at "st1") => `(tactic| first
  | refine ⟨_, rfl, ?_⟩
  | refine ⟨_, _, rfl, rfl, ?_⟩
  | refine ⟨_, _, rfl, ?_⟩
  | (refine ⟨_, _, _, _, rfl, rfl, L2.SqL.of (by walk_at "hl"), rfl, ?_⟩)
  | (refine ⟨_, _, _, _, rfl, rfl, L2.SqT.of (by walk_at "hl"), rfl, ?_⟩)
  | (refine ⟨_, _, _, _, rfl, rfl, (by walk_at "hl"), rfl, ?_⟩)
  | (refine And.intro (by walk_at "sd") ?_)
  )
local macro_rules | `(tactic| walk_at "st") => `(tactic| repeat walk_at "st1")
local macro_rules | `(tactic| walk_at "op") => `(tactic| try dsimp only [L2.tSeq, L2.tAsg, L2.tOp, L2.tVar, L2.tC, L2.gSub, L2.rI, L2.rI0, L2.rIxL, L2.rIxT, L2.rSetL, L2.tIfS, L2.tTest, L2.tRet, L2.gName, L2.tNext, L2.tAnd, L2.tOr, L2.tNot, L2.tAndV, L2.tOrV, L2.tNotV, L2.tB, L2.tCB, L2.tCons, L2.tNil, L2.tCall, L2.tTup, L2.tLst, L2.tChain, L2.tUn, L2.tPar, L2.tDrop, L2.tIf, L2.tBM, L2.tBM0, L2.rAppend, L2.rCat, L2.rIsi, L2.rIsiT, L2.gTup, L2.gCons, L2.gNil, Fm.tFor_eq, Fm.tLc_eq, L2.iTup, L2.iList, L2.iRng1, L2.iRng2, L2.tSl, L2.tPart, L2.tNoPart, L2.rSlL, L2.rEq, L2.rNe, L2.rU, L2.rEqD, L2.rNeD, Fm.tRevT, Fm.rLenS, Fm.rTupOf, Fm.rLstOf, L2.tDNewK, L2.tCallS, L2.WE, Fm.wKeep, Fm.rIsK, Fm.rIsKT, List.cons_append, List.nil_append, L2.tYes])
namespace Fm
open PySem PySem.Spec PyProof.Rows L2
abbrev s_check_standing : Stmt := top 36
abbrev N_check_standing : List Str := ["house", "standing", "m", "floors"]
theorem sc_check_standing : FnScope N_check_standing ["house", "standing"] (defScope s_check_standing) := ⟨rfl, rfl, rfl, by decide +kernel, rfl, by decide +kernel, by decide +kernel⟩
abbrev s_how_long : Stmt := top 44
abbrev N_how_long : List Str := ["house", "standing"]
theorem sc_how_long : FnScope N_how_long ["house", "standing"] (defScope s_how_long) := ⟨rfl, rfl, rfl, by decide +kernel, rfl, by decide +kernel, by decide +kernel⟩
abbrev s_who_rests : Stmt := top 46
abbrev N_who_rests : List Str := ["house", "standing", "many"]
theorem sc_who_rests : FnScope N_who_rests ["house", "standing"] (defScope s_who_rests) := ⟨rfl, rfl, rfl, by decide +kernel, rfl, by decide +kernel, by decide +kernel⟩
section
variable {P : Program} {w : World} {K : PySem.W.Frag} {mg : Str → Option Value} {base : Heap}
def spWho (K : PySem.W.Frag) : Sp := fun vs H Q _ => ∃ (hv sv : V) (p p' : Addr) (hd : PyData) (m n : Nat) (rows : List (List Int)) (out : Int), vs = [hv, sv] ∧ Dat H p hv hd ∧ HouseN m n hd ∧ Dat H p' sv (stD rows out) ∧ rows.length = n ∧ StOk m rows out ∧
  ∀ q H', H q = none → H' q = some (.tup ((comeF 0 rows).map fun s => V.bl (decide (s > 0)))) → Same H H' → Q (.ref q) H'
def spStIn (R : List (List Int) → Int → VK → Hp → Prop) : Sp := fun vs H Q _ => ∃ (hv sv : V) (p p' : Addr) (hd : PyData) (m n : Nat) (rows : List (List Int)) (out : Int), vs = [hv, sv] ∧ Dat H p hv hd ∧ HouseN m n hd ∧ Dat H p' sv (stD rows out) ∧ rows.length = n ∧ StOk m rows out ∧ R rows out Q H
def spCheck : Sp := spStIn fun _ _ Q H => ∀ H', Same H H' → Q .non H'
theorem ok_check_standing (D : Df K mg "check_standing" s_check_standing ["house", "standing"]) (T : Nms mg) {C M C2 : Addr} (EX_NoStanding : Exn K mg "NoStanding" C2 M)
    (c_size : CallOk P w K mg base (L2.CX P w) 6 "size" ["house"] (spSize C)) (c_has_form : CallOk P w K mg base CX0 4 "has_form" ["thing", "m", "floors", "most"] spForm) :
    CallOk P w K mg base (L2.CX P w) 7 "check_standing" ["house", "standing"] spCheck := by
  refine df_okX D sc_check_standing (fun vs H Q E h => ?_) (fun f cdv A outer s H vs Q E hr h => ?_)
  · obtain ⟨hv, sv, p, p', hd, m, n, rows, out, rfl, _⟩ := h
    rfl
  · obtain ⟨hv, sv, p, p', hd, m, n, rows, out, rfl, hD, hN, sD, hl, ok, k⟩ := h
    have nd := sc_check_standing.nd
    refine ⟨_, (pss_cons (ps_asg (pe_cx c_size (hr.mono (by omega)) (pa_cons (pv 0) pa_nil)) (pg_tup rfl (pgs_cons (pg_name (i := 2) nd rfl (Or.inl rfl)) (pgs_cons (pg_name (i := 3) nd rfl (Or.inl rfl)) pgs_nil))))
      (pss_one (ps_if (pt_not (pt_val (pe_cc c_has_form (hr.mono (by omega)) (pa_cons (pv 1) (pa_cons (pv 2) (pa_cons (pv 3) (pa_cons pe_non pa_nil))))))) (pss_one (ps_raiseE rfl (takes_of rfl rfl rfl rfl) EX_NoStanding rfl)) pss_nil))), ?_⟩
    walk_at "op"
    walk_at "st"
    refine ⟨hv, p, hd, rfl, hD, fun m' n' hN' q H' hq hq2 sm => ?_, fun no => (no ⟨m, n, hN⟩).elim⟩
    obtain ⟨rfl, rfl⟩ := houseN_inj hN hN'
    refine ⟨q, _, rfl, SqT.of hq2, rfl, _, _, rfl, _, _, rfl, rfl, ?_⟩
    walk_at "op"
    walk_at "st"
    obtain ⟨_, _, _, hn1, hn4, _⟩ := hN
    refine ⟨sv, p', m, n, rows, out, rfl, sD.same sm, hl, hn1, hn4, ok, fun H2 sm2 => ?_⟩
    walk_at "st"
    exact iteF (k _ (sm.trans sm2))
theorem ok_how_long (D : Df K mg "how_long" s_how_long ["house", "standing"]) (T : Nms mg) (c_check_standing : CallOk P w K mg base (L2.CX P w) 7 "check_standing" ["house", "standing"] spCheck)
    (c_meetings_left : CallOk P w K mg base CX0 2 "meetings_left" ["standing"] spLeft) : CallOk P w K mg base CX0 8 "how_long" ["house", "standing"] (spStIn fun rows _ Q H => ∀ H', Same H H' → Q (.int (leftF rows)) H') := by
  refine df_ok D sc_how_long (fun vs H Q E h => ?_) (fun f cdv A outer s H vs Q E hr h => ?_)
  · obtain ⟨hv, sv, p, p', hd, m, n, rows, out, rfl, _⟩ := h
    rfl
  · obtain ⟨hv, sv, p, p', hd, m, n, rows, out, rfl, hD, hN, sD, hl, ok, k⟩ := h
    have nd := sc_how_long.nd
    have hn4 : n ≤ 4 := by
      obtain ⟨_, _, _, _, hn4, _⟩ := hN
      exact hn4
    refine ⟨_, (pss_cons (ps_expr (pe_cx c_check_standing (hr.mono (by omega)) (pa_cons (pv 0) (pa_cons (pv 1) pa_nil))))
      (pss_one (ps_ret (pe_cc c_meetings_left (hr.mono (by omega)) (pa_cons (pv 1) pa_nil))))), ?_⟩
    walk_at "op"
    walk_at "st"
    refine ⟨hv, sv, p, p', hd, m, n, rows, out, rfl, hD, hN, sD, hl, ok, fun H1 sm => ?_⟩
    walk_at "op"
    walk_at "st"
    exact ⟨sv, p', rows, out, rfl, sD.same sm, by omega, fun H2 sm2 => k _ (sm.trans sm2)⟩
theorem ok_who_rests (D : Df K mg "who_rests" s_who_rests ["house", "standing"]) (T : Nms mg) (c_check_standing : CallOk P w K mg base (L2.CX P w) 7 "check_standing" ["house", "standing"] spCheck)
    (c_coming : CallOk P w K mg base CX0 1 "coming" ["standing"] spComing) : CallOk P w K mg base CX0 8 "who_rests" ["house", "standing"]
      (spStIn fun rows _ Q H => ∀ q H', H q = none → H' q = some (.tup ((comeF 0 rows).map fun s => V.bl (decide (s > 0)))) → Same H H' → Q (.ref q) H') := by
  refine df_ok D sc_who_rests (fun vs H Q E h => ?_) (fun f cdv A outer s H vs Q E hr h => ?_)
  · obtain ⟨hv, sv, p, p', hd, m, n, rows, out, rfl, _⟩ := h
    rfl
  · obtain ⟨hv, sv, p, p', hd, m, n, rows, out, rfl, hD, hN, sD, hl, ok, k⟩ := h
    have nd := sc_who_rests.nd
    have hn4 : n ≤ 4 := by
      obtain ⟨_, _, _, _, hn4, _⟩ := hN
      exact hn4
    refine ⟨_, (pss_cons (ps_expr (pe_cx c_check_standing (hr.mono (by omega)) (pa_cons (pv 0) (pa_cons (pv 1) pa_nil))))
      (pss_one (ps_ret (pe_callTy (r := rTupOf K) call_tupOf (by rfl) T.n_tuple (by decide +kernel) (pa_cons (pe_lc (own := [("many", 2)]) (g := (gName 2)) (tt := tYes) (by rfl) nd (pi_list (pe_cc c_coming (hr.mono (by omega)) (pa_cons (pv 1) pa_nil))) (blkOk_by (own := [("many", 2)]) (N := N_who_rests) (sc := defScope s_who_rests) (by decide +kernel)) (fun _ _ _ _ _ => (pg_name (i := 2) nd rfl (Or.inl rfl))) (fun _ _ _ _ _ => pts_nil) (fun _ _ _ _ _ => (pe_cmpR op_gt (pv 2) pe_int (nomark _)))) pa_nil))))), ?_⟩
    walk_at "op"
    walk_at "st"
    refine ⟨hv, sv, p, p', hd, m, n, rows, out, rfl, hD, hN, sD, hl, ok, fun H0 sm0 => ?_⟩
    walk_at "op"
    walk_at "st"
    refine ⟨sv, p', rows, out, rfl, sD.same sm0, by omega, fun q H1 hq hq1 sm => ?_⟩
    refine ⟨_, rfl, ⟨_, SqL.of hq1⟩, fun D' hD' => ?_⟩
    have nqD : q ≠ D' := ne_of_none hq1 hD'
    have hD0 := sameFree sm hD'
    refine lI walk_list (fun i H2 => Same H0 H2 ∧ H2 q = some (.lst ((comeF 0 rows).map V.int)) ∧ H2 D' = some (.lst (((comeF 0 rows).map fun s => V.bl (decide (s > 0))).take i))) 
      ⟨sameOff sm hD0, by rw [upd_ne nqD]; exact hq1, upd_same⟩ (fun i H2 _ ⟨_, e, _⟩ => SqL.of e) ?_ ?_
    · rintro i x H2 _ hi ⟨sm2, hq2, hT2⟩ ⟨rfl, hx⟩
      rw [List.getElem?_map] at hx
      cases es : (comeF 0 rows)[i]? with
      | none => rw [es] at hx; cases hx
      | some c =>
        rw [es] at hx
        cases hx
        walk_at "op"
        refine ⟨rfl, ?_⟩
        walk_at "st"
        have hlen : (((comeF 0 rows).map fun s => V.bl (decide (s > 0))).take i).length ≤ 4 := by
          rw [List.length_take, List.length_map, comeF_len]
          omega
        refine ⟨_, hT2, small1000 (by omega), sameOff sm2 hD0, by rw [upd_ne nqD]; exact hq2, ?_⟩
        rw [upd_same, List.take_add_one, List.getElem?_map, es]
        rfl
    · rintro H2 ⟨sm2, hq2, hT2⟩
      walk_at "op"
      walk_at "st"
      rw [List.length_map, ← List.length_map (f := fun s => V.bl (decide (s > 0))), List.take_length] at hT2
      refine ⟨_, _, rfl, .inl ⟨SqL.of hT2, fun t ht => k t _ (sameFree sm0 (sameFree sm2 ht)) upd_same (sm0.trans (sameOff sm2 (sameFree sm2 ht)))⟩⟩

end
end Fm
end FK3
section FK4
set_option Elab.async false
set_option linter.all false
set_option maxRecDepth 100000
set_option maxHeartbeats 4000000
local macro_rules | `(tactic| walk_at "ne") => `(tactic| first | assumption | (apply Ne.symm; assumption) | exact L2.ne_of_none (by assumption) (by assumption) | exact Ne.symm (L2.ne_of_none (by assumption) (by assumption)))
local macro_rules | `(tactic| walk_at "hl") => `(tactic| first | assumption | exact L2.upd_same | (refine Eq.trans (L2.upd_ne (by walk_at "ne")) ?_; walk_at "hl"))
local macro_rules | `(tactic| walk_at "sd") => `(tactic| first | (with_reducible show (_ : Int) < _; omega) | (with_reducible show (_ : Int) ≤ _; omega) | assumption | decide | exact ⟨by assumption, by assumption⟩ | exact ⟨by decide, by decide⟩ | exact Or.inr ⟨by decide, by decide⟩ | exact Or.inl ⟨by omega, by omega⟩ | rfl)
local macro_rules | `(tactic| walk_at "st1") => `(tactic| first
  | refine ⟨_, rfl, ?_⟩
  | refine ⟨_, _, rfl, rfl, ?_⟩
  | refine ⟨_, _, rfl, ?_⟩
  | (refine ⟨_, _, _, _, rfl, rfl, L2.SqL.of (by walk_at "hl"), rfl, ?_⟩)
  | (refine ⟨_, _, _, _, rfl, rfl, L2.SqT.of (by walk_at "hl"), rfl, ?_⟩)
  | (refine ⟨_, _, _, _, rfl, rfl, (by walk_at "hl"), rfl, ?_⟩)
  | (refine And.intro (by walk_at "sd") ?_)
  )
local macro_rules | `(tactic| walk_at "st") => `(tactic| repeat walk_at "st1")
local macro_rules | `(tactic| walk_at "op") => `(tactic| try dsimp only [L2.tSeq, L2.tAsg, L2.tOp, L2.tVar, L2.tC, L2.gSub, L2.rI, L2.rI0, L2.rIxL, L2.rIxT, L2.rSetL, L2.tIfS, L2.tTest, L2.tRet, L2.gName, L2.tNext, L2.tAnd, L2.tOr, L2.tNot, L2.tAndV, L2.tOrV, L2.tNotV, L2.tB, L2.tCB, L2.tCons, L2.tNil, L2.tCall, L2.tTup, L2.tLst, L2.tChain, L2.tUn, L2.tPar, L2.tDrop, L2.tIf, L2.tBM, L2.tBM0, L2.rAppend, L2.rCat, L2.rIsi, L2.rIsiT, L2.gTup, L2.gCons, L2.gNil, Fm.tFor_eq, Fm.tLc_eq, L2.iTup, L2.iList, L2.iRng1, L2.iRng2, L2.tSl, L2.tPart, L2.tNoPart, L2.rSlL, L2.rEq, L2.rNe, L2.rU, L2.rEqD, L2.rNeD, Fm.tRevT, Fm.rLenS, Fm.rTupOf, Fm.rLstOf, L2.tDNewK, L2.tCallS, L2.WE, Fm.wKeep, Fm.rIsK, Fm.rIsKT, List.cons_append, List.nil_append, L2.tYes])
namespace Fm
open PySem PySem.Spec PyProof.Rows L2
abbrev s_is_still : Stmt := top 43
abbrev N_is_still : List Str := ["standing", "counts"]
theorem sc_is_still : FnScope N_is_still ["standing"] (defScope s_is_still) := ⟨rfl, rfl, rfl, by decide +kernel, rfl, by decide +kernel, by decide +kernel⟩
abbrev s_is_rest : Stmt := top 42
abbrev N_is_rest : List Str := ["house", "standing"]
theorem sc_is_rest : FnScope N_is_rest ["house", "standing"] (defScope s_is_rest) := ⟨rfl, rfl, rfl, by decide +kernel, rfl, by decide +kernel, by decide +kernel⟩
section
variable {P : Program} {w : World} {K : PySem.W.Frag} {mg : Str → Option Value} {base : Heap}
theorem max_le_one {l : List Int} {M : Int} (h1 : M ∈ l) (h2 : ∀ y, y ∈ l → y ≤ M) : (decide (M ≤ 1) = true ↔ ∀ y ∈ l, y ≤ 1) :=
  ⟨fun z y hy => Int.le_trans (h2 y hy) (of_decide_eq_true z), fun z => decide_eq_true (z M h1)⟩
def spStill : Sp := fun vs H Q _ => ∃ (v : V) (p : Addr) (rows : List (List Int)) (out : Int), vs = [v] ∧ Dat H p v (stD rows out) ∧ 1 ≤ rows.length ∧ rows.length ≤ 4 ∧ ∀ (b : Bool) H', (b = true ↔ ∀ r ∈ rows, r.sum ≤ 1) → Same H H' → Q (.bl b) H'
theorem ok_is_still (D : Df K mg "is_still" s_is_still ["standing"]) (T : Nms mg) : CallOk P w K mg base CX0 1 "is_still" ["standing"] spStill := by
  refine df_ok D sc_is_still (fun vs H Q E h => ?_) (fun f cdv A outer s H vs Q E hr h => ?_)
  · obtain ⟨v, p, rows, out, rfl, _⟩ := h
    rfl
  · obtain ⟨v, p, rows, out, rfl, hd, hn1, hn4, k⟩ := h
    obtain ⟨a, xs, rfl, ha, nap, hx⟩ := st_parts hd
    have nd := sc_is_still.nd
    refine ⟨_, (pss_one (ps_ret (pe_cmpR op_le (pe_callB (cr_max rfl) (by rfl) T.n_max (by decide +kernel) (pa_cons (pe_lc (own := [("counts", 1)]) (g := (gName 1)) (tt := tYes) (by rfl) nd (pi_tup (pe_slice (r := rSlA K) sl_tupA (pv 0) po_none (po_some (pe_un un_neg pe_int)))) (blkOk_by (own := [("counts", 1)]) (N := N_is_still) (sc := defScope s_is_still) (by decide +kernel)) (fun _ _ _ _ _ => (pg_name (i := 1) nd rfl (Or.inl rfl))) (fun _ _ _ _ _ => pts_nil) (fun _ _ _ _ _ => (pe_callB (r := rSumI K) (cr_sumI rfl) (by rfl) T.n_sum (by decide +kernel) (pa_cons (pv 1) pa_nil)))) pa_nil)) pe_int (nomark _)))), ?_⟩
    walk_at "op"
    walk_at "st"
    refine sl_init (SqT.of ha) fun q hq => ?_
    refine ⟨_, rfl, ⟨_, SqT.of upd_same⟩, fun D' hD' => ?_⟩
    have nqD : q ≠ D' := ne_of_none upd_same hD'
    have hD0 : H D' = none := by rw [← hD', upd_ne nqD.symm]
    refine lI walk_tup (fun i H2 => Same H H2 ∧ H2 q = some (.tup xs) ∧ H2 D' = some (.lst (((rows.map List.sum).take i).map V.int))) 
      ⟨sameOff (same_new hq) hD0, by rw [upd_ne nqD]; exact upd_same, upd_same⟩ (fun i H2 _ ⟨_, e, _⟩ => SqT.of e) ?_ ?_
    · rintro i x H2 _ hi ⟨sm2, hq2, hT2⟩ ⟨rfl, hxi⟩
      obtain ⟨e, he, hde⟩ := hx.at hxi
      rw [List.getElem?_map] at he
      cases er : rows[i]? with
      | none => rw [er] at he; cases he
      | some c =>
        rw [er] at he
        cases he
        obtain ⟨ac, rfl, hac, _⟩ := row_parts (hde.same sm2)
        walk_at "op"
        refine ⟨rfl, ?_⟩
        walk_at "st"
        have hlen : ((rows.map List.sum).take i).length ≤ 4 := by
          rw [List.length_take, List.length_map]
          omega
        refine .inr ⟨ac, c, rfl, SqT.of hac, ?_⟩
        refine ⟨_, hT2, by rw [List.length_map]; exact small1000 (by omega), sameOff sm2 hD0, by rw [upd_ne nqD]; exact hq2, ?_⟩
        rw [upd_same, List.take_add_one, List.getElem?_map, er, List.map_append]
        rfl
    · rintro H2 ⟨sm2, hq2, hT2⟩
      walk_at "op"
      walk_at "st"
      have e1 : xs.length = (rows.map List.sum).length := by rw [hx.1, List.length_map, List.length_map]
      rw [e1, List.take_length] at hT2
      refine ⟨D', _, rfl, SqL.of hT2, by rw [List.length_map]; omega, fun M hM1 hM2 => ?_⟩
      walk_at "st"
      refine k _ _ ?_ sm2
      rw [max_le_one hM1 hM2]
      exact ⟨fun z r hr => z _ (List.mem_map_of_mem hr), fun z y hy => by obtain ⟨r, hr, rfl⟩ := List.mem_map.mp hy; exact z r hr⟩
theorem ok_is_rest (D : Df K mg "is_rest" s_is_rest ["house", "standing"]) (T : Nms mg) (c_check_standing : CallOk P w K mg base (L2.CX P w) 7 "check_standing" ["house", "standing"] spCheck)
    (c_is_still : CallOk P w K mg base CX0 1 "is_still" ["standing"] spStill) : CallOk P w K mg base CX0 8 "is_rest" ["house", "standing"]
      (spStIn fun rows _ Q H => ∀ (b : Bool) H', (b = true ↔ ∀ r ∈ rows, r.sum ≤ 1) → Same H H' → Q (.bl b) H') := by
  refine df_ok D sc_is_rest (fun vs H Q E h => ?_) (fun f cdv A outer s H vs Q E hr h => ?_)
  · obtain ⟨hv, sv, p, p', hd, m, n, rows, out, rfl, _⟩ := h
    rfl
  · obtain ⟨hv, sv, p, p', hd, m, n, rows, out, rfl, hD, hN, sD, hl, ok, k⟩ := h
    have nd := sc_is_rest.nd
    have hn : 1 ≤ n ∧ n ≤ 4 := by
      obtain ⟨_, _, _, hn1, hn4, _⟩ := hN
      exact ⟨hn1, hn4⟩
    refine ⟨_, (pss_cons (ps_expr (pe_cx c_check_standing (hr.mono (by omega)) (pa_cons (pv 0) (pa_cons (pv 1) pa_nil))))
      (pss_one (ps_ret (pe_cc c_is_still (hr.mono (by omega)) (pa_cons (pv 1) pa_nil))))), ?_⟩
    walk_at "op"
    walk_at "st"
    refine ⟨hv, sv, p, p', hd, m, n, rows, out, rfl, hD, hN, sD, hl, ok, fun H1 sm => ?_⟩
    walk_at "op"
    walk_at "st"
    exact ⟨sv, p', rows, out, rfl, sD.same sm, by omega, by omega, fun b H2 hb sm2 => k b _ hb (sm.trans sm2)⟩
def spAdded : Sp := fun vs H Q _ => ∃ (v1 v2 : V) (p p' : Addr) (r1 r2 : List Int), vs = [v1, v2] ∧ Dat H p v1 (rowD r1) ∧ Dat H p' v2 (rowD r2) ∧ r1.length = r2.length ∧ r1.length ≤ 6 ∧
  ∀ q H', H q = none → H' q = some (.tup ((List.zipWith (· + ·) r1 r2).map V.int)) → Same H H' → Q (.ref q) H'
def addRows (a b : List (List Int)) : List (List Int) := List.zipWith (List.zipWith (· + ·)) a b
theorem Dat.off {H : Hp} {p L : Addr} {o : HO} {v : V} {d : PyData} (h : Dat H p v d) (hL : H L = none) : Dat (upd H L o) p v d := h.same (same_new hL)
theorem Dats.off {H : Hp} {p L : Addr} {o : HO} {xs : List V} {ds : List PyData} (h : Dats H p xs ds) (hL : H L = none) : Dats (upd H L o) p xs ds := ⟨h.1, fun i x d a b => (h.2 i x d a b).off hL⟩
theorem Dats.same {H H' : Hp} {p : Addr} {xs : List V} {ds : List PyData} (h : Dats H p xs ds) (e : Same H H') : Dats H' p xs ds := ⟨h.1, fun i x d a b => (h.2 i x d a b).same e⟩
def spTogether : Sp := fun vs H Q _ => ∃ (hv v1 v2 : V) (p ph : Addr) (hd : PyData) (m n : Nat) (R1 R2 : List (List Int)) (o1 o2 : Int) (u : HO), vs = [hv, v1, v2] ∧ H p = some u ∧ Dat H ph hv hd ∧ HouseN m n hd ∧ Dat H p v1 (stD R1 o1) ∧ Dat H p v2 (stD R2 o2) ∧ R1.length = n ∧ R2.length = n ∧ StOk m R1 o1 ∧ StOk m R2 o2 ∧
  ∀ v H', Dat H' p v (stD (addRows R1 R2) (o1 + o2)) → Same H H' → Q v H'

end
end Fm
end FK4
section FS1
set_option Elab.async false
set_option linter.all false
set_option maxRecDepth 100000
set_option maxHeartbeats 4000000
local macro_rules | `(tactic| walk_at "ne") => `(tactic| first | assumption | (apply Ne.symm; assumption) | exact L2.ne_of_none (by assumption) (by assumption) | exact Ne.symm (L2.ne_of_none (by assumption) (by assumption)))
local macro_rules | `(tactic| walk_at "hl") => `(tactic| first | assumption | exact L2.upd_same | (refine Eq.trans (L2.upd_ne (by walk_at "ne")) ?_; walk_at "hl"))
local macro_rules | `(tactic| walk_at "sd") => `(tactic| first | (with_reducible show (_ : Int) < _; omega) | (with_reducible show (_ : Int) ≤ _; omega) | assumption | decide | exact ⟨by assumption, by assumption⟩ | exact ⟨by decide, by decide⟩ | exact Or.inr ⟨by decide, by decide⟩ | exact Or.inl ⟨by omega, by omega⟩ | rfl)
local macro_rules | `(tactic| walk_at "st1") => `(tactic| first
  | refine ⟨_, rfl, ?_⟩
  | refine ⟨_, _, rfl, rfl, ?_⟩
  | refine ⟨_, _, rfl, ?_⟩
  | (refine ⟨_, _, _, _, rfl, rfl, L2.SqL.of (by walk_at "hl"), rfl, ?_⟩)
  | (refine ⟨_, _, _, _, rfl, rfl, L2.SqT.of (by walk_at "hl"), rfl, ?_⟩)
  | (refine ⟨_, _, _, _, rfl, rfl, (by walk_at "hl"), rfl, ?_⟩)
  | (refine And.intro (by walk_at "sd") ?_)
  )
local macro_rules | `(tactic| walk_at "st") => `(tactic| repeat walk_at "st1")
local macro_rules | `(tactic| walk_at "op") => `(tactic| try dsimp only [L2.tSeq, L2.tAsg, L2.tOp, L2.tVar, L2.tC, L2.gSub, L2.rI, L2.rI0, L2.rIxL, L2.rIxT, L2.rSetL, L2.tIfS, L2.tTest, L2.tRet, L2.gName, L2.tNext, L2.tAnd, L2.tOr, L2.tNot, L2.tAndV, L2.tOrV, L2.tNotV, L2.tB, L2.tCB, L2.tCons, L2.tNil, L2.tCall, L2.tTup, L2.tLst, L2.tChain, L2.tUn, L2.tPar, L2.tDrop, L2.tIf, L2.tBM, L2.tBM0, L2.rAppend, L2.rCat, L2.rIsi, L2.rIsiT, L2.gTup, L2.gCons, L2.gNil, Fm.tFor_eq, Fm.tLc_eq, L2.iTup, L2.iList, L2.iRng1, L2.iRng2, L2.tSl, L2.tPart, L2.tNoPart, L2.rSlL, L2.rEq, L2.rNe, L2.rU, L2.rEqD, L2.rNeD, Fm.tRevT, Fm.rLenS, Fm.rTupOf, Fm.rLstOf, L2.tDNewK, L2.tCallS, L2.WE, Fm.wKeep, Fm.rIsK, Fm.rIsKT, List.cons_append, List.nil_append, L2.tYes])
namespace Fm
open PySem PySem.Spec PyProof.Rows L2
section
variable {P : Program} {w : World} {K : PySem.W.Frag} {mg : Str → Option Value} {base : Heap}
theorem sumF_take {c : List Int} {i : Nat} {x : Int} (h : c[i]? = some x) (r : Int) : r + (c.take i).sum + x = r + (c.take (i + 1)).sum := by
  rw [List.take_add_one, h, List.sum_append]
  show _ = r + (_ + (x + 0))
  omega
theorem sum_pos : ∀ {c : List Int}, (∀ x ∈ c, 0 ≤ x) → 0 ≤ c.sum
  | [], _ => Int.le_refl 0
  | x :: c, h => by
    rw [List.sum_cons]
    have := h x List.mem_cons_self
    have := sum_pos (c := c) fun y hy => h y (List.mem_cons_of_mem _ hy)
    omega
def spSums : Sp := fun vs H Q _ => ∃ (v : V) (p : Addr) (rows : List (List Int)) (out : Int) (m : Nat), vs = [v] ∧ Dat H p v (stD rows out) ∧ rows.length ≤ 4 ∧ StOk m rows out ∧ ∀ q H', H q = none → H' q = some (.lst ((comeF 0 rows).map V.int)) → Same H H' → Q (.ref q) H'

end
end Fm
end FS1
section FC1
set_option Elab.async false
set_option linter.all false
set_option maxRecDepth 100000
set_option maxHeartbeats 4000000
local macro_rules | `(tactic| walk_at "ne") => `(tactic| first | assumption | (apply Ne.symm; assumption) | exact L2.ne_of_none (by assumption) (by assumption) | exact Ne.symm (L2.ne_of_none (by assumption) (by assumption)))
local macro_rules | `(tactic| walk_at "hl") => `(tactic| first | assumption | exact L2.upd_same | (refine Eq.trans (L2.upd_ne (by walk_at "ne")) ?_; walk_at "hl"))
local macro_rules | `(tactic| walk_at "sd") => `(tactic| first | (with_reducible show (_ : Int) < _; omega) | (with_reducible show (_ : Int) ≤ _; omega) | assumption | decide | exact ⟨by assumption, by assumption⟩ | exact ⟨by decide, by decide⟩ | exact Or.inr ⟨by decide, by decide⟩ | exact Or.inl ⟨by omega, by omega⟩ | rfl)
local macro_rules | `(tactic| walk_at "st1") => `(tactic| first
  | refine ⟨_, rfl, ?_⟩
  | refine ⟨_, _, rfl, rfl, ?_⟩
  | refine ⟨_, _, rfl, ?_⟩
  | (refine ⟨_, _, _, _, rfl, rfl, L2.SqL.of (by walk_at "hl"), rfl, ?_⟩)
  | (refine ⟨_, _, _, _, rfl, rfl, L2.SqT.of (by walk_at "hl"), rfl, ?_⟩)
  | (refine ⟨_, _, _, _, rfl, rfl, (by walk_at "hl"), rfl, ?_⟩)
  | (refine And.intro (by walk_at "sd") ?_)
  )
local macro_rules | `(tactic| walk_at "st") => `(tactic| repeat walk_at "st1")
local macro_rules | `(tactic| walk_at "op") => `(tactic| try dsimp only [L2.tSeq, L2.tAsg, L2.tOp, L2.tVar, L2.tC, L2.gSub, L2.rI, L2.rI0, L2.rIxL, L2.rIxT, L2.rSetL, L2.tIfS, L2.tTest, L2.tRet, L2.gName, L2.tNext, L2.tAnd, L2.tOr, L2.tNot, L2.tAndV, L2.tOrV, L2.tNotV, L2.tB, L2.tCB, L2.tCons, L2.tNil, L2.tCall, L2.tTup, L2.tLst, L2.tChain, L2.tUn, L2.tPar, L2.tDrop, L2.tIf, L2.tBM, L2.tBM0, L2.rAppend, L2.rCat, L2.rIsi, L2.rIsiT, L2.gTup, L2.gCons, L2.gNil, Fm.tFor_eq, Fm.tLc_eq, L2.iTup, L2.iList, L2.iRng1, L2.iRng2, L2.tSl, L2.tPart, L2.tNoPart, L2.rSlL, L2.rEq, L2.rNe, L2.rU, L2.rEqD, L2.rNeD, Fm.tRevT, Fm.rLenS, Fm.rTupOf, Fm.rLstOf, L2.tDNewK, L2.tCallS, L2.WE, Fm.wKeep, Fm.rIsK, Fm.rIsKT, List.cons_append, List.nil_append, L2.tYes])
namespace Fm
open PySem PySem.Spec PyProof.Rows L2
section
variable {P : Program} {w : World} {K : PySem.W.Frag} {mg : Str → Option Value} {base : Heap}
/-! ### people told apart, floor by floor -/
def rowL (r : List Int) : PyData := .list (r.map PyData.int)
def crowdD (fl : List (List Int)) (out : Int) : PyData := .tuple [.list (fl.map rowL), .int out]
def rowOf (c : List Int) (n : Nat) : List Int := (List.range n).flatMap fun i => List.replicate (c.getD i 0).toNat (i : Int)
theorem rowOf_succ (c : List Int) (n : Nat) : rowOf c (n + 1) = rowOf c n ++ List.replicate (c.getD n 0).toNat (n : Int) := by
  unfold rowOf
  rw [List.range_succ, List.flatMap_append, List.flatMap_singleton]
theorem rowOf_len (c : List Int) (hp : ∀ x ∈ c, 0 ≤ x) : ∀ n, n ≤ c.length → ((rowOf c n).length : Int) = (c.take n).sum
  | 0, _ => rfl
  | n + 1, h => by
    have ih := rowOf_len c hp n (by omega)
    have e : c[n]? = some (c.getD n 0) := by
      rw [List.getD_eq_getElem?_getD, List.getElem?_eq_getElem (show n < c.length by omega)]
      rfl
    have q := sumF_take e 0
    have hn := hp _ (List.mem_of_getElem? e)
    rw [rowOf_succ, List.length_append, List.length_replicate]
    omega
theorem rowOf_in (c : List Int) : ∀ n, ∀ e ∈ rowOf c n, 0 ≤ e ∧ e < (n : Int) := fun n e he => by
  unfold rowOf at he
  obtain ⟨i, hi, h⟩ := List.mem_flatMap.mp he
  have := List.mem_range.mp hi
  have e1 := (List.mem_replicate.mp h).2
  omega
theorem rep_one (n : Nat) (x : V) : (List.replicate n [x]).flatten = List.replicate n x := by
  induction n with
  | zero => rfl
  | succ n ih => rw [List.replicate_succ, List.flatten_cons, ih, List.replicate_succ]; rfl
theorem flat_rowOf (c : List Int) (n : Nat) : ((List.range n).flatMap fun i => List.replicate (c.getD i 0).toNat (V.int i)) = (rowOf c n).map V.int := by
  unfold rowOf
  rw [List.map_flatMap]
  congr 1
  funext i
  rw [List.map_replicate]
/-- a list at L of lists of ints -/
structure LL (H : Hp) (p L : Addr) (ws : List V) (fl : List (List Int)) : Prop where
  at_ : H L = some (.lst ws)
  len : ws.length = fl.length
  row : ∀ (j : Nat) (c : List Int), fl[j]? = some c → ∃ b : Addr, ws[j]? = some (V.ref b) ∧ H b = some (.lst (c.map V.int)) ∧ b ≠ L ∧ b ≠ p
theorem LL.nil {H : Hp} {p L : Addr} (h : H L = some (.lst [])) : LL H p L [] [] := ⟨h, rfl, fun j c e => by cases e⟩
theorem LL.same {H H' : Hp} {p L : Addr} {ws : List V} {fl : List (List Int)} (h : LL H p L ws fl) (e : Same H H') : LL H' p L ws fl :=
  ⟨e _ _ h.at_, h.len, fun j c q => by
    obtain ⟨b, e1, e2, e3⟩ := h.row j c q
    exact ⟨b, e1, e _ _ e2, e3⟩⟩
theorem LL.snoc {H : Hp} {p L b : Addr} {ws : List V} {fl : List (List Int)} {c : List Int} (h : LL H p L ws fl) (hb : H b = some (.lst (c.map V.int))) (n1 : b ≠ L) (n2 : b ≠ p) : LL (upd H L (.lst (ws ++ [.ref b]))) p L (ws ++ [.ref b]) (fl ++ [c]) := by
  refine ⟨upd_same, by rw [List.length_append, List.length_append, h.len]; rfl, fun j d q => ?_⟩
  by_cases hj : j < fl.length
  · rw [List.getElem?_append_left hj] at q
    obtain ⟨b', e1, e2, e3, e4⟩ := h.row j d q
    exact ⟨b', by rw [List.getElem?_append_left (by rw [h.len]; exact hj)]; exact e1, by rw [upd_ne e3]; exact e2, e3, e4⟩
  · rw [List.getElem?_append_right (by omega)] at q
    cases z : j - fl.length with
    | zero =>
      rw [z] at q
      cases q
      exact ⟨b, by rw [List.getElem?_append_right (by rw [h.len]; omega), h.len, z]; rfl, by rw [upd_ne n1]; exact hb, n1, n2⟩
    | succ k =>
      rw [z] at q
      cases q
theorem LL.dat {H : Hp} {p L : Addr} {ws : List V} {fl : List (List Int)} (h : LL H p L ws fl) (n : L ≠ p) : Dat H p (.ref L) (.list (fl.map rowL)) := by
  refine .lst h.at_ n (by rw [h.len, List.length_map]) fun i x d e1 e2 => ?_
  rw [List.getElem?_map] at e2
  cases q : fl[i]? with
  | none => rw [q] at e2; cases e2
  | some c =>
    rw [q] at e2
    cases e2
    obtain ⟨b, h1, h2, _, h4⟩ := h.row i c q
    rw [h1] at e1
    cases e1
    exact .lst h2 h4 (by rw [List.length_map, List.length_map]) fun j x d a b => (Dats.ints (H := H) (p := p) c).2 j x d a b
theorem le_sum : ∀ {c : List Int}, (∀ x ∈ c, 0 ≤ x) → ∀ {x}, x ∈ c → x ≤ c.sum
  | y :: c, h, x, hx => by
    rw [List.sum_cons]
    have h1 := h y List.mem_cons_self
    have h2 := sum_pos (c := c) fun z hz => h z (List.mem_cons_of_mem _ hz)
    rcases List.mem_cons.mp hx with rfl | hx
    · omega
    · have := le_sum (c := c) (fun z hz => h z (List.mem_cons_of_mem _ hz)) hx
      omega
def spCrowd : Sp := fun vs H Q _ => ∃ (v : V) (p : Addr) (u : HO) (rows : List (List Int)) (out : Int) (m : Nat), vs = [v] ∧ H p = some u ∧ Dat H p v (stD rows out) ∧ rows.length ≤ 4 ∧ 1 ≤ m ∧ m ≤ 6 ∧ StOk m rows out ∧ (∀ r ∈ rows, r.sum ≤ 100) ∧
  ∀ v' H', Dat H' p v' (crowdD (rows.map fun c => rowOf c m) out) → Same H H' → Q v' H'
end
end Fm
end FC1
section FPR
set_option Elab.async false
set_option linter.all false
set_option maxRecDepth 100000
set_option maxHeartbeats 4000000
local macro_rules | `(tactic| walk_at "ne") => `(tactic| first | assumption | (apply Ne.symm; assumption) | exact L2.ne_of_none (by assumption) (by assumption) | exact Ne.symm (L2.ne_of_none (by assumption) (by assumption)))
local macro_rules | `(tactic| walk_at "hl") => `(tactic| first | assumption | exact L2.upd_same | (refine Eq.trans (L2.upd_ne (by walk_at "ne")) ?_; walk_at "hl"))
local macro_rules | `(tactic| walk_at "sd") => `(tactic| first | (with_reducible show (_ : Int) < _; omega) | (with_reducible show (_ : Int) ≤ _; omega) | assumption | decide | exact ⟨by assumption, by assumption⟩ | exact ⟨by decide, by decide⟩ | exact Or.inr ⟨by decide, by decide⟩ | exact Or.inl ⟨by omega, by omega⟩ | rfl)
local macro_rules | `(tactic| walk_at "st1") => `(tactic| first
  | refine ⟨_, rfl, ?_⟩
  | refine ⟨_, _, rfl, rfl, ?_⟩
  | refine ⟨_, _, rfl, ?_⟩
  | (refine ⟨_, _, _, _, rfl, rfl, L2.SqL.of (by walk_at "hl"), rfl, ?_⟩)
  | (refine ⟨_, _, _, _, rfl, rfl, L2.SqT.of (by walk_at "hl"), rfl, ?_⟩)
  | (refine ⟨_, _, _, _, rfl, rfl, (by walk_at "hl"), rfl, ?_⟩)
  | (refine And.intro (by walk_at "sd") ?_)
  )
local macro_rules | `(tactic| walk_at "st") => `(tactic| repeat walk_at "st1")
local macro_rules | `(tactic| walk_at "op") => `(tactic| try dsimp only [L2.tSeq, L2.tAsg, L2.tOp, L2.tVar, L2.tC, L2.gSub, L2.rI, L2.rI0, L2.rIxL, L2.rIxT, L2.rSetL, L2.tIfS, L2.tTest, L2.tRet, L2.gName, L2.tNext, L2.tAnd, L2.tOr, L2.tNot, L2.tAndV, L2.tOrV, L2.tNotV, L2.tB, L2.tCB, L2.tCons, L2.tNil, L2.tCall, L2.tTup, L2.tLst, L2.tChain, L2.tUn, L2.tPar, L2.tDrop, L2.tIf, L2.tBM, L2.tBM0, L2.rAppend, L2.rCat, L2.rIsi, L2.rIsiT, L2.gTup, L2.gCons, L2.gNil, Fm.tFor_eq, Fm.tLc_eq, L2.iTup, L2.iList, L2.iRng1, L2.iRng2, L2.tSl, L2.tPart, L2.tNoPart, L2.rSlL, L2.rEq, L2.rNe, L2.rU, L2.rEqD, L2.rNeD, Fm.tRevT, Fm.rLenS, Fm.rTupOf, Fm.rLstOf, L2.tDNewK, L2.tCallS, L2.WE, Fm.wKeep, Fm.rIsK, Fm.rIsKT, List.cons_append, List.nil_append, L2.tYes])
namespace Fm
open PySem PySem.Spec PyProof.Rows L2
section
variable {P : Program} {w : World} {K : PySem.W.Frag} {mg : Str → Option Value} {base : Heap}
theorem Dat.isLst {H : Hp} {p : Addr} {v : V} {ds : List PyData} (h : Dat H p v (.list ds)) : ∃ a xs, v = .ref a ∧ H a = some (.lst xs) ∧ a ≠ p ∧ Dats H p xs ds := by
  cases h with
  | lst h1 h2 h3 h4 => exact ⟨_, _, rfl, h1, h2, h3, h4⟩
theorem rowL_parts {H : Hp} {p : Addr} {v : V} {r : List Int} (h : Dat H p v (rowL r)) : ∃ a, v = .ref a ∧ H a = some (.lst (r.map V.int)) ∧ a ≠ p := by
  obtain ⟨a, ys, rfl, ha, np, hs⟩ := h.isLst
  rw [dats_ints hs] at ha
  exact ⟨a, rfl, ha, np⟩
theorem crowd_parts {H : Hp} {p : Addr} {v : V} {fl : List (List Int)} {out : Int} (h : Dat H p v (crowdD fl out)) : ∃ a F ws, v = .ref a ∧ H a = some (.tup [.ref F, .int out]) ∧ a ≠ p ∧ H F = some (.lst ws) ∧ F ≠ p ∧ Dats H p ws (fl.map rowL) := by
  obtain ⟨a, xs, rfl, ha, na, hs⟩ := h.isTup
  have hl : xs.length = 2 := hs.1
  match xs, hl with
  | [x0, x1], _ =>
    obtain ⟨F, ws, rfl, hF, nF, hW⟩ := (hs.2 0 x0 _ rfl rfl).isLst
    obtain rfl := (hs.2 1 x1 _ rfl rfl).isInt
    exact ⟨a, F, ws, rfl, ha, na, hF, nF, hW⟩
def tup3 (f one other : Nat) : PyData := .tuple [.int f, .int one, .int other]
def tri (f one n : Nat) : List PyData := (List.range n).map fun other => tup3 f one other
def rowP (f n : Nat) : List PyData := (List.range n).flatMap fun one => tri f one one
def allP (ls : List Nat) (n : Nat) : List PyData := (List.range n).flatMap fun f => rowP f (ls.getD f 0)
theorem tri_succ (f one n : Nat) : tri f one (n + 1) = tri f one n ++ [tup3 f one n] := by unfold tri; rw [List.range_succ, List.map_append]; rfl
theorem rowP_succ (f n : Nat) : rowP f (n + 1) = rowP f n ++ tri f n n := by unfold rowP; rw [List.range_succ, List.flatMap_append, List.flatMap_singleton]
theorem allP_succ (ls : List Nat) (n : Nat) : allP ls (n + 1) = allP ls n ++ rowP n (ls.getD n 0) := by unfold allP; rw [List.range_succ, List.flatMap_append, List.flatMap_singleton]
theorem tri_len (f one n : Nat) : (tri f one n).length = n := by unfold tri; rw [List.length_map, List.length_range]
theorem rowP_len (f : Nat) : ∀ n, (rowP f n).length ≤ n * n
  | 0 => Nat.le_refl 0
  | n + 1 => by
    have := rowP_len f n
    rw [rowP_succ, List.length_append, tri_len, Nat.succ_mul, Nat.mul_succ]
    omega
theorem allP_len {ls : List Nat} (h : ∀ l ∈ ls, l ≤ 100) : ∀ n, (allP ls n).length ≤ n * 10000
  | 0 => Nat.le_refl 0
  | n + 1 => by
    have ih := allP_len h n
    have h1 := rowP_len n (ls.getD n 0)
    have h2 : ls.getD n 0 ≤ 100 := by
      rw [List.getD_eq_getElem?_getD]
      cases e : ls[n]? with
      | none => exact Nat.zero_le _
      | some l => exact h l (List.mem_of_getElem? e)
    have h3 := Nat.mul_le_mul h2 h2
    rw [allP_succ, List.length_append, Nat.succ_mul]
    omega
theorem allP_mem {ls : List Nat} {n : Nat} {d : PyData} (h : d ∈ allP ls n) : ∃ f one other, d = tup3 f one other ∧ f < n ∧ other < one ∧ one < ls.getD f 0 := by
  obtain ⟨f, hf, h⟩ := List.mem_flatMap.mp h
  obtain ⟨one, ho, h⟩ := List.mem_flatMap.mp h
  obtain ⟨other, hx, h⟩ := List.mem_map.mp h
  exact ⟨f, one, other, h.symm, List.mem_range.mp hf, List.mem_range.mp hx, List.mem_range.mp ho⟩
theorem allP_some {ls : List Nat} {n f : Nat} (hf : f < n) (h : 2 ≤ ls.getD f 0) : allP ls n ≠ [] := by
  intro e
  have : tup3 f 1 0 ∈ allP ls n := List.mem_flatMap.mpr ⟨f, List.mem_range.mpr hf, List.mem_flatMap.mpr ⟨1, List.mem_range.mpr (by omega), List.mem_map.mpr ⟨0, List.mem_range.mpr (by omega), rfl⟩⟩⟩
  rw [e] at this
  cases this
theorem allP_none {ls : List Nat} {n : Nat} (h : ∀ f, f < n → ls.getD f 0 ≤ 1) : allP ls n = [] := by
  cases e : allP ls n with
  | nil => rfl
  | cons d r =>
    obtain ⟨f, one, other, _, h1, h2, h3⟩ := allP_mem (d := d) (by rw [e]; exact List.mem_cons_self)
    have := h f h1
    omega
theorem tri_no (f one n : Nat) : ∀ d ∈ tri f one n, noList d = true := fun d hd => by
  obtain ⟨x, _, rfl⟩ := List.mem_map.mp hd
  exact noList_of fun e he => by
    simp only [List.mem_cons, List.not_mem_nil, or_false] at he
    rcases he with rfl | rfl | rfl <;> (unfold noList; rfl)
theorem rowP_no (f n : Nat) : ∀ d ∈ rowP f n, noList d = true := fun d hd => by
  obtain ⟨x, _, h⟩ := List.mem_flatMap.mp hd
  exact tri_no _ _ _ d h
theorem allP_no (ls : List Nat) (n : Nat) : ∀ d ∈ allP ls n, noList d = true := fun d hd => by
  obtain ⟨x, _, h⟩ := List.mem_flatMap.mp hd
  exact rowP_no _ _ d h
theorem Dats.app {H : Hp} {p : Addr} {xs ys : List V} {ds es : List PyData} (h : Dats H p xs ds) (k : Dats H p ys es) : Dats H p (xs ++ ys) (ds ++ es) := by
  refine ⟨by rw [List.length_append, List.length_append, h.1, k.1], fun i x e a b => ?_⟩
  by_cases hi : i < xs.length
  · rw [List.getElem?_append_left hi] at a
    rw [List.getElem?_append_left (by rw [← h.1]; exact hi)] at b
    exact h.2 i x e a b
  · rw [List.getElem?_append_right (by omega)] at a
    rw [List.getElem?_append_right (by rw [← h.1]; omega), ← h.1] at b
    exact k.2 _ x e a b
def lensOf (fl : List (List Int)) : List Nat := fl.map List.length
def spPairs : Sp := fun vs H Q _ => ∃ (v : V) (p : Addr) (u : HO) (fl : List (List Int)) (out : Int), vs = [v] ∧ H p = some u ∧ Dat H p v (crowdD fl out) ∧ fl.length ≤ 4 ∧ (∀ l ∈ lensOf fl, l ≤ 100) ∧
  ∀ q ws H', H q = none → H' q = some (.lst ws) → Dats H' p ws (allP (lensOf fl) fl.length) → Same H H' → Q (.ref q) H'
end
end Fm
end FPR
section FME
set_option Elab.async false
set_option linter.all false
set_option maxRecDepth 100000
set_option maxHeartbeats 4000000
local macro_rules | `(tactic| walk_at "ne") => `(tactic| first | assumption | (apply Ne.symm; assumption) | exact L2.ne_of_none (by assumption) (by assumption) | exact Ne.symm (L2.ne_of_none (by assumption) (by assumption)))
local macro_rules | `(tactic| walk_at "hl") => `(tactic| first | assumption | exact L2.upd_same | (refine Eq.trans (L2.upd_ne (by walk_at "ne")) ?_; walk_at "hl"))
local macro_rules | `(tactic| walk_at "sd") => `(tactic| first | (with_reducible show (_ : Int) < _; omega) | (with_reducible show (_ : Int) ≤ _; omega) | assumption | decide | exact ⟨by assumption, by assumption⟩ | exact ⟨by decide, by decide⟩ | exact Or.inr ⟨by decide, by decide⟩ | exact Or.inl ⟨by omega, by omega⟩ | rfl)
local macro_rules | `(tactic| walk_at "st1") => `(tactic| first
  | refine ⟨_, rfl, ?_⟩
  | refine ⟨_, _, rfl, rfl, ?_⟩
  | refine ⟨_, _, rfl, ?_⟩
  | (refine ⟨_, _, _, _, rfl, rfl, L2.SqL.of (by walk_at "hl"), rfl, ?_⟩)
  | (refine ⟨_, _, _, _, rfl, rfl, L2.SqT.of (by walk_at "hl"), rfl, ?_⟩)
  | (refine ⟨_, _, _, _, rfl, rfl, (by walk_at "hl"), rfl, ?_⟩)
  | (refine And.intro (by walk_at "sd") ?_)
  )
local macro_rules | `(tactic| walk_at "st") => `(tactic| repeat walk_at "st1")
local macro_rules | `(tactic| walk_at "op") => `(tactic| try dsimp only [L2.tSeq, L2.tAsg, L2.tOp, L2.tVar, L2.tC, L2.gSub, L2.rI, L2.rI0, L2.rIxL, L2.rIxT, L2.rSetL, L2.tIfS, L2.tTest, L2.tRet, L2.gName, L2.tNext, L2.tAnd, L2.tOr, L2.tNot, L2.tAndV, L2.tOrV, L2.tNotV, L2.tB, L2.tCB, L2.tCons, L2.tNil, L2.tCall, L2.tTup, L2.tLst, L2.tChain, L2.tUn, L2.tPar, L2.tDrop, L2.tIf, L2.tBM, L2.tBM0, L2.rAppend, L2.rCat, L2.rIsi, L2.rIsiT, L2.gTup, L2.gCons, L2.gNil, Fm.tFor_eq, Fm.tLc_eq, L2.iTup, L2.iList, L2.iRng1, L2.iRng2, L2.tSl, L2.tPart, L2.tNoPart, L2.rSlL, L2.rEq, L2.rNe, L2.rU, L2.rEqD, L2.rNeD, Fm.tRevT, Fm.rLenS, Fm.rTupOf, Fm.rLstOf, L2.tDNewK, L2.tCallS, L2.WE, Fm.wKeep, Fm.rIsK, Fm.rIsKT, List.cons_append, List.nil_append, L2.tYes])
namespace Fm
open PySem PySem.Spec PyProof.Rows L2
section
variable {P : Program} {w : World} {K : PySem.W.Frag} {mg : Str → Option Value} {base : Heap}
theorem LL.set {H : Hp} {p L E : Addr} {ws : List V} {fl : List (List Int)} {c : List Int} {f : Nat} (h : LL H p L ws fl) (hb : H E = some (.lst (c.map V.int))) (n1 : E ≠ L) (n2 : E ≠ p) : LL (upd H L (.lst (ws.set f (.ref E)))) p L (ws.set f (.ref E)) (fl.set f c) := by
  refine ⟨upd_same, by rw [List.length_set, List.length_set, h.len], fun j d q => ?_⟩
  rw [List.getElem?_set] at q
  by_cases hj : f = j
  · subst hj
    rw [if_pos rfl] at q
    by_cases hl : f < fl.length
    · rw [if_pos hl] at q
      cases q
      exact ⟨E, by rw [List.getElem?_set_self (by rw [h.len]; exact hl)], by rw [upd_ne n1]; exact hb, n1, n2⟩
    · rw [if_neg hl] at q
      cases q
  · rw [if_neg hj] at q
    obtain ⟨b, e1, e2, e3, e4⟩ := h.row j d q
    exact ⟨b, by rw [List.getElem?_set_ne hj]; exact e1, by rw [upd_ne e3]; exact e2, e3, e4⟩
theorem LL.updRow {H : Hp} {p L E : Addr} {ws : List V} {fl : List (List Int)} {c : List Int} {f : Nat} (h : LL H p L ws fl) (hw : ws[f]? = some (V.ref E)) (inj : ∀ j, ws[j]? = some (V.ref E) → j = f) : LL (upd H E (.lst (c.map V.int))) p L ws (fl.set f c) := by
  have hf : f < fl.length := by
    rw [← h.len]
    exact (List.getElem?_eq_some_iff.mp hw).1
  obtain ⟨b, e1, e2, e3, e4⟩ := h.row f fl[f] (List.getElem?_eq_getElem hf)
  rw [hw] at e1
  cases e1
  refine ⟨by rw [upd_ne e3.symm]; exact h.at_, by rw [List.length_set, h.len], fun j d q => ?_⟩
  rw [List.getElem?_set] at q
  by_cases hj : f = j
  · subst hj
    rw [if_pos rfl, if_pos hf] at q
    cases q
    exact ⟨E, hw, upd_same, e3, e4⟩
  · rw [if_neg hj] at q
    obtain ⟨b, g1, g2, g3, g4⟩ := h.row j d q
    have nb : b ≠ E := fun z => by
      subst z
      exact hj (inj j g1).symm
    exact ⟨b, g1, by rw [upd_ne nb]; exact g2, g3, g4⟩
/-- who is left of a row without two of them -/
def keepN (c : List Int) (one other n : Nat) : List Int := ((List.range n).filter fun k => !(k == one || k == other)).map fun k => c.getD k 0
theorem keepN_succ (c : List Int) (one other n : Nat) : keepN c one other (n + 1) = keepN c one other n ++ if (n == one || n == other) = true then [] else [c.getD n 0] := by
  unfold keepN
  rw [List.range_succ, List.filter_append, List.map_append]
  congr 1
  rw [List.filter_cons, List.filter_nil]
  cases h : (n == one || n == other) <;> rfl
theorem keepN_len (c : List Int) {one other : Nat} (h : other < one) : ∀ n, (keepN c one other n).length + ((if one < n then 1 else 0) + (if other < n then 1 else 0)) = n
  | 0 => rfl
  | n + 1 => by
    have ih := keepN_len c h n
    rw [keepN_succ, List.length_append]
    by_cases e1 : n = one
    · have e3 : (n == one || n == other) = true := by simp [e1]
      rw [if_pos e3]
      rw [if_neg (by omega), if_pos (by omega)] at ih
      rw [if_pos (by omega), if_pos (by omega), List.length_nil]
      omega
    · by_cases e2 : n = other
      · have e3 : (n == one || n == other) = true := by simp [e2]
        rw [if_pos e3]
        rw [if_neg (by omega), if_neg (by omega)] at ih
        rw [if_neg (by omega), if_pos (by omega), List.length_nil]
        omega
      · have e3 : ¬ (n == one || n == other) = true := by simp [e1, e2]
        rw [if_neg e3]
        have i1 : (if one < n + 1 then 1 else 0) = (if one < n then 1 else 0) := by split <;> split <;> omega
        have i2 : (if other < n + 1 then 1 else 0) = (if other < n then 1 else 0) := by split <;> split <;> omega
        rw [i1, i2]
        show _ + 1 + _ = _
        omega
theorem keepN_in {c : List Int} {one other n : Nat} (h : n ≤ c.length) {e : Int} (he : e ∈ keepN c one other n) : e ∈ c := by
  obtain ⟨k, hk, rfl⟩ := List.mem_map.mp he
  have := List.mem_range.mp (List.mem_filter.mp hk).1
  rw [List.getD_eq_getElem?_getD, List.getElem?_eq_getElem (show k < c.length by omega)]
  exact List.getElem_mem _
theorem inV_two (k one other : Nat) : inV (.int k) [.int one, .int other] = (k == one || k == other) := by
  unfold inV
  simp only [List.any_cons, List.any_nil, Bool.or_false]
  show (((one : Int) == (k : Int)) || ((other : Int) == (k : Int))) = _
  have e : ∀ x : Nat, ((x : Int) == (k : Int)) = (k == x) := fun x => by
    rw [Bool.eq_iff_iff]
    simp only [beq_iff_eq]
    omega
  rw [e, e]
theorem ixN_of {n k : Nat} (h : k < n) : ixN n (k : Int) = some k := by
  unfold ixN
  rw [if_pos (by omega), if_pos (by omega), Int.toNat_natCast]
theorem house_cells {H : Hp} {ph : Addr} {hv : V} {fs : List PyData} {m n f : Nat} {a b : Int} (hD : Dat H ph hv (.tuple fs)) (hN : HouseN m n (.tuple fs)) (hf : f < n) (a0 : 0 ≤ a) (a1 : a < m) (b0 : 0 ≤ b) (b1 : b < m) :
    ∃ (ah af s0 u0 ra rb : Addr) (hs ss us ya yb : List V) (st up : Int), hv = .ref ah ∧ H ah = some (.tup hs) ∧ hs.length = n ∧ hs[f]? = some (V.ref af) ∧ H af = some (.tup [.ref s0, .ref u0]) ∧
      H s0 = some (.tup ss) ∧ ss[a.toNat]? = some (V.ref ra) ∧ H ra = some (.tup ya) ∧ ya[b.toNat]? = some (V.int st) ∧ 0 ≤ st ∧ st < m ∧
      H u0 = some (.tup us) ∧ us[a.toNat]? = some (V.ref rb) ∧ H rb = some (.tup yb) ∧ yb[b.toNat]? = some (V.int up) ∧ 0 ≤ up ∧ up < m := by
  obtain ⟨fs', e, hl, _, _, _, _, hF⟩ := hN
  cases e
  obtain ⟨ah, hs, rfl, hah, _, hh⟩ := hD.isTup
  have hfl : f < fs.length := by omega
  obtain ⟨sd, ud, e1, ⟨rs, e2, l2, r2, _⟩, ⟨ru, e3, l3, r3, _⟩⟩ := hF fs[f] (List.getElem_mem _)
  subst e2 e3
  have e4 : fs[f]? = some (.tuple [.tuple rs, .tuple ru]) := by rw [List.getElem?_eq_getElem hfl, e1]
  obtain ⟨x, hx, hdx⟩ := hh.back e4
  obtain ⟨af, ys, rfl, haf, _, hy⟩ := hdx.isTup
  have hyl : ys.length = 2 := hy.1
  match ys, hyl with
  | [w1, w2], _ =>
    obtain ⟨s0, ss, rfl, hs0, _, hss⟩ := (hy.2 0 w1 _ rfl rfl).isTup
    obtain ⟨u0, us, rfl, hu0, _, hus⟩ := (hy.2 1 w2 _ rfl rfl).isTup
    obtain ⟨ra, ya, st, c1, c2, c3, _, c4, c5⟩ := cell_at hss l2 r2 (a := a.toNat) (b := b.toNat) (by omega) (by omega)
    obtain ⟨rb, yb, up, d1, d2, d3, _, d4, d5⟩ := cell_at hus l3 r3 (a := a.toNat) (b := b.toNat) (by omega) (by omega)
    exact ⟨ah, af, s0, u0, ra, rb, hs, ss, us, ya, yb, st, up, rfl, hah, by rw [hh.1, hl], hx, haf, hs0, c1, c2, c3, c4, c5, hu0, d1, d2, d3, d4, d5⟩
def stepL (f : Nat) (ls : List Nat) : List Nat := (ls.set f (ls.getD f 0 - 1)).set (f + 1) (ls.getD (f + 1) 0 + 1)
def RowsIn (m : Nat) (fl : List (List Int)) : Prop := ∀ r ∈ fl, ∀ e ∈ r, 0 ≤ e ∧ e < (m : Int)
theorem RowsIn.set {m : Nat} {fl : List (List Int)} {c : List Int} {i : Nat} (h : RowsIn m fl) (hc : ∀ e ∈ c, 0 ≤ e ∧ e < (m : Int)) : RowsIn m (fl.set i c) := fun r hr e he => by
  rcases List.mem_or_eq_of_mem_set hr with q | rfl
  · exact h r q e he
  · exact hc e he
theorem lens_set (fl : List (List Int)) (i : Nat) (c : List Int) : lensOf (fl.set i c) = (lensOf fl).set i c.length := by
  unfold lensOf
  rw [List.map_set]

end
end Fm
end FME
section FSE
set_option Elab.async false
set_option linter.all false
set_option maxRecDepth 100000
set_option maxHeartbeats 4000000
local macro_rules | `(tactic| walk_at "ne") => `(tactic| first | assumption | (apply Ne.symm; assumption) | exact L2.ne_of_none (by assumption) (by assumption) | exact Ne.symm (L2.ne_of_none (by assumption) (by assumption)))
local macro_rules | `(tactic| walk_at "hl") => `(tactic| first | assumption | exact L2.upd_same | (refine Eq.trans (L2.upd_ne (by walk_at "ne")) ?_; walk_at "hl"))
local macro_rules | `(tactic| walk_at "sd") => `(tactic| first | (with_reducible show (_ : Int) < _; omega) | (with_reducible show (_ : Int) ≤ _; omega) | assumption | decide | exact ⟨by assumption, by assumption⟩ | exact ⟨by decide, by decide⟩ | exact Or.inr ⟨by decide, by decide⟩ | exact Or.inl ⟨by omega, by omega⟩ | rfl)
local macro_rules | `(tactic| walk_at "st1") => `(tactic| first
  | refine ⟨_, rfl, ?_⟩
  | refine ⟨_, _, rfl, rfl, ?_⟩
  | refine ⟨_, _, rfl, ?_⟩
  | (refine ⟨_, _, _, _, rfl, rfl, L2.SqL.of (by walk_at "hl"), rfl, ?_⟩)
  | (refine ⟨_, _, _, _, rfl, rfl, L2.SqT.of (by walk_at "hl"), rfl, ?_⟩)
  | (refine ⟨_, _, _, _, rfl, rfl, (by walk_at "hl"), rfl, ?_⟩)
  | (refine And.intro (by walk_at "sd") ?_)
  )
local macro_rules | `(tactic| walk_at "st") => `(tactic| repeat walk_at "st1")
local macro_rules | `(tactic| walk_at "op") => `(tactic| try dsimp only [L2.tSeq, L2.tAsg, L2.tOp, L2.tVar, L2.tC, L2.gSub, L2.rI, L2.rI0, L2.rIxL, L2.rIxT, L2.rSetL, L2.tIfS, L2.tTest, L2.tRet, L2.gName, L2.tNext, L2.tAnd, L2.tOr, L2.tNot, L2.tAndV, L2.tOrV, L2.tNotV, L2.tB, L2.tCB, L2.tCons, L2.tNil, L2.tCall, L2.tTup, L2.tLst, L2.tChain, L2.tUn, L2.tPar, L2.tDrop, L2.tIf, L2.tBM, L2.tBM0, L2.rAppend, L2.rCat, L2.rIsi, L2.rIsiT, L2.gTup, L2.gCons, L2.gNil, Fm.tFor_eq, Fm.tLc_eq, L2.iTup, L2.iList, L2.iRng1, L2.iRng2, L2.tSl, L2.tPart, L2.tNoPart, L2.rSlL, L2.rEq, L2.rNe, L2.rU, L2.rEqD, L2.rNeD, Fm.tRevT, Fm.rLenS, Fm.rTupOf, Fm.rLstOf, L2.tDNewK, L2.tCallS, L2.WE, Fm.wKeep, Fm.rIsK, Fm.rIsKT, List.cons_append, List.nil_append, L2.tYes])
namespace Fm
open PySem PySem.Spec PyProof.Rows L2
section
variable {P : Program} {w : World} {K : PySem.W.Frag} {mg : Str → Option Value} {base : Heap}
theorem dpAll_of {K : PySem.W.Frag} {H : Hp} : ∀ {xs : List V} {ds : List PyData}, xs.length = ds.length → (∀ (i : Nat) (x : V) (d : PyData), xs[i]? = some x → ds[i]? = some d → Dp K H x d) → DpAll K H xs ds
  | [], [], _, _ => .nil
  | [], _ :: _, h, _ => by simp at h
  | _ :: _, [], h, _ => by simp at h
  | x :: xs, d :: ds, h, k => .cons (k 0 x d rfl rfl) (dpAll_of (by simpa using h) fun i y e a b => k (i + 1) y e (by simpa using a) (by simpa using b))
theorem hasDict_parts : ∀ {ds : List PyData}, PyData.hasDictAll ds = false → ∀ e ∈ ds, e.hasDict = false
  | [], _, e, he => by simp at he
  | d :: r, h, e, he => by
    simp only [PyData.hasDictAll, Bool.or_eq_false_iff] at h
    rcases List.mem_cons.mp he with rfl | he
    · exact h.1
    · exact hasDict_parts h.2 e he
theorem Dat.dp {K : PySem.W.Frag} {H : Hp} {p : Addr} {d : PyData} {v : V} (h : Dat H p v d) : d.hasDict = false → Dp K H v d := by
  induction h with
  | non => exact fun _ => .non
  | bl b => exact fun _ => .bl b
  | int i => exact fun _ => .int i
  | str x => exact fun _ => .str x
  | tup h1 _ h3 h4 ih => exact fun z => .tup (SqT.of h1) (dpAll_of h3 fun i x d a b => ih i x d a b (hasDict_parts (by simpa only [PyData.hasDict] using z) d (List.mem_of_getElem? b)))
  | lst h1 _ h3 h4 ih => exact fun z => .lst (SqL.of h1) (dpAll_of h3 fun i x d a b => ih i x d a b (hasDict_parts (by simpa only [PyData.hasDict] using z) d (List.mem_of_getElem? b)))
  | dct h1 _ => exact fun z => by simp only [PyData.hasDict] at z; cases z
theorem shape_tups : ∀ {ds : List PyData}, (∀ d ∈ ds, ∃ f one other, d = tup3 f one other) → PyData.canLayAll0 ds = true ∧ PyData.depthAll ds ≤ 1 ∧ PyData.hasDictAll ds = false
  | [], _ => by simp [PyData.canLayAll0, PyData.depthAll, PyData.hasDictAll]
  | d :: r, h => by
    obtain ⟨h1, h2, h3⟩ := shape_tups fun e he => h e (List.mem_cons_of_mem _ he)
    obtain ⟨f, one, other, rfl⟩ := h d List.mem_cons_self
    have e1 : (tup3 f one other).canLay0 = true := by simp [tup3, PyData.canLay0, PyData.canLayAll0]
    have e2 : (tup3 f one other).depth ≤ 1 := by simp [tup3, PyData.depth, PyData.depthAll]
    have e3 : (tup3 f one other).hasDict = false := by simp [tup3, PyData.hasDict, PyData.hasDictAll]
    refine ⟨by simp only [PyData.canLayAll0, e1, h1, Bool.and_self], ?_, by simp only [PyData.hasDictAll, e3, h3, Bool.or_self]⟩
    simp only [PyData.depthAll]
    omega
theorem shaped_tups {ds : List PyData} (h : ∀ d ∈ ds, ∃ f one other, d = tup3 f one other) : SeqAt.shaped (.list ds) = true ∧ (PyData.list ds).hasDict = false := by
  obtain ⟨h1, h2, h3⟩ := shape_tups h
  refine ⟨?_, by simpa only [PyData.hasDict] using h3⟩
  unfold SeqAt.shaped
  rw [Bool.and_eq_true]
  refine ⟨by simpa only [PyData.canLay0] using h1, decide_eq_true ?_⟩
  simp only [PyData.depth]
  omega
theorem eqv_nil (ds : List PyData) : PyData.eqv (.list ds) (.list []) = ds.isEmpty := by
  cases ds with
  | nil => simp [PyData.eqv, PyData.eqvAll]
  | cons n r => simp [PyData.eqv, PyData.eqvAll]
/-! ### how many meetings -/
def comeN : Nat → List Nat → List Nat
  | _, [] => []
  | r, l :: ls => (l + r) :: comeN (l + r - 1) ls
def left_ (l : List Nat) : Nat := (l.map fun s => s - 1).sum
def posB (l : List Nat) : List Bool := l.map fun s => decide (0 < s)
theorem stepL_succ (f l : Nat) (ls : List Nat) : stepL (f + 1) (l :: ls) = l :: stepL f ls := rfl
theorem stepL_len (f : Nat) (ls : List Nat) : (stepL f ls).length = ls.length := by
  unfold stepL
  rw [List.length_set, List.length_set]
theorem step_come : ∀ (f r : Nat) (ls : List Nat), 2 ≤ ls.getD f 0 → left_ (comeN r (stepL f ls)) + 1 = left_ (comeN r ls) ∧ posB (comeN r (stepL f ls)) = posB (comeN r ls)
  | f, r, [], h => by simp at h
  | 0, r, [l], h => by
    have h' : 2 ≤ l := h
    have e : stepL 0 [l] = [l - 1] := rfl
    rw [e]
    simp only [comeN, left_, posB, List.map_cons, List.map_nil, List.sum_cons, List.sum_nil]
    refine ⟨by omega, ?_⟩
    rw [decide_eq_true (show 0 < l - 1 + r by omega), decide_eq_true (show 0 < l + r by omega)]
  | 0, r, l :: l2 :: t, h => by
    have h' : 2 ≤ l := h
    have e : stepL 0 (l :: l2 :: t) = (l - 1) :: (l2 + 1) :: t := rfl
    have e2 : l2 + 1 + (l - 1 + r - 1) = l2 + (l + r - 1) := by omega
    rw [e]
    simp only [comeN, left_, posB, List.map_cons, List.sum_cons]
    rw [e2, decide_eq_true (show 0 < l - 1 + r by omega), decide_eq_true (show 0 < l + r by omega)]
    exact ⟨by omega, rfl⟩
  | f + 1, r, l :: ls, h => by
    have h' : 2 ≤ ls.getD f 0 := h
    obtain ⟨i1, i2⟩ := step_come f (l + r - 1) ls h'
    rw [stepL_succ]
    simp only [comeN, left_, posB, List.map_cons, List.sum_cons] at i1 i2 ⊢
    exact ⟨by omega, by rw [i2]⟩
theorem rest_come : ∀ ls : List Nat, (∀ l ∈ ls, l ≤ 1) → comeN 0 ls = ls
  | [], _ => rfl
  | l :: ls, h => by
    have h1 := h l List.mem_cons_self
    unfold comeN
    rw [show l + 0 - 1 = 0 by omega, rest_come ls fun x hx => h x (List.mem_cons_of_mem _ hx)]
    rfl
theorem rest_left : ∀ ls : List Nat, (∀ l ∈ ls, l ≤ 1) → left_ ls = 0
  | [], _ => rfl
  | l :: ls, h => by
    have h1 := h l List.mem_cons_self
    have := rest_left ls fun x hx => h x (List.mem_cons_of_mem _ hx)
    unfold left_ at this ⊢
    rw [List.map_cons, List.sum_cons, this]
    omega
theorem step_sum : ∀ (f : Nat) (ls : List Nat), 1 ≤ ls.getD f 0 → (stepL f ls).sum ≤ ls.sum
  | f, [], h => by simp at h
  | 0, [l], h => by
    show (l - 1 + 0) ≤ l + 0
    omega
  | 0, l :: l2 :: t, h => by
    have h' : 1 ≤ l := h
    show ((l - 1) :: (l2 + 1) :: t).sum ≤ _
    simp only [List.sum_cons]
    omega
  | f + 1, l :: ls, h => by
    have := step_sum f ls h
    rw [stepL_succ]
    simp only [List.sum_cons]
    omega
theorem le_sumN : ∀ {ls : List Nat} {l : Nat}, l ∈ ls → l ≤ ls.sum
  | x :: r, l, h => by
    rw [List.sum_cons]
    rcases List.mem_cons.mp h with rfl | h
    · omega
    · have := le_sumN h
      omega

end
end Fm
end FSE
section FFH
set_option Elab.async false
set_option linter.all false
set_option maxRecDepth 100000
set_option maxHeartbeats 4000000
local macro_rules | `(tactic| walk_at "ne") => `(tactic| first | assumption | (apply Ne.symm; assumption) | exact L2.ne_of_none (by assumption) (by assumption) | exact Ne.symm (L2.ne_of_none (by assumption) (by assumption)))
local macro_rules | `(tactic| walk_at "hl") => `(tactic| first | assumption | exact L2.upd_same | (refine Eq.trans (L2.upd_ne (by walk_at "ne")) ?_; walk_at "hl"))
local macro_rules | `(tactic| walk_at "sd") => `(tactic| first | (with_reducible show (_ : Int) < _; omega) | (with_reducible show (_ : Int) ≤ _; omega) | assumption | decide | exact ⟨by assumption, by assumption⟩ | exact ⟨by decide, by decide⟩ | exact Or.inr ⟨by decide, by decide⟩ | exact Or.inl ⟨by omega, by omega⟩ | rfl)
local macro_rules | `(tactic| walk_at "st1") => `(tactic| first
  | refine ⟨_, rfl, ?_⟩
  | refine ⟨_, _, rfl, rfl, ?_⟩
  | refine ⟨_, _, rfl, ?_⟩
  | (refine ⟨_, _, _, _, rfl, rfl, L2.SqL.of (by walk_at "hl"), rfl, ?_⟩)
  | (refine ⟨_, _, _, _, rfl, rfl, L2.SqT.of (by walk_at "hl"), rfl, ?_⟩)
  | (refine ⟨_, _, _, _, rfl, rfl, (by walk_at "hl"), rfl, ?_⟩)
  | (refine And.intro (by walk_at "sd") ?_)
  )
local macro_rules | `(tactic| walk_at "st") => `(tactic| repeat walk_at "st1")
local macro_rules | `(tactic| walk_at "op") => `(tactic| try dsimp only [L2.tSeq, L2.tAsg, L2.tOp, L2.tVar, L2.tC, L2.gSub, L2.rI, L2.rI0, L2.rIxL, L2.rIxT, L2.rSetL, L2.tIfS, L2.tTest, L2.tRet, L2.gName, L2.tNext, L2.tAnd, L2.tOr, L2.tNot, L2.tAndV, L2.tOrV, L2.tNotV, L2.tB, L2.tCB, L2.tCons, L2.tNil, L2.tCall, L2.tTup, L2.tLst, L2.tChain, L2.tUn, L2.tPar, L2.tDrop, L2.tIf, L2.tBM, L2.tBM0, L2.rAppend, L2.rCat, L2.rIsi, L2.rIsiT, L2.gTup, L2.gCons, L2.gNil, Fm.tFor_eq, Fm.tLc_eq, L2.iTup, L2.iList, L2.iRng1, L2.iRng2, L2.tSl, L2.tPart, L2.tNoPart, L2.rSlL, L2.rEq, L2.rNe, L2.rU, L2.rEqD, L2.rNeD, Fm.tRevT, Fm.rLenS, Fm.rTupOf, Fm.rLstOf, L2.tDNewK, L2.tCallS, L2.WE, Fm.wKeep, Fm.rIsK, Fm.rIsKT, List.cons_append, List.nil_append, L2.tYes])
namespace Fm
open PySem PySem.Spec PyProof.Rows L2
abbrev s_law_fair_house : Stmt := top 57
abbrev N_law_fair_house : List Str := ["bag", "m", "floors", "found", "way", "free", "k", "stay", "up", "a", "b"]
theorem sc_law_fair_house : FnScope N_law_fair_house ["bag"] (defScope s_law_fair_house) := ⟨rfl, rfl, rfl, by decide +kernel, rfl, by decide +kernel, by decide +kernel⟩
section
variable {P : Program} {w : World} {K : PySem.W.Frag} {mg : Str → Option Value} {base : Heap}
def gS (m : Nat) (free way : Int) (a b : Nat) : Int := [if (b : Int) > a then (b : Int) else a, ((a : Int) + b) % m, free, if (b : Int) < a then (b : Int) else a].getD way.toNat 0
def gU (m : Nat) (free way : Int) (a b : Nat) : Int := [if (b : Int) < a then (b : Int) else a, ((a : Int) + b) / m, free, if (b : Int) > a then (b : Int) else a].getD way.toNat 0
theorem gS_at {m : Nat} {free way : Int} {a b : Nat} (h : way.toNat < 4) : [if (b : Int) > a then (b : Int) else a, ((a : Int) + b) % m, free, if (b : Int) < a then (b : Int) else a][way.toNat]? = some (gS m free way a b) := by
  unfold gS
  rw [List.getD_eq_getElem?_getD, List.getElem?_eq_getElem (by exact h)]
  rfl
theorem gU_at {m : Nat} {free way : Int} {a b : Nat} (h : way.toNat < 4) : [if (b : Int) < a then (b : Int) else a, ((a : Int) + b) / m, free, if (b : Int) > a then (b : Int) else a][way.toNat]? = some (gU m free way a b) := by
  unfold gU
  rw [List.getD_eq_getElem?_getD, List.getElem?_eq_getElem (by exact h)]
  rfl
theorem pick_mem {l : List Int} {k : Nat} {x : Int} (h : l[k]? = some x) : x ∈ l := List.mem_of_getElem? h
theorem gS_ok {m : Nat} {free way : Int} (hw : way.toNat < 4) (f0 : 0 ≤ free) (f1 : free < m) : (∀ a b, gS m free way a b = gS m free way b a) ∧ ∀ a b, a < m → b < m → 0 ≤ gS m free way a b ∧ gS m free way a b < (m : Int) := by
  refine ⟨fun a b => ?_, fun a b ha hb => ?_⟩
  · unfold gS
    rw [Int.add_comm (a : Int) b, show (if (b : Int) > a then (b : Int) else a) = if (a : Int) > b then (a : Int) else b from by split <;> split <;> omega, show (if (b : Int) < a then (b : Int) else a) = if (a : Int) < b then (a : Int) else b from by split <;> split <;> omega]
  · have h := pick_mem (gS_at (m := m) (free := free) (a := a) (b := b) hw)
    simp only [List.mem_cons, List.not_mem_nil, or_false] at h
    rcases h with h | h | h | h
    · rw [h]; split <;> omega
    · rw [h]; exact ⟨Int.emod_nonneg _ (by omega), Int.emod_lt_of_pos _ (by omega)⟩
    · rw [h]; exact ⟨f0, f1⟩
    · rw [h]; split <;> omega
theorem gU_ok {m : Nat} {free way : Int} (hw : way.toNat < 4) (f0 : 0 ≤ free) (f1 : free < m) : (∀ a b, gU m free way a b = gU m free way b a) ∧ ∀ a b, a < m → b < m → 0 ≤ gU m free way a b ∧ gU m free way a b < (m : Int) := by
  refine ⟨fun a b => ?_, fun a b ha hb => ?_⟩
  · unfold gU
    rw [Int.add_comm (a : Int) b, show (if (b : Int) > a then (b : Int) else a) = if (a : Int) > b then (a : Int) else b from by split <;> split <;> omega, show (if (b : Int) < a then (b : Int) else a) = if (a : Int) < b then (a : Int) else b from by split <;> split <;> omega]
  · have h := pick_mem (gU_at (m := m) (free := free) (a := a) (b := b) hw)
    simp only [List.mem_cons, List.not_mem_nil, or_false] at h
    rcases h with h | h | h | h
    · rw [h]; split <;> omega
    · rw [h]
      refine ⟨Int.ediv_nonneg (by omega) (by omega), Int.ediv_lt_of_lt_mul (by omega) ?_⟩
      have : 2 * (m : Int) - 2 < m * m ∨ m = 1 := by
        by_cases h1 : m = 1
        · exact .inr h1
        · left
          have : 2 * (m : Int) ≤ m * m := Int.mul_le_mul_of_nonneg_right (by omega) (by omega)
          omega
      rcases this with q | rfl
      · omega
      · omega
    · rw [h]; exact ⟨f0, f1⟩
    · rw [h]; split <;> omega
/-- rows of a table so far: a list at L of tuples of ints -/
def RowsT (H : Hp) (p L : Addr) (m a : Nat) (G : Nat → Nat → Int) : Prop := ∃ xs, H L = some (.lst xs) ∧ Dats H p xs ((List.range a).map fun x => rowD ((List.range m).map fun y => G x y))
theorem RowsT.same {H H' : Hp} {p L : Addr} {m a : Nat} {G : Nat → Nat → Int} (h : RowsT H p L m a G) (e : Same H H') : RowsT H' p L m a G := by
  obtain ⟨xs, h1, h2⟩ := h
  exact ⟨xs, e _ _ h1, h2.same e⟩
theorem rows_no (m a : Nat) (G : Nat → Nat → Int) : ∀ d ∈ (List.range a).map (fun x => rowD ((List.range m).map fun y => G x y)), noList d = true := fun d hd => by
  obtain ⟨x, _, rfl⟩ := List.mem_map.mp hd
  exact noList_ints _ _
/-- one row more at L; the rows at another list stay -/
theorem RowsT.add {H : Hp} {p L t : Addr} {m a : Nat} {G : Nat → Nat → Int} {xs : List V} (h1 : H L = some (.lst xs)) (h2 : Dats H p xs ((List.range a).map fun x => rowD ((List.range m).map fun y => G x y))) (ht : H t = some (.tup (((List.range m).map fun y => G a y).map V.int))) (np : t ≠ p) :
    RowsT (upd H L (.lst (xs ++ [.ref t]))) p L m (a + 1) G := by
  refine ⟨_, upd_same, ?_⟩
  rw [List.range_succ, List.map_append]
  refine (h2.setL h1 (rows_no _ _ _)).snoc ?_
  refine Dat.setL h1 (.tup ht np (by rw [List.length_map, List.length_map, List.length_map, List.length_map]) fun i x d e1 e2 => (Dats.ints (H := H) (p := p) ((List.range m).map fun y => G a y)).2 i x d e1 e2) (noList_ints _ _)
theorem RowsT.setL {H : Hp} {p L L2 : Addr} {m a : Nat} {G : Nat → Nat → Int} {zs ys : List V} (h : RowsT H p L m a G) (h2 : H L2 = some (.lst zs)) (n : L ≠ L2) : RowsT (upd H L2 (.lst ys)) p L m a G := by
  obtain ⟨xs, e1, e2⟩ := h
  exact ⟨xs, by rw [upd_ne n]; exact e1, e2.setL h2 (rows_no _ _ _)⟩
theorem rowsT_tab {m : Nat} {G : Nat → Nat → Int} (h : (∀ a b, G a b = G b a) ∧ ∀ a b, a < m → b < m → 0 ≤ G a b ∧ G a b < (m : Int)) : TabD m (.tuple ((List.range m).map fun x => rowD ((List.range m).map fun y => G x y))) := by
  have := tab_of h.1 h.2
  unfold rowD
  simp only [List.map_map]
  exact this
theorem ok_law_fair_house (D : Df K mg "_law_fair_house" s_law_fair_house ["bag"]) (T : Nms mg) (c_law_pick : CallOk P w K mg base CX0 1 "_law_pick" ["bag", "many"] spPick) : CallOk P w K mg base CX0 2 "_law_fair_house" ["bag"] spMkHouse := by
  refine df_ok D sc_law_fair_house (fun vs H Q E h => ?_) (fun f cdv A outer s H vs Q E hr h => ?_)
  · obtain ⟨p, rfl, _⟩ := h
    rfl
  · obtain ⟨p, rfl, hB, k⟩ := h
    have nd := sc_law_fair_house.nd
    refine ⟨_, (pss_cons (ps_asg (pe_tup (pa_cons (pe_op op_add pe_int (pe_cc c_law_pick (hr.mono (by omega)) (pa_cons (pv 0) (pa_cons pe_int pa_nil)))) (pa_cons (pe_op op_add pe_int (pe_cc c_law_pick (hr.mono (by omega)) (pa_cons (pv 0) (pa_cons pe_int pa_nil)))) pa_nil))) (pg_tup rfl (pgs_cons (pg_name (i := 1) nd rfl (Or.inr rfl)) (pgs_cons (pg_name (i := 2) nd rfl (Or.inl rfl)) pgs_nil))))
      (pss_cons (ps_set (i := 3) nd rfl (Or.inl rfl) (pe_lst pa_nil))
      (pss_cons (ps_set (i := 4) nd rfl (Or.inr rfl) (pe_cc c_law_pick (hr.mono (by omega)) (pa_cons (pv 0) (pa_cons pe_int pa_nil))))
      (pss_cons (ps_set (i := 5) nd rfl (Or.inr rfl) (pe_cc c_law_pick (hr.mono (by omega)) (pa_cons (pv 0) (pa_cons (pv 1) pa_nil))))
      (pss_cons (ps_for PassesOwn.never rfl (pi_range1 rfl T.n_range (pa_cons (pv 2) pa_nil)) (pg_name (i := 6) nd rfl (Or.inl rfl)) (pss_cons (ps_par (i := 7) (j := 8) (by rfl) nd rfl rfl (by decide) rfl rfl (pa_cons (pe_lst pa_nil) (pa_cons (pe_lst pa_nil) pa_nil)) (by rfl))
      (pss_cons (ps_for PassesOwn.never rfl (pi_range1 rfl T.n_range (pa_cons (pv 1) pa_nil)) (pg_name (i := 9) nd rfl (Or.inr rfl)) (pss_cons (ps_expr (pe_bm PySem.F.plainAttrs_list PySem.F.slot_list_append PySem.F.type_list_append mt_append (pv 7) (pa_cons (pe_callTy (r := rTupOf K) call_tupOf (by rfl) T.n_tuple (by decide +kernel) (pa_cons (pe_lc (own := [("b", 10)]) (g := (gName 10)) (tt := tYes) (by rfl) nd (pi_range1 rfl T.n_range (pa_cons (pv 1) pa_nil)) (blkOk_by (own := [("b", 10)]) (N := N_law_fair_house) (sc := defScope s_law_fair_house) (by decide +kernel)) (fun _ _ _ _ _ => (pg_name (i := 10) nd rfl (Or.inl rfl))) (fun _ _ _ _ _ => pts_nil) (fun _ _ _ _ _ => (pe_ix (r := rIxL K) ix_list (pe_lst (pa_cons (pe_callB (call_max2 rfl) (by rfl) T.n_max (by decide +kernel) (pa_cons (pv 9) (pa_cons (pv 10) pa_nil))) (pa_cons (pe_op op_mod (pe_op op_add (pv 9) (pv 10)) (pv 1)) (pa_cons (pv 5) (pa_cons (pe_callB (call_min2 rfl) (by rfl) T.n_min (by decide +kernel) (pa_cons (pv 9) (pa_cons (pv 10) pa_nil))) pa_nil))))) (pv 4) (fun _ _ => rfl)))) pa_nil)) pa_nil)))
      (pss_one (ps_expr (pe_bm PySem.F.plainAttrs_list PySem.F.slot_list_append PySem.F.type_list_append mt_append (pv 8) (pa_cons (pe_callTy (r := rTupOf K) call_tupOf (by rfl) T.n_tuple (by decide +kernel) (pa_cons (pe_lc (own := [("b", 10)]) (g := (gName 10)) (tt := tYes) (by rfl) nd (pi_range1 rfl T.n_range (pa_cons (pv 1) pa_nil)) (blkOk_by (own := [("b", 10)]) (N := N_law_fair_house) (sc := defScope s_law_fair_house) (by decide +kernel)) (fun _ _ _ _ _ => (pg_name (i := 10) nd rfl (Or.inl rfl))) (fun _ _ _ _ _ => pts_nil) (fun _ _ _ _ _ => (pe_ix (r := rIxL K) ix_list (pe_lst (pa_cons (pe_callB (call_min2 rfl) (by rfl) T.n_min (by decide +kernel) (pa_cons (pv 9) (pa_cons (pv 10) pa_nil))) (pa_cons (pe_op op_fdivW (pe_op op_add (pv 9) (pv 10)) (pv 1)) (pa_cons (pv 5) (pa_cons (pe_callB (call_max2 rfl) (by rfl) T.n_max (by decide +kernel) (pa_cons (pv 9) (pa_cons (pv 10) pa_nil))) pa_nil))))) (pv 4) (fun _ _ => rfl)))) pa_nil)) pa_nil))))))
      (pss_one (ps_expr (pe_bm PySem.F.plainAttrs_list PySem.F.slot_list_append PySem.F.type_list_append mt_append (pv 3) (pa_cons (pe_tup (pa_cons (pe_callTy (r := rTupOf K) call_tupOf (by rfl) T.n_tuple (by decide +kernel) (pa_cons (pv 7) pa_nil)) (pa_cons (pe_callTy (r := rTupOf K) call_tupOf (by rfl) T.n_tuple (by decide +kernel) (pa_cons (pv 8) pa_nil)) pa_nil))) pa_nil)))))))
      (pss_one (ps_ret (pe_callTy (r := rTupOf K) call_tupOf (by rfl) T.n_tuple (by decide +kernel) (pa_cons (pv 3) pa_nil))))))))), ?_⟩
    walk_at "op"
    walk_at "st"
    refine fun m1 H2 m10 m11 hB2 x2 => ?_
    walk_at "st"
    refine fun n1 H3 n10 n11 hB3 x3 => ?_
    obtain ⟨m, hm⟩ : ∃ m : Nat, (m : Int) = 1 + m1 := ⟨(1 + m1).toNat, by omega⟩
    obtain ⟨n, hn⟩ : ∃ n : Nat, (n : Int) = 1 + n1 := ⟨(1 + n1).toNat, by omega⟩
    have hm6 : m ≤ 6 := by omega
    have hm1 : 1 ≤ m := by omega
    have hn4 : n ≤ 4 := by omega
    walk_at "st"
    rw [← hm, ← hn]
    refine ⟨by show 2 ≤ sizeLine; decide, fun t0 ht0 => ?_⟩
    have nt0 := hB3.ne ht0
    refine ⟨t0, _, rfl, SqT.of upd_same, rfl, _, _, rfl, _, _, rfl, rfl, ?_⟩
    refine ⟨by show 0 ≤ sizeLine; omega, fun R hR => ?_⟩
    have nR := (hB3.up (o := .tup [.int m, .int n]) nt0).ne hR
    have ml : (m : Int).natAbs.log2 < 9000 := Nat.lt_of_le_of_lt (Nat.log2_le_self _) (by omega)
    have hBR := (hB3.up (o := .tup [.int m, .int n]) nt0).up (o := .lst []) nR
    walk_at "st"
    refine fun way H4 w0 w4 hB4 x4 => ?_
    walk_at "st"
    refine fun free H5 f0 f1 hB5 x5 => ?_
    have hR5 : H5 R = some (.lst []) := x5 _ _ (x4 _ _ upd_same nR.symm) nR.symm
    have x05 := (x2.trans x3).trans (ext_new (o := .tup [.int m, .int n]) ht0)
    have xb5 := ((ext_new (p := p) (o := .lst []) hR).trans x4).trans x5
    generalize hHb : upd H3 t0 (.tup [.int m, .int n]) = Hb at hR x05 xb5
    have hwn : way.toNat < 4 := by omega
    obtain ⟨u, hu⟩ := hB5.here
    have pne : ∀ {S : Addr} {G : Hp}, Same H5 G → G S = none → S ≠ p := fun {S G} e z q => by
      rw [q] at z
      have := e p u hu
      rw [z] at this
      cases this
    have bagS : ∀ {G : Hp}, Same H5 G → Bag G p := fun {G} e => by
      obtain ⟨b1, b2, b3, q⟩ := hB5
      exact ⟨b1, b2, b3, e _ _ q⟩
    walk_at "st"
    rw [Int.toNat_natCast]
    refine fR (fun i σ G => Ext p Hb G ∧ Bag G p ∧ (∃ u6 u7 u8 u9, σ = [some (.ref p), some (.int m), some (.int n), some (.ref R), some (.int way), some (.int free), u6, u7, u8, u9, none]) ∧ ∃ xs ds, G R = some (.lst xs) ∧ Dats G p xs ds ∧ ds.length = i ∧ ∀ e ∈ ds, FloorD m e)
      ⟨xb5, hB5, ⟨_, _, _, _, rfl⟩, [], [], hR5, Dats.nil, rfl, fun e he => by simp at he⟩ ?_ ?_
    · rintro i σ G hi ⟨xG, hBG, ⟨u6, u7, u8, u9, rfl⟩, xs, ds, hRs, hD, hl, hf⟩
      obtain ⟨u', hu'⟩ := hBG.here
      have pneG : ∀ {S : Addr} {Z : Hp}, Same G Z → Z S = none → S ≠ p := fun {S Z} e z q => by
        rw [q] at z
        have := e p u' hu'
        rw [z] at this
        cases this
      walk_at "op"
      walk_at "st"
      refine fun S hS => ?_
      refine ⟨by show 0 ≤ sizeLine; omega, fun U hU => ?_⟩
      have nSU : S ≠ U := ne_of_none upd_same hU
      have hU0 : G U = none := by rw [← hU, upd_ne nSU.symm]
      have sG1 : Same G (upd (upd G S (.lst [])) U (.lst [])) := (same_new hS).trans (same_new hU)
      walk_at "st"
      rw [Int.toNat_natCast]
      refine fR (fun a σ G1 => Same G G1 ∧ (∃ u9, σ = [some (.ref p), some (.int m), some (.int n), some (.ref R), some (.int way), some (.int free), some (.int (0 + i)), some (.ref S), some (.ref U), u9, none]) ∧ RowsT G1 p S m a (gS m free way) ∧ RowsT G1 p U m a (gU m free way))
        ⟨sG1, ⟨_, rfl⟩, ⟨[], by rw [upd_ne nSU]; exact upd_same, Dats.nil⟩, ⟨[], upd_same, Dats.nil⟩⟩ ?_ ?_
      · rintro a σ G1 ha ⟨s1, ⟨u9, rfl⟩, hRS, hRU⟩
        rw [Int.zero_add]
        obtain ⟨xS, eS, dS⟩ := id hRS
        have lS : xS.length ≤ 6 := by
          rw [dS.1, List.length_map, List.length_range]
          omega
        walk_at "op"
        walk_at "st"
        refine ⟨.inl ⟨rfl, _, SqL.of eS⟩, ?_⟩
        walk_at "st"
        refine fun D' hD' => ?_
        rw [Int.toNat_natCast]
        refine lR (fun b G2 => Same G1 G2 ∧ G2 D' = some (.lst (((List.range b).map fun y => gS m free way a y).map V.int))) ⟨same_new hD', upd_same⟩ ?_ ?_
        · rintro b G2 hb ⟨s2, h2⟩
          rw [Int.zero_add]
          walk_at "op"
          refine ⟨rfl, ?_⟩
          walk_at "st"
          refine ⟨by show 4 ≤ sizeLine; decide, fun l hl => ?_⟩
          have nDl : D' ≠ l := ne_of_none h2 hl
          walk_at "st"
          refine ⟨_, _, _, _, rfl, rfl, SqL.of upd_same, atI_of (v := .int (gS m free way a b)) w0 (by
            have q := congrArg (Option.map V.int) (gS_at (m := m) (free := free) (a := a) (b := b) hwn)
            rw [← List.getElem?_map] at q
            exact q), ?_⟩
          refine ⟨_, by rw [upd_ne nDl]; exact h2, by rw [List.length_map, List.length_map, List.length_range]; exact small1000 (by omega), sameOff (s2.trans (same_new hl)) hD', ?_⟩
          rw [upd_same, range_snoc, List.map_append]
          rfl
        · rintro G2 ⟨s2, h2⟩
          walk_at "op"
          walk_at "st"
          refine ⟨_, _, rfl, .inl ⟨SqL.of h2, fun t ht => ?_⟩⟩
          have s3 : Same G1 (upd G2 t (.tup (((List.range m).map fun y => gS m free way a y).map V.int))) := s2.trans (same_new ht)
          have htp := pneG (s1.trans s2) ht
          refine ⟨S, xS, _, rfl, rfl, s3 _ _ eS, small1000 (by omega), ?_⟩
          have hRS4 := RowsT.add (s3 _ _ eS) (dS.same s3) upd_same htp
          have hRU4 := (hRU.same s3).setL (ys := xS ++ [.ref t]) (s3 _ _ eS) nSU.symm
          have s4 := sameOff (o := .lst (xS ++ [.ref t])) (s1.trans s3) hS
          generalize hG4 : upd (upd G2 t (.tup (((List.range m).map fun y => gS m free way a y).map V.int))) S (.lst (xS ++ [.ref t])) = G4 at hRS4 hRU4 s4 ⊢
          clear hG4 s3 ht h2 s2 G2 hD' D' t htp
          obtain ⟨xU, eU, dU⟩ := id hRU4
          have lU : xU.length ≤ 6 := by
            rw [dU.1, List.length_map, List.length_range]
            omega
          walk_at "op"
          walk_at "st"
          refine ⟨.inl ⟨rfl, _, SqL.of eU⟩, ?_⟩
          walk_at "st"
          refine fun D' hD' => ?_
          rw [Int.toNat_natCast]
          refine lR (fun b G2 => Same G4 G2 ∧ G2 D' = some (.lst (((List.range b).map fun y => gU m free way a y).map V.int))) ⟨same_new hD', upd_same⟩ ?_ ?_
          · rintro b G2 hb ⟨s2, h2⟩
            rw [Int.zero_add]
            walk_at "op"
            refine ⟨rfl, ?_⟩
            walk_at "st"
            refine ⟨wide_div (b := 3) (by omega) (by rw [Int.natAbs_natCast]; omega) (by decide) (by decide), ?_⟩
            walk_at "st"
            refine ⟨by show 4 ≤ sizeLine; decide, fun l hl => ?_⟩
            have nDl : D' ≠ l := ne_of_none h2 hl
            walk_at "st"
            refine ⟨_, _, _, _, rfl, rfl, SqL.of upd_same, atI_of (v := .int (gU m free way a b)) w0 (by
              have q := congrArg (Option.map V.int) (gU_at (m := m) (free := free) (a := a) (b := b) hwn)
              rw [← List.getElem?_map] at q
              exact q), ?_⟩
            refine ⟨_, by rw [upd_ne nDl]; exact h2, by rw [List.length_map, List.length_map, List.length_range]; exact small1000 (by omega), sameOff (s2.trans (same_new hl)) hD', ?_⟩
            rw [upd_same, range_snoc, List.map_append]
            rfl
          · rintro G2 ⟨s2, h2⟩
            walk_at "op"
            walk_at "st"
            refine ⟨_, _, rfl, .inl ⟨SqL.of h2, fun t ht => ?_⟩⟩
            have s3 : Same G4 (upd G2 t (.tup (((List.range m).map fun y => gU m free way a y).map V.int))) := s2.trans (same_new ht)
            have htp := pneG (s4.trans s2) ht
            refine ⟨U, xU, _, rfl, rfl, s3 _ _ eU, small1000 (by omega), ?_⟩
            exact ⟨sameOff (s4.trans s3) hU0, ⟨_, rfl⟩, (hRS4.same s3).setL (s3 _ _ eU) nSU, RowsT.add (s3 _ _ eU) (dU.same s3) upd_same htp⟩
      · rintro σ G1 ⟨s1, ⟨u9, rfl⟩, ⟨xS, eS, dS⟩, ⟨xU, eU, dU⟩⟩
        walk_at "op"
        walk_at "st"
        have hR1 := s1 _ _ hRs
        refine ⟨.inl ⟨rfl, _, SqL.of hR1⟩, ?_⟩
        walk_at "st"
        refine ⟨S, xS, rfl, .inl ⟨SqL.of eS, fun t1 ht1 => ?_⟩⟩
        walk_at "st"
        have n1 := pneG s1 ht1
        refine ⟨U, xU, rfl, .inl ⟨SqL.of (by rw [upd_ne (ne_of_none eU ht1)]; exact eU), fun t2 ht2 => ?_⟩⟩
        have n2 := pneG (s1.trans (same_new ht1)) ht2
        refine ⟨by show 2 ≤ sizeLine; decide, fun t ht => ?_⟩
        have n3 := pneG ((s1.trans (same_new ht1)).trans (same_new ht2)) ht
        have sN : Same G1 (upd (upd (upd G1 t1 (.tup xS)) t2 (.tup xU)) t (.tup [.ref t1, .ref t2])) := ((same_new ht1).trans (same_new ht2)).trans (same_new ht)
        have sGN := s1.trans sN
        refine ⟨R, xs, _, rfl, rfl, sGN _ _ hRs, small1000 (by rw [hD.1, hl]; omega), ?_⟩
        have hTS : TabD m (.tuple ((List.range m).map fun x => rowD ((List.range m).map fun y => gS m free way x y))) := rowsT_tab (gS_ok hwn f0 f1)
        have hTU : TabD m (.tuple ((List.range m).map fun x => rowD ((List.range m).map fun y => gU m free way x y))) := rowsT_tab (gU_ok hwn f0 f1)
        have hFN : FloorD m (.tuple [.tuple ((List.range m).map fun x => rowD ((List.range m).map fun y => gS m free way x y)), .tuple ((List.range m).map fun x => rowD ((List.range m).map fun y => gU m free way x y))]) := ⟨_, _, rfl, hTS, hTU⟩
        have hN : Dat (upd (upd (upd G1 t1 (.tup xS)) t2 (.tup xU)) t (.tup [.ref t1, .ref t2])) p (.ref t) (.tuple [.tuple ((List.range m).map fun x => rowD ((List.range m).map fun y => gS m free way x y)), .tuple ((List.range m).map fun x => rowD ((List.range m).map fun y => gU m free way x y))]) :=
          Dat.new ht n3 (Dats.cons ((Dat.new ht1 n1 dS).off ht2) (Dats.cons (Dat.new ht2 n2 (dU.off ht1)) Dats.nil))
        have hR9 := sGN _ _ hRs
        have hBN : Bag (upd (upd (upd G1 t1 (.tup xS)) t2 (.tup xU)) t (.tup [.ref t1, .ref t2])) p := by
          obtain ⟨b1, b2, b3, q⟩ := hBG
          exact ⟨b1, b2, b3, sGN _ _ q⟩
        refine ⟨(xG.trans (Same.ext sGN p)).off hR, hBN.up nR, ⟨_, _, _, _, rfl⟩, _, _, upd_same, Dats.snoc ((hD.same sGN).setL hR9 fun e he => (floor_fit hm6 (hf e he)).2.1) (hN.setL hR9 (floor_fit hm6 hFN).2.1), by simp [hl], fun e he => ?_⟩
        rcases List.mem_append.mp he with he | he
        · exact hf e he
        · simp only [List.mem_cons, List.not_mem_nil, or_false] at he
          subst he
          exact hFN
    · rintro σ G ⟨xG, hBG, ⟨u6, u7, u8, u9, rfl⟩, xs, ds, hRs, hD, hl, hf⟩
      walk_at "op"
      walk_at "st"
      refine ⟨_, _, rfl, .inl ⟨SqL.of hRs, fun t ht => ?_⟩⟩
      have nt := hBG.ne ht
      exact k _ _ m n _ (hBG.up nt) ((x05.trans xG).trans (ext_new ht)) (Dat.new ht nt.symm hD) ⟨ds, rfl, hl, by omega, hn4, hm1, hm6, hf⟩

end
end Fm
end FFH
section FSD
set_option Elab.async false
set_option linter.all false
set_option maxRecDepth 100000
set_option maxHeartbeats 4000000
local macro_rules | `(tactic| walk_at "ne") => `(tactic| first | assumption | (apply Ne.symm; assumption) | exact L2.ne_of_none (by assumption) (by assumption) | exact Ne.symm (L2.ne_of_none (by assumption) (by assumption)))
local macro_rules | `(tactic| walk_at "hl") => `(tactic| first | assumption | exact L2.upd_same | (refine Eq.trans (L2.upd_ne (by walk_at "ne")) ?_; walk_at "hl"))
local macro_rules | `(tactic| walk_at "sd") => `(tactic| first | (with_reducible show (_ : Int) < _; omega) | (with_reducible show (_ : Int) ≤ _; omega) | assumption | decide | exact ⟨by assumption, by assumption⟩ | exact ⟨by decide, by decide⟩ | exact Or.inr ⟨by decide, by decide⟩ | exact Or.inl ⟨by omega, by omega⟩ | rfl)
local macro_rules | `(tactic| walk_at "st1") => `(tactic| first
  | refine ⟨_, rfl, ?_⟩
  | refine ⟨_, _, rfl, rfl, ?_⟩
  | refine ⟨_, _, rfl, ?_⟩
  | (refine ⟨_, _, _, _, rfl, rfl, L2.SqL.of (by walk_at "hl"), rfl, ?_⟩)
  | (refine ⟨_, _, _, _, rfl, rfl, L2.SqT.of (by walk_at "hl"), rfl, ?_⟩)
  | (refine ⟨_, _, _, _, rfl, rfl, (by walk_at "hl"), rfl, ?_⟩)
  | (refine And.intro (by walk_at "sd") ?_)
  )
local macro_rules | `(tactic| walk_at "st") => `(tactic| repeat walk_at "st1")
local macro_rules | `(tactic| walk_at "op") => `(tactic| try dsimp only [L2.tSeq, L2.tAsg, L2.tOp, L2.tVar, L2.tC, L2.gSub, L2.rI, L2.rI0, L2.rIxL, L2.rIxT, L2.rSetL, L2.tIfS, L2.tTest, L2.tRet, L2.gName, L2.tNext, L2.tAnd, L2.tOr, L2.tNot, L2.tAndV, L2.tOrV, L2.tNotV, L2.tB, L2.tCB, L2.tCons, L2.tNil, L2.tCall, L2.tTup, L2.tLst, L2.tChain, L2.tUn, L2.tPar, L2.tDrop, L2.tIf, L2.tBM, L2.tBM0, L2.rAppend, L2.rCat, L2.rIsi, L2.rIsiT, L2.gTup, L2.gCons, L2.gNil, Fm.tFor_eq, Fm.tLc_eq, L2.iTup, L2.iList, L2.iRng1, L2.iRng2, L2.tSl, L2.tPart, L2.tNoPart, L2.rSlL, L2.rEq, L2.rNe, L2.rU, L2.rEqD, L2.rNeD, Fm.tRevT, Fm.rLenS, Fm.rTupOf, Fm.rLstOf, L2.tDNewK, L2.tCallS, L2.WE, Fm.wKeep, Fm.rIsK, Fm.rIsKT, List.cons_append, List.nil_append, L2.tYes])
namespace Fm
open PySem PySem.Spec PyProof.Rows L2
abbrev s_law_standing : Stmt := top 58
abbrev N_law_standing : List Str := ["bag", "house", "many", "m", "floors", "counts", "k", "floor", "ground", "row"]
theorem sc_law_standing : FnScope N_law_standing ["bag", "house", "many"] (defScope s_law_standing) := ⟨rfl, rfl, rfl, by decide +kernel, rfl, by decide +kernel, by decide +kernel⟩
section
variable {P : Program} {w : World} {K : PySem.W.Frag} {mg : Str → Option Value} {base : Heap}
theorem LL.ext {H H' : Hp} {p L : Addr} {ws : List V} {fl : List (List Int)} (h : LL H p L ws fl) (e : Ext p H H') (nL : L ≠ p) : LL H' p L ws fl :=
  ⟨e _ _ h.at_ nL, h.len, fun j c q => by
    obtain ⟨b, e1, e2, e3, e4⟩ := h.row j c q
    exact ⟨b, e1, e _ _ e2 e4, e3, e4⟩⟩
def Inj (ws : List V) : Prop := ∀ (i1 i2 : Nat) (b : Addr), ws[i1]? = some (V.ref b) → ws[i2]? = some (V.ref b) → i1 = i2
def Fresh (H0 : Hp) (ws : List V) : Prop := ∀ (i : Nat) (b : Addr), ws[i]? = some (V.ref b) → H0 b = none
theorem snoc_get {ws : List V} {l b : Addr} {i : Nat} (e : (ws ++ [V.ref l])[i]? = some (V.ref b)) : ws[i]? = some (V.ref b) ∨ (i = ws.length ∧ b = l) := by
  by_cases hi : i < ws.length
  · rw [List.getElem?_append_left hi] at e
    exact .inl e
  · rw [List.getElem?_append_right (by omega)] at e
    cases z : i - ws.length with
    | zero =>
      rw [z] at e
      cases e
      exact .inr ⟨by omega, rfl⟩
    | succ w => rw [z] at e; cases e
theorem Inj.snoc {ws : List V} {l : Addr} (h : Inj ws) (n : ∀ (i : Nat) (b : Addr), ws[i]? = some (V.ref b) → b ≠ l) : Inj (ws ++ [V.ref l]) := fun i1 i2 b e1 e2 => by
  rcases snoc_get e1 with q1 | ⟨q1, q2⟩
  · rcases snoc_get e2 with r1 | ⟨r1, r2⟩
    · exact h i1 i2 b q1 r1
    · exact absurd r2 (n i1 b q1)
  · rcases snoc_get e2 with r1 | ⟨r1, r2⟩
    · exact absurd q2 (n i2 b r1)
    · rw [q1, r1]
theorem Fresh.snoc {H0 : Hp} {ws : List V} {l : Addr} (h : Fresh H0 ws) (hl : H0 l = none) : Fresh H0 (ws ++ [V.ref l]) := fun i b e => by
  rcases snoc_get e with q | ⟨_, q⟩
  · exact h i b q
  · rw [q]; exact hl
theorem LL.off {H : Hp} {p L l : Addr} {ws : List V} {fl : List (List Int)} (h : LL H p L ws fl) (hl : H l = none) : ∀ (i : Nat) (b : Addr), ws[i]? = some (V.ref b) → b ≠ l := fun i b e z => by
  obtain ⟨b', e1, e2, _⟩ := h.row i (fl[i]'(by rw [← h.len]; exact (List.getElem?_eq_some_iff.mp e).1)) (List.getElem?_eq_getElem _)
  rw [e] at e1
  cases e1
  subst z
  rw [hl] at e2
  cases e2
def tot (fl : List (List Int)) : Int := (fl.map List.sum).sum
theorem tot_set {fl : List (List Int)} {f j : Nat} {c : List Int} {x : Int} (hf : fl[f]? = some c) (hj : c[j]? = some x) : tot (fl.set f (c.set j (x + 1))) = tot fl + 1 := by
  unfold tot
  rw [List.map_set, sum_set (z := c.sum) (by rw [List.getElem?_map, hf]; rfl), sum_set hj]
  omega
theorem tot_zero (n m : Nat) : tot (List.replicate n (List.replicate m (0 : Int))) = 0 := by
  have h0 : (List.replicate m (0 : Int)).sum = 0 := by
    induction m with
    | zero => rfl
    | succ m ih => rw [List.replicate_succ, List.sum_cons, ih]; rfl
  unfold tot
  induction n with
  | zero => rfl
  | succ n ih => rw [List.replicate_succ, List.map_cons, List.sum_cons, ih, h0]; rfl
theorem sd_core {Dn : Ends} {H G : Hp} {p C ah : Addr} {ws : List V} {fl : List (List Int)} {m n many : Nat} {fi : Int} {u6 g8 : Option V} (f0 : 0 ≤ fi) (f1 : fi < n) (hm1 : 1 ≤ m) (hm6 : m ≤ 6) (nCp : C ≠ p) (hx : Ext p H G) (hB : Bag G p) (hLL : LL G p C ws fl) (inj : Inj ws) (fresh : Fresh H ws)
    (hln : fl.length = n) (hm : ∀ r ∈ fl, r.length = m) (hp : ∀ r ∈ fl, ∀ c ∈ r, 0 ≤ c)
    (hn : ∀ G', Ext p H G' → Bag G' p → ∀ fl', LL G' p C ws fl' → fl'.length = n → (∀ r ∈ fl', r.length = m) → (∀ r ∈ fl', ∀ c ∈ r, 0 ≤ c) → tot fl' = tot fl + 1 → Dn.nx [some (.ref p), some (.ref ah), some (.int many), some (.int m), some (.int n), some (.ref C), u6, some (.int fi), g8, none] G') :
    tAugS (tOp (rIxL K) (tVar 5) (tVar 7)) (tCall spPick [] E0 (tCons (tVar 0) (tCons (tVar 3) tNil))) (tC (V.int 1)) (rGetL K) (ipI fun i j => i + j) rSetL Dn
      [some (.ref p), some (.ref ah), some (.int many), some (.int m), some (.int n), some (.ref C), u6, some (.int fi), g8, none] G := by
  have hfl : fi.toNat < fl.length := by omega
  obtain ⟨E1, hw, hE, nEC, nEp⟩ := hLL.row fi.toNat fl[fi.toNat] (List.getElem?_eq_getElem hfl)
  have hcm : fl[fi.toNat] ∈ fl := List.getElem_mem _
  have hgf : fl[fi.toNat]? = some fl[fi.toNat] := List.getElem?_eq_getElem hfl
  generalize fl[fi.toNat] = c at hE hcm hgf
  have hcl := hm c hcm
  have mlog : (m : Int).natAbs.log2 < 9000 := Nat.lt_of_le_of_lt (Nat.log2_le_self _) (by omega)
  refine ⟨_, rfl, _, rfl, C, ws, fi, _, rfl, rfl, SqL.of hLL.at_, atI_of f0 hw, ?_⟩
  refine ⟨_, rfl, _, rfl, ?_⟩
  refine ⟨p, m, rfl, by omega, mlog, hB, fun j G1 j0 j1 hB1 x1 => ?_⟩
  have hj : j.toNat < c.length := by omega
  have hE1 := x1 _ _ hE nEp
  have ej : j = ((j.toNat : Nat) : Int) := by omega
  have hcj : c[j.toNat]? = some c[j.toNat] := List.getElem?_eq_getElem hj
  refine ⟨E1, _, j.toNat, .int c[j.toNat], rfl, by rw [← ej], SqL.of hE1, by rw [List.getElem?_map, hcj]; rfl, ?_⟩
  refine ⟨_, _, rfl, rfl, ?_⟩
  refine ⟨E1, _, j, j.toNat, rfl, rfl, hE1, by rw [ej, Int.toNat_natCast]; exact ixN_of (by rw [List.length_map]; exact hj), ?_⟩
  have hLL1 := hLL.ext x1 nCp
  have hLL2 := hLL1.updRow (c := c.set j.toNat (c[j.toNat] + 1)) hw fun i e => inj i _ E1 e hw
  rw [show (c.map V.int).set j.toNat (V.int (c[j.toNat] + 1)) = (c.set j.toNat (c[j.toNat] + 1)).map V.int from by rw [List.map_set]]
  refine hn _ ((hx.trans x1).off (fresh _ _ hw)) (hB1.up nEp.symm) _ hLL2 (by rw [List.length_set]; exact hln) (fun r hr => ?_) (fun r hr x hxr => ?_) (tot_set hgf hcj)
  · rcases List.mem_or_eq_of_mem_set hr with q | rfl
    · exact hm r q
    · rw [List.length_set]; exact hcl
  · rcases List.mem_or_eq_of_mem_set hr with q | rfl
    · exact hp r q x hxr
    · rcases List.mem_or_eq_of_mem_set hxr with q | rfl
      · exact hp c hcm x q
      · have := hp c hcm _ (List.mem_of_getElem? hcj)
        omega
def spStanding : Sp := fun vs H Q _ => ∃ (p : Addr) (hv : V) (hd : PyData) (m n many : Nat), vs = [.ref p, hv, .int many] ∧ Bag H p ∧ Dat H p hv hd ∧ HouseN m n hd ∧ many ≤ 60 ∧
  ∀ v' H' rows out, Bag H' p → Ext p H H' → Dat H' p v' (stD rows out) → rows.length = n → StOk m rows out → tot rows ≤ many → out ≤ 2 → Q v' H'
theorem ok_law_standing (D : Df K mg "_law_standing" s_law_standing ["bag", "house", "many"]) (T : Nms mg) (c_law_pick : CallOk P w K mg base CX0 1 "_law_pick" ["bag", "many"] spPick) : CallOk P w K mg base CX0 2 "_law_standing" ["bag", "house", "many"] spStanding := by
  refine df_ok D sc_law_standing (fun vs H Q E h => ?_) (fun f cdv A outer s H vs Q E hr h => ?_)
  · obtain ⟨p, hv, hd, m, n, many, rfl, _⟩ := h
    rfl
  · obtain ⟨p, hv, hd, m, n, many, rfl, hB, hD, hN, hmany, k⟩ := h
    have nd := sc_law_standing.nd
    obtain ⟨fs, rfl, hfl, hn1, hn4, hm1, hm6, hFl⟩ := id hN
    obtain ⟨ah, hs, rfl, hah, nah, hh⟩ := hD.isTup
    have hd0 : fs[0]? = some fs[0] := List.getElem?_eq_getElem (by omega)
    obtain ⟨s0, u0, e0, ⟨rs, e1, e2, _⟩, _⟩ := hFl fs[0] (List.getElem_mem _)
    rw [e0] at hd0
    subst e1
    obtain ⟨x0, hx0, hdx0⟩ := hh.back hd0
    obtain ⟨a0, y0, rfl, ha0, na0, hs0⟩ := hdx0.isTup
    obtain ⟨z0, hz0, hdz0⟩ := hs0.back (i := 0) rfl
    obtain ⟨af, yf, rfl, haf, naf, hsf⟩ := hdz0.isTup
    have hyl : yf.length = m := by rw [hsf.1, e2]
    have hhl : hs.length = n := by rw [hh.1, hfl]
    refine ⟨_, (pss_cons (ps_asg (pe_tup (pa_cons (pe_callB (r := rLenS K) call_lenS (by rfl) T.n_len (by decide +kernel) (pa_cons (pe_ix (r := rIxT K) ix_tup (pe_ix (r := rIxT K) ix_tup (pv 1) pe_int (fun _ _ => rfl)) pe_int (fun _ _ => rfl)) pa_nil)) (pa_cons (pe_callB (r := rLenS K) call_lenS (by rfl) T.n_len (by decide +kernel) (pa_cons (pv 1) pa_nil)) pa_nil))) (pg_tup rfl (pgs_cons (pg_name (i := 3) nd rfl (Or.inr rfl)) (pgs_cons (pg_name (i := 4) nd rfl (Or.inl rfl)) pgs_nil))))
      (pss_cons (ps_setLc (i := 5) (own := [("floor", 7)]) (g := (gName 7)) (tt := tYes) (by rfl) nd rfl rfl (sw_true rfl rfl rfl (by decide +kernel)) (pi_range1 rfl T.n_range (pa_cons (pv 4) pa_nil)) (blkOk_by (own := [("floor", 7)]) (N := N_law_standing) (sc := defScope s_law_standing) (by decide +kernel)) (fun _ _ _ _ _ => (pg_name (i := 7) nd rfl (Or.inl rfl))) (fun _ _ _ _ _ => pts_nil) (fun _ _ _ _ _ => (pe_lc (own := [("k", 6)]) (g := (gName 6)) (tt := tYes) (by rfl) nd (pi_range1 rfl T.n_range (pa_cons (pv 3) pa_nil)) (blkOk_by (own := [("k", 6)]) (N := N_law_standing) (sc := relS _ (defScope s_law_standing)) (by decide +kernel)) (fun _ _ _ _ _ => (pg_name (i := 6) nd rfl (Or.inl rfl))) (fun _ _ _ _ _ => pts_nil) (fun _ _ _ _ _ => pe_int))))
      (pss_cons (ps_set (i := 8) nd rfl (Or.inl rfl) (pe_cmpR op_eq (pe_cc c_law_pick (hr.mono (by omega)) (pa_cons (pv 0) (pa_cons pe_int pa_nil))) pe_int (nomark _)))
      (pss_cons (ps_for PassesOwn.never rfl (pi_range1 rfl T.n_range (pa_cons (pe_cc c_law_pick (hr.mono (by omega)) (pa_cons (pv 0) (pa_cons (pe_op op_add (pv 2) pe_int) pa_nil))) pa_nil)) (pg_name (i := 6) nd rfl (Or.inl rfl)) (pss_cons (ps_set (i := 7) nd rfl (Or.inl rfl) (pe_ifExp (pt_val (pv 8)) pe_int (pe_cc c_law_pick (hr.mono (by omega)) (pa_cons (pv 0) (pa_cons (pv 4) pa_nil)))))
      (pss_one (ps_augS (pe_ix (r := rIxL K) ix_list (pv 5) (pv 7) (fun _ _ => rfl)) (pe_cc c_law_pick (hr.mono (by omega)) (pa_cons (pv 0) (pa_cons (pv 3) pa_nil))) get_list pe_int ip_add set_list))))
      (pss_one (ps_ret (pe_op (r := rCatA K) op_catA (pe_callTy (r := rTupOf K) call_tupOf (by rfl) T.n_tuple (by decide +kernel) (pa_cons (pe_lc (own := [("row", 9)]) (g := (gName 9)) (tt := tYes) (by rfl) nd (pi_list (pv 5)) (blkOk_by (own := [("row", 9)]) (N := N_law_standing) (sc := defScope s_law_standing) (by decide +kernel)) (fun _ _ _ _ _ => (pg_name (i := 9) nd rfl (Or.inl rfl))) (fun _ _ _ _ _ => pts_nil) (fun _ _ _ _ _ => (pe_callTy (r := rTupOf K) call_tupOf (by rfl) T.n_tuple (by decide +kernel) (pa_cons (pv 9) pa_nil)))) pa_nil)) (pe_tup (pa_cons (pe_cc c_law_pick (hr.mono (by omega)) (pa_cons (pv 0) (pa_cons pe_int pa_nil))) pa_nil))))))))), ?_⟩
    walk_at "op"
    walk_at "st"
    refine ⟨_, _, _, _, rfl, rfl, SqT.of hah, atI_nat (j := 0) hx0, ?_⟩
    walk_at "st"
    refine ⟨_, _, _, _, rfl, rfl, SqT.of ha0, atI_nat (j := 0) hz0, ?_⟩
    refine ⟨_, _, rfl, .inr (SqT.of haf), ?_⟩
    walk_at "st"
    refine ⟨_, _, rfl, .inr (SqT.of hah), ?_⟩
    refine ⟨by show 2 ≤ sizeLine; decide, fun t0 ht0 => ?_⟩
    have nt0 := hB.ne ht0
    refine ⟨t0, _, rfl, SqT.of upd_same, rfl, _, _, rfl, _, _, rfl, rfl, ?_⟩
    rw [hyl, hhl]
    walk_at "op"
    walk_at "st"
    obtain ⟨u, hu⟩ := hB.here
    refine fun C hC => ?_
    rw [Int.toNat_natCast]
    have nCt : C ≠ t0 := fun z => by rw [z, upd_same] at hC; cases hC
    have hCH : H C = none := by rw [upd_ne nCt] at hC; exact hC
    have hsm0 : Same H (upd H t0 (.tup [.int m, .int n])) := same_new ht0
    have pne : ∀ {S : Addr} {G : Hp}, Same H G → G S = none → S ≠ p := fun {S G} e z q => by
      rw [q] at z
      have := e p u hu
      rw [z] at this
      cases this
    have nCp : C ≠ p := pne hsm0 hC
    refine lR (fun i G => Same H G ∧ ∃ ws, LL G p C ws (List.replicate i (List.replicate m (0 : Int))) ∧ Inj ws ∧ Fresh H ws)
      ⟨hsm0.trans (same_new hC), [], LL.nil upd_same, fun i1 i2 b e => (by cases e), fun i b e => (by cases e)⟩ ?_ ?_
    · rintro i G hi ⟨sm, ws, hLL, inj, fresh⟩
      walk_at "op"
      refine ⟨rfl, ?_⟩
      walk_at "st"
      refine fun E1 hE1 => ?_
      rw [Int.toNat_natCast]
      have hEH := sameFree sm hE1
      have nCE : C ≠ E1 := ne_of_none hLL.at_ hE1
      have wl : ws.length = i := by rw [hLL.len, List.length_replicate]
      refine lR (fun j G2 => Same G G2 ∧ G2 E1 = some (.lst ((List.replicate j (0 : Int)).map V.int))) ⟨same_new hE1, upd_same⟩ ?_ ?_
      · rintro j G2 hj ⟨s2, h2⟩
        walk_at "op"
        refine ⟨rfl, ?_⟩
        walk_at "st"
        refine ⟨_, h2, by rw [List.length_map, List.length_replicate]; exact small1000 (by omega), sameOff s2 hE1, ?_⟩
        rw [upd_same, List.replicate_succ', List.map_append]
        rfl
      · rintro G2 ⟨s2, h2⟩
        have hLL2 := hLL.same s2
        refine ⟨ws, hLL2.at_, small1000 (by omega), sameOff (sm.trans s2) hCH, ws ++ [.ref E1], ?_, inj.snoc (hLL.off hE1), fresh.snoc hEH⟩
        rw [List.replicate_succ']
        exact hLL2.snoc h2 nCE.symm (pne sm hE1)
    · rintro G ⟨sm, ws, hLL, inj, fresh⟩
      have hBG : Bag G p := by
        obtain ⟨b1, b2, b3, e⟩ := hB
        exact ⟨b1, b2, b3, sm _ _ e⟩
      walk_at "op"
      walk_at "st"
      refine fun g G1 g0 g1 hB1 x1 => ?_
      have ml : ((many : Int) + 1).natAbs.log2 < 9000 := Nat.lt_of_le_of_lt (Nat.log2_le_self _) (by omega)
      refine ⟨rfl, ?_⟩
      walk_at "st"
      refine fun q G2 q0 q1 hB2 x2 => ?_
      have xG2 := ((Same.ext sm p).trans x1).trans x2
      have hLL2 := (hLL.ext x1 nCp).ext x2 nCp
      refine ⟨q, rfl, by omega, by omega, ?_⟩
      refine fR (fun i σ G3 => Ext p H G3 ∧ Bag G3 p ∧ (∃ u6 u7, σ = [some (.ref p), some (.ref ah), some (.int many), some (.int m), some (.int n), some (.ref C), u6, u7, some (.bl (decide (V.int g = V.int 0))), none]) ∧
          ∃ fl, LL G3 p C ws fl ∧ fl.length = n ∧ (∀ r ∈ fl, r.length = m) ∧ (∀ r ∈ fl, ∀ c ∈ r, 0 ≤ c) ∧ tot fl = i)
        ⟨xG2, hB2, ⟨_, _, rfl⟩, _, hLL2, List.length_replicate, fun r hr => (by rw [(List.mem_replicate.mp hr).2]; exact List.length_replicate), fun r hr c hc => (by rw [(List.mem_replicate.mp hr).2] at hc; rw [(List.mem_replicate.mp hc).2]; exact Int.le_refl 0), tot_zero n m⟩ ?_ ?_
      · rintro i σ G3 hi ⟨x3, hB3, ⟨u6, u7, rfl⟩, fl, hLL3, hl3, hm3, hp3, ht3⟩
        have mlog : (m : Int).natAbs.log2 < 9000 := Nat.lt_of_le_of_lt (Nat.log2_le_self _) (by omega)
        have nlog : (n : Int).natAbs.log2 < 9000 := Nat.lt_of_le_of_lt (Nat.log2_le_self _) (by omega)
        -- what happens once the floor is chosen
        walk_at "op"
        walk_at "st"
        have go : ∀ (fi : Int) (G4 : Hp), 0 ≤ fi → fi < n → Ext p H G4 → Bag G4 p → LL G4 p C ws fl → ∀ (Dn : Ends) (u6' g8 : Option V), (∀ G', Ext p H G' → Bag G' p → ∀ fl', LL G' p C ws fl' → fl'.length = n → (∀ r ∈ fl', r.length = m) → (∀ r ∈ fl', ∀ c ∈ r, 0 ≤ c) → tot fl' = tot fl + 1 → Dn.nx [some (.ref p), some (.ref ah), some (.int many), some (.int m), some (.int n), some (.ref C), u6', some (.int fi), g8, none] G') → 
            tAugS (tOp (rIxL K) (tVar 5) (tVar 7)) (tCall spPick [] E0 (tCons (tVar 0) (tCons (tVar 3) tNil))) (tC (V.int 1)) (rGetL K) (ipI fun i j => i + j) rSetL Dn
              [some (.ref p), some (.ref ah), some (.int many), some (.int m), some (.int n), some (.ref C), u6', some (.int fi), g8, none] G4 := fun fi G4 f0 f1 x4 hB4 hLL4 Dn u6' g8 hn => sd_core f0 f1 hm1 hm6 nCp x4 hB4 hLL4 inj fresh hl3 hm3 hp3 hn
        refine ite2 (fun c0 => ?_) (fun c0 => ?_)
        · refine go 0 G3 (by omega) (by omega) x3 hB3 hLL3 _ _ _ fun G' x' hB' fl' hLL' h1 h2 h3 h4 => ⟨x', hB', ⟨_, _, rfl⟩, fl', hLL', h1, h2, h3, ?_⟩
          rw [h4, ht3]
          omega
        · refine ⟨_, rfl, _, rfl, ?_⟩
          refine ⟨p, n, rfl, by omega, nlog, hB3, fun fi G4 f0 f1 hB4 x4 => ?_⟩
          refine go fi G4 f0 f1 (x3.trans x4) hB4 (hLL3.ext x4 nCp) _ _ _ fun G' x' hB' fl' hLL' h1 h2 h3 h4 => ⟨x', hB', ⟨_, _, rfl⟩, fl', hLL', h1, h2, h3, ?_⟩
          rw [h4, ht3]
          omega
      · rintro σ G3 ⟨x3, hB3, ⟨u6, u7, rfl⟩, fl, hLL3, hl3, hm3, hp3, ht3⟩
        walk_at "op"
        walk_at "st"
        refine ⟨⟨_, SqL.of hLL3.at_⟩, fun D' hD' => ?_⟩
        have nCD : C ≠ D' := ne_of_none hLL3.at_ hD'
        obtain ⟨uB, huB⟩ := hB3.here
        have pne3 : ∀ {S : Addr} {Z : Hp}, Same G3 Z → Z S = none → S ≠ p := fun {S Z} e z q => by
          rw [q] at z
          have := e p uB huB
          rw [z] at this
          cases this
        have rno : ∀ (l : List (List Int)), ∀ d ∈ l.map rowD, noList d = true := fun l d hd => by
          obtain ⟨r, _, rfl⟩ := List.mem_map.mp hd
          exact noList_ints _ _
        refine lI walk_list (fun j G4 => Same G3 G4 ∧ ∃ ws2, G4 D' = some (.lst ws2) ∧ Dats G4 p ws2 ((fl.take j).map rowD)) ⟨same_new hD', [], upd_same, Dats.nil⟩ (fun j G4 _ ⟨e, _⟩ => SqL.of (e _ _ hLL3.at_)) ?_ ?_
        · rintro j x G4 _ hj ⟨s4, ws2, hw2, hd2⟩ ⟨rfl, hxj⟩
          have hjl : j < fl.length := by rw [← hLL3.len]; exact hj
          obtain ⟨b, e1, e2, _⟩ := hLL3.row j fl[j] (List.getElem?_eq_getElem hjl)
          rw [hxj] at e1
          cases e1
          have wl2 : ws2.length ≤ 4 := by
            rw [hd2.1, List.length_map, List.length_take]
            omega
          walk_at "op"
          refine ⟨rfl, ?_⟩
          walk_at "st"
          refine ⟨b, _, rfl, .inl ⟨SqL.of (s4 _ _ e2), fun l hl => ?_⟩⟩
          have hw3 := (same_new (o := .tup (fl[j].map V.int)) hl) _ _ hw2
          refine ⟨ws2, hw3, small1000 (by omega), sameOff (s4.trans (same_new hl)) hD', ws2 ++ [.ref l], upd_same, ?_⟩
          have e9 : (fl.take (j + 1)).map rowD = (fl.take j).map rowD ++ [rowD fl[j]] := by
            rw [List.take_add_one, List.getElem?_eq_getElem hjl, List.map_append]
            rfl
          rw [e9]
          refine ((hd2.off hl).setL hw3 (rno _)).snoc (Dat.setL hw3 (.tup upd_same (pne3 s4 hl) (by rw [List.length_map, List.length_map]) fun i x d a b => (Dats.ints (p := p) fl[j]).2 i x d a b) (noList_ints _ _))
        · rintro G4 ⟨s4, ws2, hw2, hd2⟩
          rw [hLL3.len, List.take_length] at hd2
          walk_at "op"
          walk_at "st"
          refine ⟨D', ws2, rfl, .inl ⟨SqL.of hw2, fun t1 ht1 => ?_⟩⟩
          have nt1 := pne3 s4 ht1
          have hB5 : Bag (upd G4 t1 (.tup ws2)) p := by
            obtain ⟨b1, b2, b3, e⟩ := hB3
            exact ⟨b1, b2, b3, (s4.trans (same_new ht1)) _ _ e⟩
          walk_at "st"
          refine fun o G6 o0 o1 hB6 x6 => ?_
          walk_at "st"
          refine ⟨by show 1 ≤ sizeLine; decide, fun t2 ht2 => ?_⟩
          have nt2 := hB6.ne ht2
          have ht16 := x6 _ _ (upd_same (H := G4) (a := t1) (o := .tup ws2)) nt1
          have hwl : ws2.length = n := by rw [hd2.1, List.length_map, hl3]
          refine ⟨t1, t2, ws2, _, rfl, rfl, SqT.of (by rw [upd_ne (ne_of_none ht16 ht2)]; exact ht16), SqT.of upd_same, len_le (by show _ + 1 ≤ 1000; omega), fun e => ?_, fun _ e => (by cases e), fun _ _ r hr => ?_⟩
          · rw [e] at hwl
            have : ([] : List V).length = 0 := rfl
            omega
          · have nr := (hB6.up (o := .tup [.int o]) nt2).ne hr
            have hd6 : Dats (upd G6 t2 (.tup [.int o])) p ws2 (fl.map rowD) := (((hd2.off ht1).ext x6).off ht2)
            refine k _ _ fl o ((hB6.up nt2).up nr) ((((x3.trans (Same.ext s4 p)).trans (ext_new ht1)).trans x6).trans ((ext_new ht2).trans (ext_new hr))) (Dat.new hr nr.symm (hd6.snoc (.int o))) hl3 ⟨hm3, hp3, o0⟩ (by rw [ht3]; omega) (by omega)

end
end Fm
end FSD
section FFmLc2
set_option Elab.async false
set_option linter.all false
set_option maxRecDepth 100000
set_option maxHeartbeats 4000000
namespace Fm
open PySem PySem.Spec PyProof.Rows L2
/-- the inner walk of a comprehension with two for, its list at D, within one turn of the outer one -/
def LcI (J1 : It) (g1 : TG) (tt1 : TT) (te : TE) (vs1 : List Nat) (σ2 : L2.St) (H4 : Hp) (D : Addr) (Nx : Hp → Prop) : Prop := ∃ W1 : Nat → Nat → Hp → Prop, (∃ m, W1 0 m H4) ∧ ∀ j k H, W1 j k H →
  (J1.stop j H ∧ Nx H) ∨ (J1.go j H ∧ ∃ Nx1 : Hp → Prop, (∀ H', Nx1 H' → ∃ k', k' < k ∧ W1 (j + 1) k' H') ∧ ∀ x H', J1.yld j H x H' → g1 x (wipe σ2 vs1) H' fun σ3 H5 => wipe σ3 vs1 = wipe σ2 vs1 ∧ tt1 σ3 H5 fun b H6 =>
    if b = true then te σ3 H6 fun y H7 => ∃ acc, H7 D = some (.lst acc) ∧ acc.length < sizeLine ∧ Nx1 (upd H7 D (.lst (acc ++ [y]))) else Nx1 H6)
def Lc2B (J : It) (g : TG) (tt : TT) (wi1 : TI) (g1 : TG) (tt1 : TT) (te : TE) (vs vs1 : List Nat) (σ : L2.St) (H1 : Hp) (D : Addr) (Qd : Hp → Prop) : Prop := ∃ W : Nat → Nat → Hp → Prop, (∃ m, W 0 m (upd H1 D (.lst []))) ∧ ∀ i m H, W i m H →
  (J.stop i H ∧ Qd H) ∨ (J.go i H ∧ ∃ Nx : Hp → Prop, (∀ H', Nx H' → ∃ m', m' < m ∧ W (i + 1) m' H') ∧ ∀ x H', J.yld i H x H' → g x (wipe σ vs) H' fun σ2 H2 => wipe σ2 vs = wipe σ vs ∧ tt σ2 H2 fun b H3 =>
    if b = true then wi1 σ2 H3 fun J1 H4 => LcI J1 g1 tt1 te vs1 σ2 H4 D Nx else Nx H3)
theorem tLc2_eq {wi wi1 : TI} {g g1 : TG} {tt tt1 : TT} {te : TE} {vs vs1 : List Nat} {σ : L2.St} {H : Hp} {Q : VK} : tLc2 wi g tt wi1 g1 tt1 te vs vs1 σ H Q = wi σ H fun J H1 => ∀ A, H1 A = none → Lc2B J g tt wi1 g1 tt1 te vs vs1 σ H1 A (fun H => Q (.ref A) H) := rfl
section
variable {J : It} {n : Nat} {G : Hp → Prop} {Y : Nat → Hp → V → Hp → Prop}
theorem l2I (w : Walk J n G Y) {g : TG} {tt : TT} {wi1 : TI} {g1 : TG} {tt1 : TT} {te : TE} {vs vs1 : List Nat} {σ : L2.St} {H1 : Hp} {D : Addr} {Qd : Hp → Prop} (Pv : Nat → Hp → Prop) (h0 : Pv 0 (upd H1 D (.lst []))) (hG : ∀ i H, i ≤ n → Pv i H → G H)
    (hs : ∀ i x H H', i < n → Pv i H → Y i H x H' → g x (wipe σ vs) H' fun σ2 H2 => wipe σ2 vs = wipe σ vs ∧ tt σ2 H2 fun b H3 =>
      if b = true then wi1 σ2 H3 fun J1 H4 => LcI J1 g1 tt1 te vs1 σ2 H4 D (Pv (i + 1)) else Pv (i + 1) H3) (hd : ∀ H, Pv n H → Qd H) : Lc2B J g tt wi1 g1 tt1 te vs vs1 σ H1 D Qd := by
  refine ⟨fun i m H => m = n - i ∧ i ≤ n ∧ Pv i H, ⟨n, by simp, Nat.zero_le _, h0⟩, ?_⟩
  rintro i m H ⟨rfl, hi, p⟩
  have q := hG i H hi p
  by_cases hlt : i < n
  · exact .inr ⟨w.goes i H hlt q, Pv (i + 1), fun H' p' => ⟨n - (i + 1), by omega, rfl, hlt, p'⟩, fun x H' y => hs i x H H' hlt p (w.yields i H x H' hlt q y)⟩
  · have e : i = n := by omega
    subst e
    exact .inl ⟨w.stops H q, hd H p⟩
theorem liI (w : Walk J n G Y) {g1 : TG} {tt1 : TT} {te : TE} {vs1 : List Nat} {σ2 : L2.St} {H4 : Hp} {D : Addr} {Nx : Hp → Prop} (Pv : Nat → Hp → Prop) (h0 : Pv 0 H4) (hG : ∀ i H, i ≤ n → Pv i H → G H)
    (hs : ∀ i x H H', i < n → Pv i H → Y i H x H' → g1 x (wipe σ2 vs1) H' fun σ3 H5 => wipe σ3 vs1 = wipe σ2 vs1 ∧ tt1 σ3 H5 fun b H6 =>
      if b = true then te σ3 H6 fun y H7 => ∃ acc, H7 D = some (.lst acc) ∧ acc.length < sizeLine ∧ Pv (i + 1) (upd H7 D (.lst (acc ++ [y]))) else Pv (i + 1) H6) (hd : ∀ H, Pv n H → Nx H) : LcI J g1 tt1 te vs1 σ2 H4 D Nx := by
  refine ⟨fun i m H => m = n - i ∧ i ≤ n ∧ Pv i H, ⟨n, by simp, Nat.zero_le _, h0⟩, ?_⟩
  rintro i m H ⟨rfl, hi, p⟩
  have q := hG i H hi p
  by_cases hlt : i < n
  · exact .inr ⟨w.goes i H hlt q, Pv (i + 1), fun H' p' => ⟨n - (i + 1), by omega, rfl, hlt, p'⟩, fun x H' y => hs i x H H' hlt p (w.yields i H x H' hlt q y)⟩
  · have e : i = n := by omega
    subst e
    exact .inl ⟨w.stops H q, hd H p⟩
end
theorem pi_listK {X : Cx} {K : PySem.W.Frag} {tg l : Expr} {tl : TE} (e : X.K = K) (hl : PE X l tl) : PI X tg l (iList K tl) := by
  subst e
  exact pi_list hl
theorem pt_truthK {X : Cx} {K : PySem.W.Frag} {a : Expr} {ta : TE} (e : X.K = K) (ha : PE X a ta) (he : ∀ whole, isTrue a X.env whole = (do let v ← whole; standAt a.pos; holding [v] (truthy v))) :
    PT X a (fun σ H Q => ta σ H fun x H' => ∃ k, TruV K x H' k ∧ Q k H') := by
  subst e
  exact pt_truth ha he
end Fm
end FFmLc2
section FKA
set_option Elab.async false
set_option linter.all false
set_option maxRecDepth 100000
set_option maxHeartbeats 4000000
local macro_rules | `(tactic| walk_at "ne") => `(tactic| first | assumption | (apply Ne.symm; assumption) | exact L2.ne_of_none (by assumption) (by assumption) | exact Ne.symm (L2.ne_of_none (by assumption) (by assumption)))
local macro_rules | `(tactic| walk_at "hl") => `(tactic| first | assumption | exact L2.upd_same | (refine Eq.trans (L2.upd_ne (by walk_at "ne")) ?_; walk_at "hl"))
local macro_rules | `(tactic| walk_at "sd") => `(tactic| first | (with_reducible show (_ : Int) < _; omega) | (with_reducible show (_ : Int) ≤ _; omega) | assumption | decide | exact ⟨by assumption, by assumption⟩ | exact ⟨by decide, by decide⟩ | exact Or.inr ⟨by decide, by decide⟩ | exact Or.inl ⟨by omega, by omega⟩ | rfl)
local macro_rules | `(tactic| walk_at "st1") => `(tactic| first
  | refine ⟨_, rfl, ?_⟩
  | refine ⟨_, _, rfl, rfl, ?_⟩
  | refine ⟨_, _, rfl, ?_⟩
  | (refine ⟨_, _, _, _, rfl, rfl, L2.SqL.of (by walk_at "hl"), rfl, ?_⟩)
  | (refine ⟨_, _, _, _, rfl, rfl, L2.SqT.of (by walk_at "hl"), rfl, ?_⟩)
  | (refine ⟨_, _, _, _, rfl, rfl, (by walk_at "hl"), rfl, ?_⟩)
  | (refine And.intro (by walk_at "sd") ?_)
  )
local macro_rules | `(tactic| walk_at "st") => `(tactic| repeat walk_at "st1")
local macro_rules | `(tactic| walk_at "op") => `(tactic| try dsimp only [L2.tSeq, L2.tAsg, L2.tOp, L2.tVar, L2.tC, L2.gSub, L2.rI, L2.rI0, L2.rIxL, L2.rIxT, L2.rSetL, L2.tIfS, L2.tTest, L2.tRet, L2.gName, L2.tNext, L2.tAnd, L2.tOr, L2.tNot, L2.tAndV, L2.tOrV, L2.tNotV, L2.tB, L2.tCB, L2.tCons, L2.tNil, L2.tCall, L2.tTup, L2.tLst, L2.tChain, L2.tUn, L2.tPar, L2.tDrop, L2.tIf, L2.tBM, L2.tBM0, L2.rAppend, L2.rCat, L2.rIsi, L2.rIsiT, L2.gTup, L2.gCons, L2.gNil, Fm.tFor_eq, Fm.tLc_eq, Fm.tLc2_eq, L2.iTup, L2.iList, L2.iRng1, L2.iRng2, L2.tSl, L2.tPart, L2.tNoPart, L2.rSlL, L2.rEq, L2.rNe, L2.rU, L2.rEqD, L2.rNeD, Fm.tRevT, Fm.rLenS, Fm.rTupOf, Fm.rLstOf, L2.tDNewK, L2.tCallS, L2.WE, Fm.wKeep, Fm.rIsK, Fm.rIsKT, List.cons_append, List.nil_append, L2.tYes])
namespace Fm
open PySem PySem.Spec PyProof.Rows L2
section
variable {P : Program} {w : World} {K : PySem.W.Frag} {mg : Str → Option Value} {base : Heap}

end
end Fm
end FKA
section FHF
set_option Elab.async false
set_option linter.all false
set_option maxRecDepth 100000
set_option maxHeartbeats 4000000
local macro_rules | `(tactic| walk_at "ne") => `(tactic| first | assumption | (apply Ne.symm; assumption) | exact L2.ne_of_none (by assumption) (by assumption) | exact Ne.symm (L2.ne_of_none (by assumption) (by assumption)))
local macro_rules | `(tactic| walk_at "hl") => `(tactic| first | assumption | exact L2.upd_same | (refine Eq.trans (L2.upd_ne (by walk_at "ne")) ?_; walk_at "hl"))
local macro_rules | `(tactic| walk_at "sd") => `(tactic| first | (with_reducible show (_ : Int) < _; omega) | (with_reducible show (_ : Int) ≤ _; omega) | assumption | decide | exact ⟨by assumption, by assumption⟩ | exact ⟨by decide, by decide⟩ | exact Or.inr ⟨by decide, by decide⟩ | exact Or.inl ⟨by omega, by omega⟩ | rfl)
local macro_rules | `(tactic| walk_at "st1") => `(tactic| first
  | refine ⟨_, rfl, ?_⟩
  | refine ⟨_, _, rfl, rfl, ?_⟩
  | refine ⟨_, _, rfl, ?_⟩
  | (refine ⟨_, _, _, _, rfl, rfl, L2.SqL.of (by walk_at "hl"), rfl, ?_⟩)
  | (refine ⟨_, _, _, _, rfl, rfl, L2.SqT.of (by walk_at "hl"), rfl, ?_⟩)
  | (refine ⟨_, _, _, _, rfl, rfl, (by walk_at "hl"), rfl, ?_⟩)
  | (refine And.intro (by walk_at "sd") ?_)
  )
local macro_rules | `(tactic| walk_at "st") => `(tactic| repeat walk_at "st1")
local macro_rules | `(tactic| walk_at "op") => `(tactic| try dsimp only [L2.tSeq, L2.tAsg, L2.tOp, L2.tVar, L2.tC, L2.gSub, L2.rI, L2.rI0, L2.rIxL, L2.rIxT, L2.rSetL, L2.tIfS, L2.tTest, L2.tRet, L2.gName, L2.tNext, L2.tAnd, L2.tOr, L2.tNot, L2.tAndV, L2.tOrV, L2.tNotV, L2.tB, L2.tCB, L2.tCons, L2.tNil, L2.tCall, L2.tTup, L2.tLst, L2.tChain, L2.tUn, L2.tPar, L2.tDrop, L2.tIf, L2.tBM, L2.tBM0, L2.rAppend, L2.rCat, L2.rIsi, L2.rIsiT, L2.gTup, L2.gCons, L2.gNil, Fm.tFor_eq, Fm.tLc_eq, Fm.tLc2_eq, L2.iTup, L2.iList, L2.iRng1, L2.iRng2, L2.tSl, L2.tPart, L2.tNoPart, L2.rSlL, L2.rEq, L2.rNe, L2.rU, L2.rEqD, L2.rNeD, Fm.tRevT, Fm.rLenS, Fm.rTupOf, Fm.rLstOf, L2.tDNewK, L2.tCallS, L2.WE, Fm.wKeep, Fm.rIsK, Fm.rIsKT, List.cons_append, List.nil_append, L2.tYes])
namespace Fm
open PySem PySem.Spec PyProof.Rows L2
section
variable {P : Program} {w : World} {K : PySem.W.Frag} {mg : Str → Option Value} {base : Heap}
/-! ### the form of a standing, asked of any thing -/
def AreD (mv : V) (m : Nat) (d : PyData) : Prop := ∃ ds, d = .tuple ds ∧ (ds.length : Int) = m ∧ ∀ e ∈ ds, UpTo mv e
def FormD (mv : V) (m n : Nat) (d : PyData) : Prop := ∃ ds x, d = .tuple (ds ++ [x]) ∧ ds.length = n ∧ UpTo mv x ∧ ∀ e ∈ ds, AreD mv m e
theorem snoc_of {α : Type} {ds : List α} {n : Nat} (h : ds.length = n + 1) : ∃ es x, ds = es ++ [x] ∧ es.length = n := by
  have hne : ds ≠ [] := fun e => by rw [e] at h; cases h
  refine ⟨ds.dropLast, ds.getLast hne, (List.dropLast_concat_getLast hne).symm, by rw [List.length_dropLast]; omega⟩
theorem snoc_inj {α : Type} {es fs : List α} {x y : α} (h : es ++ [x] = fs ++ [y]) : es = fs ∧ x = y := by
  have := List.append_inj' h rfl
  exact ⟨this.1, by have h2 := this.2; injection h2⟩
theorem dats_snoc {H : Hp} {p : Addr} {ys : List V} {es : List PyData} {x : PyData} (h : Dats H p ys (es ++ [x])) : ∃ xs y, ys = xs ++ [y] ∧ Dats H p xs es ∧ Dat H p y x := by
  obtain ⟨xs, y, rfl, hl⟩ := snoc_of (n := es.length) (by rw [h.1, List.length_append]; rfl)
  refine ⟨xs, y, rfl, ⟨hl, fun i v d a b => ?_⟩, ?_⟩
  · have h1 : i < xs.length := (List.getElem?_eq_some_iff.mp a).1
    exact h.2 i v d (by rw [List.getElem?_append_left h1]; exact a) (by rw [List.getElem?_append_left (by omega)]; exact b)
  · refine h.2 xs.length y x ?_ ?_
    · rw [List.getElem?_append_right (Nat.le_refl _), Nat.sub_self]
      rfl
    · rw [hl, List.getElem?_append_right (Nat.le_refl _), Nat.sub_self]
      rfl
def spFormD : Sp := fun vs H Q _ => ∃ (v mv : V) (p : Addr) (m n : Nat) (d : PyData), vs = [v, .int (m : Nat), .int (n : Nat), mv] ∧ Dat H p v d ∧ n ≤ 4 ∧ (mv = .non ∨ ∃ M, mv = .int M) ∧ ∀ (b : Bool) H', (b = true ↔ FormD mv m n d) → Same H H' → Q (.bl b) H'
theorem okD_has_form (D : Df K mg "has_form" s_has_form ["thing", "m", "floors", "most"]) (T : Nms mg) (c_is_tuple_of : CallOk P w K mg base CX0 1 "is_tuple_of" ["thing", "many"] spTupOf)
    (c_is_up_to : CallOk P w K mg base CX0 2 "is_up_to" ["thing", "most"] spUpTo) (c_are_up_to : CallOk P w K mg base CX0 3 "are_up_to" ["thing", "many", "most"] spAre) : CallOk P w K mg base CX0 4 "has_form" ["thing", "m", "floors", "most"] spFormD := by
  refine df_ok D sc_has_form (fun vs H Q E h => ?_) (fun f cdv A outer s H vs Q E hr h => ?_)
  · obtain ⟨v, mv, p, m, n, d, rfl, _⟩ := h
    rfl
  · obtain ⟨v, mv, p, m, n, d, rfl, hd, hn4, hm, k⟩ := h
    have nd := sc_has_form.nd
    refine ⟨_, (pss_cons (ps_if (PW.pt (pw_or (pt_not (pt_val (pe_cc c_is_tuple_of (hr.mono (by omega)) (pa_cons (pv 0) (pa_cons (pe_op op_add (pv 2) pe_int) pa_nil))))) (pw_or1 (pt_not (pt_val (pe_cc c_is_up_to (hr.mono (by omega)) (pa_cons (pe_ix (r := rIxT K) ix_tup (pv 0) (pe_un un_neg pe_int) (fun _ _ => rfl)) (pa_cons (pv 3) pa_nil)))))))) (pss_one (ps_ret pe_bl)) pss_nil)
      (pss_cons (ps_for PassesOwn.never rfl (pi_tup (pe_slice (r := rSlA K) sl_tupA (pv 0) po_none (po_some (pe_un un_neg pe_int)))) (pg_name (i := 4) nd rfl (Or.inl rfl)) (pss_one (ps_if (pt_not (pt_val (pe_cc c_are_up_to (hr.mono (by omega)) (pa_cons (pv 4) (pa_cons (pv 1) (pa_cons (pv 3) pa_nil)))))) (pss_one (ps_ret pe_bl)) pss_nil)))
      (pss_one (ps_ret pe_bl)))), ?_⟩
    walk_at "op"
    walk_at "st"
    refine ⟨_, _, p, _, rfl, hd, fun b hb => ?_⟩
    walk_at "st"
    cases b with
    | false =>
      refine iteT (k false _ ⟨fun z => Bool.noConfusion z, fun ⟨ds, x, e, hl, _⟩ => ?_⟩ (fun _ _ e => e))
      refine hb.mpr ⟨_, e, ?_⟩
      rw [List.length_append]
      show ((ds.length + 1 : Nat) : Int) = _
      omega
    | true =>
      obtain ⟨ds, rfl, hl⟩ := hb.mp rfl
      obtain ⟨es, x, rfl, hel⟩ := snoc_of (ds := ds) (n := n) (by omega)
      obtain ⟨a, ys, rfl, ha, nap, hy⟩ := hd.isTup
      obtain ⟨xs, y, rfl, hx, hyx⟩ := dats_snoc hy
      clear hy
      refine iteF ?_
      walk_at "st"
      refine ⟨_, _, _, _, rfl, rfl, SqT.of ha, atI_last (by rw [hx.1]; omega), ?_⟩
      walk_at "st"
      refine ⟨_, _, p, _, rfl, hyx, hm, fun b hb => ?_⟩
      walk_at "st"
      cases b with
      | false =>
        refine iteT (k false _ ⟨fun z => Bool.noConfusion z, fun ⟨ds, x', e, hl, hu, _⟩ => ?_⟩ (fun _ _ e => e))
        injection e with e
        obtain ⟨_, rfl⟩ := snoc_inj e
        exact hb.mpr hu
      | true =>
        have hux := hb.mp rfl
        refine iteF ?_
        walk_at "st"
        refine sl_init (SqT.of ha) fun q hq => ?_
        refine ⟨_, rfl, ⟨_, SqT.of upd_same⟩, fT (xs := xs) (fun i σ H' => Same H H' ∧ H' q = some (.tup xs) ∧ (∃ u, σ = [some (.ref a), some (.int m), some (.int n), some mv, u]) ∧ ∀ j e, j < i → es[j]? = some e → AreD mv m e)
          ⟨same_new hq, upd_same, ⟨_, rfl⟩, fun j e hj => absurd hj (Nat.not_lt_zero j)⟩ (fun i σ H' _ ⟨_, e, _⟩ => SqT.of e) ?_ ?_⟩
        · rintro i x1 σ H' hxi ⟨sm, hq2, ⟨u, rfl⟩, hall⟩
          obtain ⟨e, he, hde⟩ := hx.at hxi
          walk_at "op"
          walk_at "st"
          refine ⟨x1, _, _, p, _, rfl, hde.same sm, hm, fun b hb => ?_⟩
          walk_at "st"
          cases b with
          | false =>
            refine iteT (k false _ ⟨fun z => Bool.noConfusion z, fun ⟨ds, x', e', hl, hu, h2⟩ => ?_⟩ sm)
            injection e' with e'
            obtain ⟨rfl, _⟩ := snoc_inj e'
            exact hb.mpr (h2 e (List.mem_of_getElem? he))
          | true =>
            refine iteF ⟨sm, hq2, ⟨_, rfl⟩, fun j e' hj he' => ?_⟩
            by_cases hji : j = i
            · subst hji
              rw [he] at he'
              cases he'
              exact hb.mp rfl
            · exact hall j e' (by omega) he'
        · rintro σ H' ⟨sm, hq2, ⟨u, rfl⟩, hall⟩
          walk_at "op"
          refine k true _ ⟨fun _ => ⟨es, x, rfl, hel, hux, fun e he => ?_⟩, fun _ => rfl⟩ sm
          obtain ⟨j, hj⟩ := List.getElem?_of_mem he
          have := (List.getElem?_eq_some_iff.mp hj).1
          exact hall j e (by rw [hx.1]; exact this) hj
/-- what is no house, and what is no standing of a house, is refused -/
def spRef (C Cs : Addr) : Sp := fun vs H Q E => ∃ (hv tv : V) (p p' : Addr) (hd td : PyData), vs = [hv, tv] ∧ Dat H p hv hd ∧ Dat H p' tv td ∧
  ((∃ m n, HouseN m n hd ∧ ¬ FormD .non m n td ∧ ∀ H', Same H H' → E (.ref Cs) none H') ∨ (¬ HouseD hd ∧ E (.ref C) none H))
theorem okD_check_standing (D : Df K mg "check_standing" s_check_standing ["house", "standing"]) (T : Nms mg) {C M Cs : Addr} (EX_NoStanding : Exn K mg "NoStanding" Cs M)
    (c_size : CallOk P w K mg base (L2.CX P w) 6 "size" ["house"] (spSize C)) (c_has_form : CallOk P w K mg base CX0 4 "has_form" ["thing", "m", "floors", "most"] spFormD) :
    CallOk P w K mg base (L2.CX P w) 7 "check_standing" ["house", "standing"] (spRef C Cs) := by
  refine df_okX D sc_check_standing (fun vs H Q E h => ?_) (fun f cdv A outer s H vs Q E hr h => ?_)
  · obtain ⟨hv, tv, p, p', hd, td, rfl, _⟩ := h
    rfl
  · obtain ⟨hv, tv, p, p', hd, td, rfl, hD, tD, k⟩ := h
    have nd := sc_check_standing.nd
    refine ⟨_, (pss_cons (ps_asg (pe_cs c_size (takes_of rfl rfl rfl rfl) (hr.mono (by omega)) (pa_cons (pv 0) pa_nil)) (pg_tup rfl (pgs_cons (pg_name (i := 2) nd rfl (Or.inl rfl)) (pgs_cons (pg_name (i := 3) nd rfl (Or.inl rfl)) pgs_nil))))
      (pss_one (ps_if (pt_not (pt_val (pe_cc c_has_form (hr.mono (by omega)) (pa_cons (pv 1) (pa_cons (pv 2) (pa_cons (pv 3) (pa_cons pe_non pa_nil))))))) (pss_one (ps_raiseE rfl (takes_of rfl rfl rfl rfl) EX_NoStanding rfl)) pss_nil))), ?_⟩
    walk_at "op"
    walk_at "st"
    rcases k with ⟨m, n, hN, hno, k⟩ | ⟨hno, k⟩
    · refine ⟨hv, p, hd, rfl, hD, fun m' n' hN' q H' hq hq2 sm => ?_, fun no => (no ⟨m, n, hN⟩).elim⟩
      obtain ⟨rfl, rfl⟩ := houseN_inj hN hN'
      refine ⟨q, _, rfl, SqT.of hq2, rfl, _, _, rfl, _, _, rfl, rfl, ?_⟩
      walk_at "op"
      walk_at "st"
      obtain ⟨_, _, _, hn1, hn4, _⟩ := hN
      refine ⟨tv, .non, p', m, n, td, rfl, tD.same sm, hn4, .inl rfl, fun b H2 hb sm2 => ?_⟩
      walk_at "st"
      cases b with
      | true => exact absurd (hb.mp rfl) hno
      | false => exact iteT (k _ (sm.trans sm2))
    · exact ⟨hv, p, hd, rfl, hD, fun m' n' hN' => (hno ⟨m', n', hN'⟩).elim, fun _ => k⟩

end
end Fm
end FHF
section FFmConf
/-! People on floors, told by how many there are of each number: three who come to one end in any order are enough. Pure arithmetic, nothing of the model. -/
set_option linter.all false
namespace FmC
/-- how many people of each number on each floor -/
abbrev St := Nat → Nat → Nat
def plus (c d : St) : St := fun f a => c f a + d f a
/-- one person -/
def one (f a : Nat) : St := fun g b => if g = f ∧ b = a then 1 else 0
instance : Add St := ⟨plus⟩
theorem add_at (c d : St) (f a : Nat) : (c + d) f a = c f a + d f a := rfl
theorem add_ac (c d e : St) : c + d + e = c + (d + e) := by funext f a; simp only [add_at]; omega
theorem add_cm (c d : St) : c + d = d + c := by funext f a; simp only [add_at]; omega
theorem add_rc (c d e : St) : c + d + e = c + e + d := by funext f a; simp only [add_at]; omega
theorem one_self (f a : Nat) : one f a f a = 1 := by simp [one]
theorem one_ne {f a g b : Nat} (h : ¬ (g = f ∧ b = a)) : one f a g b = 0 := by simp [one, h]
/-- a person is here, or the other states agree -/
theorem swap {c d : St} {f a g b : Nat} (h : c + one f a = d + one g b) : (f = g ∧ a = b ∧ c = d) ∨ ∃ e : St, c = e + one g b ∧ d = e + one f a := by
  by_cases e : f = g ∧ a = b
  · refine .inl ⟨e.1, e.2, ?_⟩
    obtain ⟨rfl, rfl⟩ := e
    funext x y
    have := congrFun (congrFun h x) y
    simp only [add_at] at this
    omega
  · refine .inr ⟨fun x y => c x y - one g b x y, ?_, ?_⟩
    · funext x y
      have h1 := congrFun (congrFun h x) y
      simp only [add_at] at h1 ⊢
      by_cases k : x = g ∧ y = b
      · obtain ⟨rfl, rfl⟩ := k
        have : one f a x y = 0 := one_ne fun q => e ⟨q.1.symm, q.2.symm⟩
        have := one_self x y
        omega
      · have := one_ne (f := g) (a := b) k
        omega
    · funext x y
      have h1 := congrFun (congrFun h x) y
      simp only [add_at] at h1 ⊢
      by_cases k : x = g ∧ y = b
      · obtain ⟨rfl, rfl⟩ := k
        have : one f a x y = 0 := one_ne fun q => e ⟨q.1.symm, q.2.symm⟩
        have := one_self x y
        omega
      · have := one_ne (f := g) (a := b) k
        omega
section
-- n floors of m numbers; who stays, who goes up
variable (n m : Nat) (S U : Nat → Nat → Nat → Nat)
/-- the tables are alike both ways about and within the numbers -/
structure Tables : Prop where
  sc : ∀ f a b, f < n → a < m → b < m → S f a b = S f b a
  uc : ∀ f a b, f < n → a < m → b < m → U f a b = U f b a
  sm : ∀ f a b, f < n → a < m → b < m → S f a b < m
  um : ∀ f a b, f < n → a < m → b < m → U f a b < m
/-- one meeting -/
def Step (c d : St) : Prop := ∃ (e : St) (f a b : Nat), f < n ∧ a < m ∧ b < m ∧ c = e + one f a + one f b ∧ d = e + one f (S f a b) + one (f + 1) (U f a b)
inductive Run : St → St → Prop
  | nil (c : St) : Run c c
  | cons {c d e : St} : Step n m S U c d → Run d e → Run c e
variable {n m S U}
theorem Run.one {c d : St} (h : Step n m S U c d) : Run n m S U c d := .cons h (.nil d)
theorem Run.trans {c d e : St} (h : Run n m S U c d) (k : Run n m S U d e) : Run n m S U c e := by
  induction h with
  | nil => exact k
  | cons s _ ih => exact .cons s (ih k)
/-- others beside don't matter -/
theorem Step.beside {c d : St} (h : Step n m S U c d) (x : St) : Step n m S U (x + c) (x + d) := by
  obtain ⟨e, f, a, b, hf, ha, hb, rfl, rfl⟩ := h
  exact ⟨x + e, f, a, b, hf, ha, hb, by simp only [add_ac], by simp only [add_ac]⟩
theorem Run.beside {c d : St} (h : Run n m S U c d) (x : St) : Run n m S U (x + c) (x + d) := by
  induction h with
  | nil => exact .nil _
  | cons s _ ih => exact .cons (s.beside x) ih
variable (n m S U)
/-- three on one floor, alone: whoever meets first, they can come to one state -/
def Three : Prop := ∀ f x y z, f < n → x < m → y < m → z < m → ∃ E, Run n m S U (one f (S f x y) + one (f + 1) (U f x y) + one f z) E ∧ Run n m S U (one f (S f x z) + one (f + 1) (U f x z) + one f y) E
variable {n m S U}
theorem join_three (T : Three n m S U) {e : St} {f x y z : Nat} (hf : f < n) (hx : x < m) (hy : y < m) (hz : z < m) : ∃ E, Run n m S U (e + one f z + one f (S f x y) + one (f + 1) (U f x y)) E ∧ Run n m S U (e + one f y + one f (S f x z) + one (f + 1) (U f x z)) E := by
  obtain ⟨E, h1, h2⟩ := T f x y z hf hx hy hz
  refine ⟨e + E, ?_, ?_⟩
  · have := h1.beside e
    rw [show e + (one f (S f x y) + one (f + 1) (U f x y) + one f z) = e + one f z + one f (S f x y) + one (f + 1) (U f x y) from by funext p q; simp only [add_at]; omega] at this
    exact this
  · have := h2.beside e
    rw [show e + (one f (S f x z) + one (f + 1) (U f x z) + one f y) = e + one f y + one f (S f x z) + one (f + 1) (U f x z) from by funext p q; simp only [add_at]; omega] at this
    exact this
/-- two meetings of four people come to one state -/
theorem join_four {e : St} {f a b g x y : Nat} (hf : f < n) (ha : a < m) (hb : b < m) (hg : g < n) (hx : x < m) (hy : y < m) :
    ∃ E, Run n m S U (e + one g x + one g y + one f (S f a b) + one (f + 1) (U f a b)) E ∧ Run n m S U (e + one f a + one f b + one g (S g x y) + one (g + 1) (U g x y)) E := by
  refine ⟨e + one f (S f a b) + one (f + 1) (U f a b) + one g (S g x y) + one (g + 1) (U g x y), .one ⟨e + one f (S f a b) + one (f + 1) (U f a b), g, x, y, hg, hx, hy, ?_, rfl⟩, .one ⟨e + one g (S g x y) + one (g + 1) (U g x y), f, a, b, hf, ha, hb, ?_, ?_⟩⟩
  · funext p q; simp only [add_at]; omega
  · funext p q; simp only [add_at]; omega
  · funext p q; simp only [add_at]; omega
/-- any two meetings come to one state -/
theorem local_join (B : Tables n m S U) (T : Three n m S U) {c d1 d2 : St} (h1 : Step n m S U c d1) (h2 : Step n m S U c d2) : ∃ E, Run n m S U d1 E ∧ Run n m S U d2 E := by
  obtain ⟨e, f, a, b, hf, ha, hb, hc, rfl⟩ := h1
  obtain ⟨e', g, x, y, hg, hx, hy, hc', rfl⟩ := h2
  rw [hc] at hc'
  rcases swap hc' with ⟨rfl, rfl, h⟩ | ⟨k, h, h'⟩
  · -- b = y
    rcases swap h with ⟨_, rfl, rfl⟩ | ⟨k, rfl, rfl⟩
    · exact ⟨_, .nil _, .nil _⟩
    · -- people a, x, b: meetings (a, b) and (x, b)
      obtain ⟨E, r1, r2⟩ := join_three T (e := k) hf hb ha hx
      rw [B.sc f b a hf hb ha, B.uc f b a hf hb ha] at r1
      rw [B.sc f b x hf hb hx, B.uc f b x hf hb hx] at r2
      exact ⟨E, r1, r2⟩
  · -- e + one f a = k + one g y, e' + one g x = k + one f b
    rcases swap h with ⟨rfl, rfl, rfl⟩ | ⟨l, rfl, rfl⟩
    · -- a = y
      rcases swap h' with ⟨_, rfl, rfl⟩ | ⟨l, rfl, rfl⟩
      · refine ⟨_, .nil _, ?_⟩
        rw [B.sc f x a hf hx ha, B.uc f x a hf hx ha]
        exact .nil _
      · -- people a, b, x: meetings (a, b) and (x, a)
        obtain ⟨E, r1, r2⟩ := join_three T (e := l) hf ha hb hx
        rw [B.sc f a x hf ha hx, B.uc f a x hf ha hx] at r2
        exact ⟨E, r1, r2⟩
    · -- e = l + one g y, k = l + one f a
      rcases swap h' with ⟨rfl, rfl, rfl⟩ | ⟨q, rfl, h3⟩
      · -- x = b: people a, b, y: meetings (a, b) and (b, y)
        obtain ⟨E, r1, r2⟩ := join_three T (e := l) hf hb ha hy
        rw [B.sc _ x a hf hb ha, B.uc _ x a hf hb ha] at r1
        exact ⟨E, r1, r2⟩
      · rcases swap h3 with ⟨rfl, rfl, rfl⟩ | ⟨r, rfl, rfl⟩
        · -- x = a: people a, b, y: meetings (a, b) and (a, y)
          exact join_three T (e := l) hf ha hb hy
        · exact join_four hf ha hb hg hx hy
/-! ### how many meetings are left -/
def sumTo : Nat → (Nat → Nat) → Nat
  | 0, _ => 0
  | k + 1, g => sumTo k g + g k
theorem sumTo_add (k : Nat) (g h : Nat → Nat) : sumTo k (fun i => g i + h i) = sumTo k g + sumTo k h := by
  induction k with
  | zero => rfl
  | succ k ih => simp only [sumTo, ih]; omega
theorem sumTo_at {k i : Nat} (hi : i < k) (v : Nat) : sumTo k (fun j => if j = i then v else 0) = v := by
  induction k with
  | zero => omega
  | succ k ih =>
    by_cases h : i = k
    · subst h
      have z : ∀ j, j ≤ i → sumTo j (fun j => if j = i then v else 0) = 0 := fun j => by
        induction j with
        | zero => intro _; rfl
        | succ j ih => intro hj; simp only [sumTo]; rw [ih (by omega), if_neg (by omega)]
      simp only [sumTo, if_pos]
      rw [z i (Nat.le_refl _)]
      omega
    · simp only [sumTo]
      rw [ih (by omega), if_neg (Ne.symm h)]
      omega
theorem sumTo_out {k i : Nat} (hi : k ≤ i) (v : Nat) : sumTo k (fun j => if j = i then v else 0) = 0 := by
  induction k with
  | zero => rfl
  | succ k ih => simp only [sumTo]; rw [ih (by omega), if_neg (by omega)]
theorem sumTo_zero (k : Nat) : sumTo k (fun _ => 0) = 0 := by
  induction k with
  | zero => rfl
  | succ k ih => simp only [sumTo, ih]
variable (n m)
def tall (c : St) : Nat := sumTo n fun f => (n - f) * sumTo m (c f)
variable {n m}
theorem tall_add (c d : St) : tall n m (c + d) = tall n m c + tall n m d := by
  unfold tall
  rw [← sumTo_add]
  congr 1
  funext f
  rw [← Nat.mul_add, ← sumTo_add]
  rfl
theorem tall_one {f a : Nat} (hf : f < n) (ha : a < m) : tall n m (one f a) = n - f := by
  unfold tall
  have : (fun g => (n - g) * sumTo m (one f a g)) = fun g => if g = f then n - f else 0 := by
    funext g
    by_cases h : g = f
    · subst h
      rw [if_pos rfl, show one g a g = fun b => if b = a then 1 else 0 from by funext b; simp [one], sumTo_at ha, Nat.mul_one]
    · rw [if_neg h, show one f a g = fun b => if b = 0 then 0 else 0 from by funext b; simp [one, h]]
      simp only [ite_self]
      rw [sumTo_zero, Nat.mul_zero]
  rw [this, sumTo_at hf]
theorem tall_up {f a : Nat} (hf : f ≤ n) (ha : a < m) : tall n m (one f a) = n - f := by
  by_cases h : f < n
  · exact tall_one h ha
  · have e : f = n := by omega
    subst e
    unfold tall
    have : (fun g => (f - g) * sumTo m (one f a g)) = fun g => if g = f then 0 else (fun g => (f - g) * sumTo m (one f a g)) g := by
      funext g
      by_cases h : g = f
      · rw [if_pos h, h, Nat.sub_self, Nat.zero_mul]
      · rw [if_neg h]
    have z : ∀ k, k ≤ f → sumTo k (fun g => (f - g) * sumTo m (one f a g)) = 0 := fun k => by
      induction k with
      | zero => intro _; rfl
      | succ k ih =>
        intro hk
        simp only [sumTo]
        rw [ih (by omega)]
        have : one f a k = fun _ => 0 := by funext b; exact one_ne (by omega)
        rw [this]
        rw [sumTo_zero, Nat.mul_zero]
    rw [z f (Nat.le_refl _), Nat.sub_self]
/-- each meeting makes it one less -/
theorem step_tall (B : Tables n m S U) {c d : St} (h : Step n m S U c d) : tall n m c = tall n m d + 1 := by
  obtain ⟨e, f, a, b, hf, ha, hb, rfl, rfl⟩ := h
  rw [tall_add, tall_add, tall_add, tall_add, tall_one hf ha, tall_one hf hb, tall_one hf (B.sm f a b hf ha hb), tall_up (by omega : f + 1 ≤ n) (B.um f a b hf ha hb)]
  omega
/-- all that can come of a state comes to one -/
theorem join (B : Tables n m S U) (T : Three n m S U) : ∀ (k : Nat) {c d1 d2 : St}, tall n m c ≤ k → Run n m S U c d1 → Run n m S U c d2 → ∃ E, Run n m S U d1 E ∧ Run n m S U d2 E := by
  intro k
  induction k with
  | zero =>
    intro c d1 d2 hk h1 h2
    cases h1 with
    | nil => exact ⟨_, h2, .nil _⟩
    | cons s r =>
      have := step_tall B s
      omega
  | succ k ih =>
    intro c d1 d2 hk h1 h2
    cases h1 with
    | nil => exact ⟨_, h2, .nil _⟩
    | cons s1 r1 =>
      cases h2 with
      | nil => exact ⟨_, .nil _, .cons s1 r1⟩
      | cons s2 r2 =>
        have t1 := step_tall B s1
        have t2 := step_tall B s2
        obtain ⟨F, j1, j2⟩ := local_join B T s1 s2
        obtain ⟨G, g1, g2⟩ := ih (by omega) r1 j1
        obtain ⟨H, e1, e2⟩ := ih (by omega) (j2.trans g2) r2
        exact ⟨H, g1.trans e1, e2⟩
/-- nobody can meet -/
def Still (n m : Nat) (S U : Nat → Nat → Nat → Nat) (c : St) : Prop := ∀ d, ¬ Step n m S U c d
/-- one end, whatever is met -/
theorem one_end (B : Tables n m S U) (T : Three n m S U) {c d1 d2 : St} (h1 : Run n m S U c d1) (h2 : Run n m S U c d2) (s1 : Still n m S U d1) (s2 : Still n m S U d2) : d1 = d2 := by
  obtain ⟨E, r1, r2⟩ := join B T _ (Nat.le_refl _) h1 h2
  cases r1 with
  | cons s _ => exact absurd s (s1 _)
  | nil =>
    cases r2 with
    | cons s _ => exact absurd s (s2 _)
    | nil => rfl
/-- what a run leads to leads to the end of the whole -/
theorem end_of_run (B : Tables n m S U) (T : Three n m S U) {c d e : St} (h : Run n m S U c d) (k : Run n m S U c e) (s : Still n m S U e) : Run n m S U d e := by
  obtain ⟨E, r1, r2⟩ := join B T _ (Nat.le_refl _) h k
  cases r2 with
  | cons t _ => exact absurd t (s _)
  | nil => exact r1
end
end FmC
end FFmConf
section FFmTri
/-! Of houses: what three alone come to, and floors by kinds. Pure arithmetic, nothing of the model. -/
set_option linter.all false
namespace FmC
section
variable {n m : Nat} {S U : Nat → Nat → Nat → Nat}
/-- who goes up: from the last floor everybody is told as 0 -/
def outU (n : Nat) (U : Nat → Nat → Nat → Nat) : Nat → Nat → Nat → Nat := fun f a b => if f + 1 < n then U f a b else 0
/-- what the program's look at threes tells: in all orders the same stays, and those who go up come to the same -/
def Tri (n m : Nat) (S U : Nat → Nat → Nat → Nat) : Prop := ∀ f x y z, f < n → x < m → y < m → z < m → S f (S f x y) z = S f (S f x z) y ∧
  (f + 1 < n → S (f + 1) (U f x y) (U f (S f x y) z) = S (f + 1) (U f x z) (U f (S f x z) y)) ∧
  (f + 2 < n → U (f + 1) (U f x y) (U f (S f x y) z) = U (f + 1) (U f x z) (U f (S f x z) y))
/-- the tables within -/
structure Tabs (n m : Nat) (S U : Nat → Nat → Nat → Nat) : Prop where
  pos : 1 ≤ m
  sc : ∀ f a b, f < n → a < m → b < m → S f a b = S f b a
  uc : ∀ f a b, f < n → a < m → b < m → U f a b = U f b a
  sm : ∀ f a b, f < n → a < m → b < m → S f a b < m
  um : ∀ f a b, f < n → a < m → b < m → U f a b < m
theorem Tabs.tables (B : Tabs n m S U) : Tables n m S (outU n U) := by
  refine ⟨B.sc, fun f a b hf ha hb => ?_, B.sm, fun f a b hf ha hb => ?_⟩
  · unfold outU
    rw [B.uc f a b hf ha hb]
  · unfold outU
    have := B.um f a b hf ha hb
    have := B.pos
    split <;> omega
theorem three_of (B : Tabs n m S U) (T : Tri n m S U) : Three n m S (outU n U) := by
  intro f x y z hf hx hy hz
  obtain ⟨t1, t2, t3⟩ := T f x y z hf hx hy hz
  have sxy := B.sm f x y hf hx hy
  have sxz := B.sm f x z hf hx hz
  -- two meetings on the floor
  have two : ∀ p q, p < m → q < m → Run n m S (outU n U) (one f (S f x p) + one (f + 1) (outU n U f x p) + one f q) (one f (S f (S f x p) q) + one (f + 1) (outU n U f x p) + one (f + 1) (outU n U f (S f x p) q)) := fun p q hp hq => by
    refine .one ⟨one (f + 1) (outU n U f x p), f, S f x p, q, hf, B.sm f x p hf hx hp, hq, ?_, ?_⟩
    · funext i j; simp only [add_at]; omega
    · funext i j; simp only [add_at]; omega
  by_cases h1 : f + 1 < n
  · -- and one above
    have u1 : ∀ a b, outU n U f a b = U f a b := fun a b => if_pos h1
    have more : ∀ r u v, u < m → v < m → Run n m S (outU n U) (r + one (f + 1) u + one (f + 1) v) (r + one (f + 1) (S (f + 1) u v) + one (f + 2) (outU n U (f + 1) u v)) := fun r u v hu hv => .one ⟨r, f + 1, u, v, h1, hu, hv, rfl, rfl⟩
    have r1 := (two y z hy hz).trans (more _ _ _ (by rw [u1]; exact B.um f x y hf hx hy) (by rw [u1]; exact B.um f _ z hf sxy hz))
    have r2 := (two z y hz hy).trans (more _ _ _ (by rw [u1]; exact B.um f x z hf hx hz) (by rw [u1]; exact B.um f _ y hf sxz hy))
    refine ⟨_, r1, ?_⟩
    have e : outU n U (f + 1) (U f x y) (U f (S f x y) z) = outU n U (f + 1) (U f x z) (U f (S f x z) y) := by
      unfold outU
      by_cases h2 : f + 2 < n
      · rw [if_pos h2, if_pos h2, t3 h2]
      · rw [if_neg h2, if_neg h2]
    simp only [u1] at r2 ⊢
    rw [t1, t2 h1, e]
    exact r2
  · have u0 : ∀ a b, outU n U f a b = 0 := fun a b => if_neg h1
    refine ⟨_, two y z hy hz, ?_⟩
    have r2 := two z y hz hy
    rw [← t1] at r2
    simp only [u0] at r2 ⊢
    exact r2
/-! ### floors by kinds -/
/-- those who go up are the same in all orders -/
def Even (m : Nat) (s u : Nat → Nat → Nat) : Prop := ∀ x y z, x < m → y < m → z < m → (u x y = u x z ∧ u (s x y) z = u (s x z) y) ∨ (u x y = u (s x z) y ∧ u (s x y) z = u x z)
def Forgets (m : Nat) (s u : Nat → Nat → Nat) : Prop := ∀ x y z w, x < m → y < m → z < m → w < m → s x y = s z w ∧ u x y = u z w
theorem tri_of (B : Tabs n m S U) (hs : ∀ f x y z, f < n → x < m → y < m → z < m → S f (S f x y) z = S f (S f x z) y) (hk : ∀ f, f + 1 < n → Even m (S f) (U f) ∨ Forgets m (S (f + 1)) (U (f + 1))) : Tri n m S U := by
  intro f x y z hf hx hy hz
  have sxy := B.sm f x y hf hx hy
  have sxz := B.sm f x z hf hx hz
  have b1 := B.um f x y hf hx hy
  have b2 := B.um f x z hf hx hz
  have b3 := B.um f _ z hf sxy hz
  have b4 := B.um f _ y hf sxz hy
  refine ⟨hs f x y z hf hx hy hz, fun h1 => ?_, fun h2 => ?_⟩
  · rcases hk f h1 with E | F
    · rcases E x y z hx hy hz with ⟨e1, e2⟩ | ⟨e1, e2⟩
      · rw [e1, e2]
      · rw [e1, e2]
        exact B.sc _ _ _ h1 b4 b2
    · exact (F _ _ _ _ b1 b3 b2 b4).1
  · have h1 : f + 1 < n := by omega
    rcases hk f h1 with E | F
    · rcases E x y z hx hy hz with ⟨e1, e2⟩ | ⟨e1, e2⟩
      · rw [e1, e2]
      · rw [e1, e2]
        exact B.uc _ _ _ h1 b4 b2
    · exact (F _ _ _ _ b1 b3 b2 b4).2
end
/-! ### the words of the law's houses -/
def word (kind a b m : Nat) : Nat := match kind with
  | 0 => max a b
  | 1 => (a + b) % m
  | 2 => 0
  | 3 => min (a + b) (m - 1)
  | 4 => a * b % m
  | _ => if a = b then a else m - 1
def goesAt (way a b m : Nat) : Nat := match way with
  | 0 => min a b
  | 1 => (a + b) / m
  | _ => 0
theorem word_facts : ∀ m < 7, ∀ kind < 6, ∀ a < m, ∀ b < m, word kind a b m < m ∧ word kind a b m = word kind b a m ∧ ∀ c < m, word kind (word kind a b m) c m = word kind (word kind a c m) b m := by decide +kernel
def evenAt (way kind a b c m : Nat) : Prop := (goesAt way a b m = goesAt way a c m ∧ goesAt way (word kind a b m) c m = goesAt way (word kind a c m) b m) ∨ (goesAt way a b m = goesAt way (word kind a c m) b m ∧ goesAt way (word kind a b m) c m = goesAt way a c m)
instance (way kind a b c m : Nat) : Decidable (evenAt way kind a b c m) := by unfold evenAt; exact inferInstance
theorem even0 : ∀ m < 7, ∀ a < m, ∀ b < m, ∀ c < m, evenAt 0 0 a b c m := by decide +kernel
theorem even1 : ∀ m < 7, ∀ a < m, ∀ b < m, ∀ c < m, evenAt 1 1 a b c m := by decide +kernel
theorem goes_facts {m way kind : Nat} (hm : m < 7) (hw : way < 3) (e : kind = way ∨ way = 2) {a b c : Nat} (ha : a < m) (hb : b < m) (hc : c < m) : evenAt way kind a b c m := by
  have : way = 0 ∨ way = 1 ∨ way = 2 := by omega
  rcases this with rfl | rfl | rfl
  · obtain rfl : kind = 0 := by omega
    exact even0 m hm a ha b hb c hc
  · obtain rfl : kind = 1 := by omega
    exact even1 m hm a ha b hb c hc
  · exact .inl ⟨rfl, rfl⟩
theorem goes_in {m way a b : Nat} (ha : a < m) (hb : b < m) : goesAt way a b m < m + 2 ∧ goesAt way a b m = goesAt way b a m := by
  unfold goesAt
  split
  · exact ⟨by omega, Nat.min_comm a b⟩
  · refine ⟨?_, by rw [Nat.add_comm]⟩
    have : (a + b) / m < 2 := Nat.div_lt_of_lt_mul (by omega)
    omega
  · exact ⟨by omega, rfl⟩
/-- numbers called otherwise, and back -/
structure Calls (m : Nat) (calls back : Nat → Nat) : Prop where
  cm : ∀ a, a < m → calls a < m
  bm : ∀ a, a < m → back a < m
  cb : ∀ a, a < m → calls (back a) = a
  bc : ∀ a, a < m → back (calls a) = a
def stayOf (kind m : Nat) (calls back : Nat → Nat) : Nat → Nat → Nat := fun a b => calls (word kind (back a) (back b) m)
def upOf (way m : Nat) (back goes : Nat → Nat) : Nat → Nat → Nat := fun a b => goes (goesAt way (back a) (back b) m)
theorem stay_facts {m kind : Nat} {calls back : Nat → Nat} (hm : m < 7) (hk : kind < 6) (C : Calls m calls back) {a b : Nat} (ha : a < m) (hb : b < m) :
    stayOf kind m calls back a b < m ∧ stayOf kind m calls back a b = stayOf kind m calls back b a ∧ ∀ c < m, stayOf kind m calls back (stayOf kind m calls back a b) c = stayOf kind m calls back (stayOf kind m calls back a c) b := by
  obtain ⟨h1, h2, h3⟩ := word_facts m hm kind hk _ (C.bm a ha) _ (C.bm b hb)
  refine ⟨C.cm _ h1, by unfold stayOf; rw [h2], fun c hc => ?_⟩
  have h4 := (word_facts m hm kind hk _ (C.bm a ha) _ (C.bm c hc)).1
  unfold stayOf
  rw [C.bc _ h1, C.bc _ h4, h3 _ (C.bm c hc)]
theorem up_even {m way kind : Nat} {calls back goes : Nat → Nat} (hm : m < 7) (hw : way < 3) (hk : kind < 6) (e : kind = way ∨ way = 2) (C : Calls m calls back) : Even m (stayOf kind m calls back) (upOf way m back goes) := by
  intro x y z hx hy hz
  have h1 := (word_facts m hm kind hk _ (C.bm x hx) _ (C.bm y hy)).1
  have h2 := (word_facts m hm kind hk _ (C.bm x hx) _ (C.bm z hz)).1
  have h3 := goes_facts hm hw e (C.bm x hx) (C.bm y hy) (C.bm z hz)
  unfold upOf stayOf
  rw [C.bc _ h1, C.bc _ h2]
  rcases h3 with ⟨g1, g2⟩ | ⟨g1, g2⟩
  · exact .inl ⟨by rw [g1], by rw [g2]⟩
  · exact .inr ⟨by rw [g1], by rw [g2]⟩
theorem forgets_of {m : Nat} {calls back back' goes : Nat → Nat} : Forgets m (stayOf 2 m calls back) (upOf 2 m back' goes) := fun x y z w _ _ _ _ => ⟨rfl, rfl⟩
end FmC
end FFmTri
section FFmBatch
/-! Many meetings of like people at once; rows of counts. Pure arithmetic, nothing of the model. -/
set_option linter.all false
namespace FmC
def addI (c : List Int) (i : Nat) (z : Int) : List Int := c.set i (c.getD i 0 + z)
def cnt (c : List Int) (a : Nat) : Nat := (c.getD a 0).toNat
def NN (c : List Int) : Prop := ∀ x ∈ c, 0 ≤ x
def rowSt (f : Nat) (c : List Int) : St := fun g a => if g = f then cnt c a else 0
def upsSt (n f : Nat) (r : List Int) : St := fun g a => if g = f + 1 then (if f + 1 < n then cnt r a else if a = 0 then r.sum.toNat else 0) else 0
def many (t : Nat) (s : St) : St := fun g a => t * s g a
theorem addI_len (c : List Int) (i : Nat) (z : Int) : (addI c i z).length = c.length := by unfold addI; rw [List.length_set]
theorem getD_addI {c : List Int} {i : Nat} (hi : i < c.length) (z : Int) (a : Nat) : (addI c i z).getD a 0 = if a = i then c.getD i 0 + z else c.getD a 0 := by
  unfold addI
  rw [List.getD_eq_getElem?_getD, List.getElem?_set]
  by_cases h : i = a
  · subst h
    rw [if_pos rfl, if_pos hi, if_pos rfl]
    rfl
  · rw [if_neg h, if_neg (Ne.symm h), List.getD_eq_getElem?_getD]
theorem NN.get {c : List Int} (h : NN c) (a : Nat) : 0 ≤ c.getD a 0 := by
  rw [List.getD_eq_getElem?_getD]
  cases e : c[a]? with
  | none => exact Int.le_refl _
  | some x => exact h x (List.mem_of_getElem? e)
theorem NN.cnt {c : List Int} (h : NN c) (a : Nat) : ((cnt c a : Nat) : Int) = c.getD a 0 := by
  have := h.get a
  show (((c.getD a 0).toNat : Nat) : Int) = _
  omega
theorem NN.add {c : List Int} (h : NN c) {i : Nat} {z : Int} (hz : 0 ≤ c.getD i 0 + z) : NN (addI c i z) := fun x hx => by
  rcases List.mem_or_eq_of_mem_set hx with q | rfl
  · exact h x q
  · exact hz
theorem sum_addI : ∀ {c : List Int} {i : Nat}, i < c.length → ∀ z, (addI c i z).sum = c.sum + z
  | x :: c, 0, _, z => by
    show (x + z) + c.sum = x + c.sum + z
    omega
  | x :: c, i + 1, h, z => by
    have := sum_addI (c := c) (i := i) (by simpa using h) z
    show x + (addI c i z).sum = x + c.sum + z
    omega
theorem NN.sum : ∀ {c : List Int}, NN c → 0 ≤ c.sum
  | [], _ => Int.le_refl _
  | x :: c, h => by
    have h1 := h x List.mem_cons_self
    have h2 := NN.sum (c := c) fun y hy => h y (List.mem_cons_of_mem _ hy)
    show 0 ≤ x + c.sum
    omega
section
variable {n m : Nat} {S U : Nat → Nat → Nat → Nat}
/-- t meetings of two alike -/
theorem run_many {f k : Nat} (hf : f < n) (hk : k < m) (e : St) : ∀ t, Run n m S U (e + many (2 * t) (one f k)) (e + many t (one f (S f k k)) + many t (one (f + 1) (U f k k)))
  | 0 => by
    have : e + many (2 * 0) (one f k) = e + many 0 (one f (S f k k)) + many 0 (one (f + 1) (U f k k)) := by
      funext p q; simp only [add_at, many, Nat.mul_zero, Nat.zero_mul, Nat.add_zero]
    rw [this]
    exact .nil _
  | t + 1 => by
    have ih := run_many hf hk (e + one f (S f k k) + one (f + 1) (U f k k)) t
    refine .cons ⟨e + many (2 * t) (one f k), f, k, k, hf, hk, hk, ?_, rfl⟩ ?_
    · funext p q
      simp only [add_at, many]
      rw [show 2 * (t + 1) = 2 * t + 2 from rfl, Nat.add_mul]
      omega
    · have e1 : e + many (2 * t) (one f k) + one f (S f k k) + one (f + 1) (U f k k) = e + one f (S f k k) + one (f + 1) (U f k k) + many (2 * t) (one f k) := by
        funext p q; simp only [add_at]; omega
      have e2 : e + many (t + 1) (one f (S f k k)) + many (t + 1) (one (f + 1) (U f k k)) = e + one f (S f k k) + one (f + 1) (U f k k) + many t (one f (S f k k)) + many t (one (f + 1) (U f k k)) := by
        funext p q; simp only [add_at, many, Nat.add_mul, Nat.one_mul]; omega
      rw [e1, e2]
      exact ih
theorem row_add {f i : Nat} {c : List Int} (hc : NN c) (hi : i < c.length) (t : Nat) : rowSt f (addI c i t) = rowSt f c + many t (one f i) := by
  funext g a
  simp only [add_at, rowSt, many]
  by_cases hg : g = f
  · subst hg
    rw [if_pos rfl, if_pos rfl]
    unfold cnt
    rw [getD_addI hi]
    by_cases ha : a = i
    · subst ha
      rw [if_pos rfl, one_self]
      have := hc.get a
      omega
    · rw [if_neg ha, one_ne (fun q => ha q.2)]
      omega
  · rw [if_neg hg, if_neg hg, one_ne (fun q => hg q.1)]
    omega
theorem row_take {f i : Nat} {c : List Int} (hc : NN c) (hi : i < c.length) {t : Nat} (ht : (t : Int) ≤ c.getD i 0) : rowSt f c = rowSt f (addI c i (-(t : Int))) + many t (one f i) := by
  have h1 : NN (addI c i (-(t : Int))) := hc.add (by omega)
  have h2 := row_add (f := f) h1 (by rw [addI_len]; exact hi) t (i := i)
  rw [← h2]
  congr 1
  unfold addI
  rw [List.set_set, List.getD_eq_getElem?_getD (l := c.set _ _), List.getElem?_set_self hi]
  show c = c.set i (c.getD i 0 + -↑t + ↑t)
  rw [show c.getD i 0 + -(t : Int) + t = c.getD i 0 by omega, List.getD_eq_getElem?_getD, List.getElem?_eq_getElem hi]
  exact (List.set_getElem_self hi).symm
theorem ups_add {f i : Nat} {r : List Int} (hr : NN r) (hi : i < r.length) (t : Nat) : upsSt n f (addI r i t) = upsSt n f r + many t (one (f + 1) (if f + 1 < n then i else 0)) := by
  funext g a
  simp only [add_at, upsSt, many]
  by_cases hg : g = f + 1
  · subst hg
    rw [if_pos rfl, if_pos rfl]
    by_cases hn : f + 1 < n
    · rw [if_pos hn, if_pos hn, if_pos hn]
      have := congrFun (congrFun (row_add (f := f + 1) hr hi t) (f + 1)) a
      simp only [add_at, rowSt, many, if_pos] at this
      exact this
    · rw [if_neg hn, if_neg hn, if_neg hn, sum_addI hi]
      have := hr.sum
      by_cases ha : a = 0
      · subst ha
        rw [if_pos rfl, if_pos rfl, one_self]
        omega
      · rw [if_neg ha, if_neg ha, one_ne (fun q => ha q.2)]
        omega
  · rw [if_neg hg, if_neg hg, one_ne (fun q => hg q.1)]
    omega
/-- what meet_all keeps: from c on the floor, nobody risen, to c' and r' -/
structure Met (n m : Nat) (S U : Nat → Nat → Nat → Nat) (f : Nat) (c0 c r : List Int) : Prop where
  cl : c.length = m
  rl : r.length = m
  cn : NN c
  rn : NN r
  run : Run n m S (outU n U) (rowSt f c0) (rowSt f c + upsSt n f r)
  sum : c.sum + r.sum = c0.sum
/-- t meetings of two alike, in rows -/
theorem Met.twos (B : Tabs n m S U) {f : Nat} {c0 c r : List Int} (h : Met n m S U f c0 c r) (hf : f < n) {k : Nat} (hk : k < m) (t : Nat) (ht : 2 * (t : Int) ≤ c.getD k 0) :
    Met n m S U f c0 (addI (addI c k (-(2 * (t : Int)))) (S f k k) t) (addI r (U f k k) t) := by
  have hs := B.sm f k k hf hk hk
  have hu := B.um f k k hf hk hk
  have n1 : NN (addI c k (-(2 * (t : Int)))) := h.cn.add (by omega)
  have l1 : (addI c k (-(2 * (t : Int)))).length = m := by rw [addI_len, h.cl]
  have n2 : NN (addI (addI c k (-(2 * (t : Int)))) (S f k k) t) := n1.add (by have := n1.get (S f k k); omega)
  have n3 : NN (addI r (U f k k) t) := h.rn.add (by have := h.rn.get (U f k k); omega)
  refine ⟨by rw [addI_len, l1], by rw [addI_len, h.rl], n2, n3, ?_, ?_⟩
  · refine h.run.trans ?_
    have e1 := row_take (f := f) h.cn (i := k) (by rw [h.cl]; exact hk) (t := 2 * t) (by omega)
    rw [show (-((2 * t : Nat) : Int)) = -(2 * (t : Int)) by omega] at e1
    rw [e1, row_add n1 (by rw [l1]; exact hs), ups_add h.rn (by rw [h.rl]; exact hu)]
    have := run_many (S := S) (U := outU n U) hf hk (rowSt f (addI c k (-(2 * (t : Int)))) + upsSt n f r) t
    rw [show rowSt f (addI c k (-(2 * (t : Int)))) + many (2 * t) (one f k) + upsSt n f r = rowSt f (addI c k (-(2 * (t : Int)))) + upsSt n f r + many (2 * t) (one f k) from by funext p q; simp only [add_at]; omega]
    rw [show rowSt f (addI c k (-(2 * (t : Int)))) + many t (one f (S f k k)) + (upsSt n f r + many t (one (f + 1) (if f + 1 < n then U f k k else 0))) = rowSt f (addI c k (-(2 * (t : Int)))) + upsSt n f r + many t (one f (S f k k)) + many t (one (f + 1) (outU n U f k k)) from by
      show _ = _ + many t (one (f + 1) (if f + 1 < n then U f k k else 0))
      funext p q; simp only [add_at]; omega]
    exact this
  · rw [sum_addI (by rw [l1]; exact hs), sum_addI (by rw [h.cl]; exact hk), sum_addI (by rw [h.rl]; exact hu)]
    have := h.sum
    omega
/-- one meeting of two unlike, in rows -/
theorem Met.pair (B : Tabs n m S U) {f : Nat} {c0 c r : List Int} (h : Met n m S U f c0 c r) (hf : f < n) {a b : Nat} (ha : a < m) (hb : b < m) (hab : a ≠ b) (h1 : 1 ≤ c.getD a 0) (h2 : 1 ≤ c.getD b 0) :
    Met n m S U f c0 (addI (addI (addI c a (-1)) b (-1)) (S f a b) 1) (addI r (U f a b) 1) := by
  have hs := B.sm f a b hf ha hb
  have hu := B.um f a b hf ha hb
  have n1 : NN (addI c a (-1)) := h.cn.add (by omega)
  have l1 : (addI c a (-1)).length = m := by rw [addI_len, h.cl]
  have g1 : (addI c a (-1)).getD b 0 = c.getD b 0 := by rw [getD_addI (by rw [h.cl]; exact ha), if_neg (Ne.symm hab)]
  have n2 : NN (addI (addI c a (-1)) b (-1)) := n1.add (by omega)
  have l2 : (addI (addI c a (-1)) b (-1)).length = m := by rw [addI_len, l1]
  have n3 : NN (addI (addI (addI c a (-1)) b (-1)) (S f a b) 1) := n2.add (by have := n2.get (S f a b); omega)
  have n4 : NN (addI r (U f a b) 1) := h.rn.add (by have := h.rn.get (U f a b); omega)
  refine ⟨by rw [addI_len, l2], by rw [addI_len, h.rl], n3, n4, ?_, ?_⟩
  · refine h.run.trans ?_
    have e1 := row_take (f := f) h.cn (i := a) (by rw [h.cl]; exact ha) (t := 1) (by omega)
    have e2 := row_take (f := f) n1 (i := b) (by rw [l1]; exact hb) (t := 1) (by omega)
    have e3 := row_add (f := f) n2 (i := S f a b) (by rw [l2]; exact hs) 1
    have e4 := ups_add (n := n) (f := f) h.rn (i := U f a b) (by rw [h.rl]; exact hu) 1
    rw [show (-((1 : Nat) : Int)) = -1 from rfl] at e1 e2
    rw [show ((1 : Nat) : Int) = 1 from rfl] at e3 e4
    rw [e1, e2, e3, e4]
    refine .one ⟨rowSt f (addI (addI c a (-1)) b (-1)) + upsSt n f r, f, a, b, hf, ha, hb, ?_, ?_⟩
    · funext p q; simp only [add_at, many, Nat.one_mul]; omega
    · show _ = _ + _ + one (f + 1) (if f + 1 < n then U f a b else 0)
      funext p q; simp only [add_at, many, Nat.one_mul]; omega
  · rw [sum_addI (by rw [l2]; exact hs), sum_addI (by rw [l1]; exact hb), sum_addI (by rw [h.cl]; exact ha), sum_addI (by rw [h.rl]; exact hu)]
    have := h.sum
    omega
end
/-- who is here -/
def here (c : List Int) : List Nat := (List.range c.length).filter fun k => decide (c.getD k 0 ≠ 0)
end FmC
namespace FmC
section
variable {n m : Nat} {S U : Nat → Nat → Nat → Nat}
theorem met_start {f : Nat} {c : List Int} (hl : c.length = m) (hc : NN c) : Met n m S U f c c (List.replicate m 0) := by
  have z : ∀ a, (List.replicate m (0 : Int)).getD a 0 = 0 := fun a => by
    rw [List.getD_eq_getElem?_getD, List.getElem?_replicate]
    split <;> rfl
  have s : ∀ k, (List.replicate k (0 : Int)).sum = 0 := fun k => by
    induction k with
    | zero => rfl
    | succ k ih => rw [List.replicate_succ, List.sum_cons, ih]; rfl
  have u : upsSt n f (List.replicate m 0) = fun _ _ => 0 := by
    funext g a
    unfold upsSt cnt
    rw [z, s]
    simp
  refine ⟨hl, List.length_replicate, hc, fun x hx => by rw [List.eq_of_mem_replicate hx]; exact Int.le_refl _, ?_, by rw [s]; omega⟩
  have : rowSt f c + upsSt n f (List.replicate m 0) = rowSt f c := by
    rw [u]
    funext g a
    simp only [add_at]
    omega
  rw [this]
  exact .nil _
/-- rows of none and one -/
theorem sum_here {c : List Int} (hc : NN c) (h1 : ∀ k, k < c.length → c.getD k 0 ≤ 1) : ∀ i, i ≤ c.length → (c.take i).sum = (((List.range i).filter fun k => decide (c.getD k 0 ≠ 0)).length : Nat)
  | 0, _ => rfl
  | i + 1, hi => by
    have ih := sum_here hc h1 i (by omega)
    have hg : c[i]? = some (c.getD i 0) := by rw [List.getD_eq_getElem?_getD, List.getElem?_eq_getElem (by omega)]; rfl
    rw [List.take_add_one, hg, List.sum_append, ih, List.range_succ, List.filter_append, List.length_append]
    have a := hc.get i
    have b := h1 i (by omega)
    by_cases z : c.getD i 0 = 0
    · rw [z, show ([i].filter fun k => decide (c.getD k 0 ≠ 0)) = [] from by
        rw [List.filter_cons, if_neg (by rw [decide_eq_false (fun q => q z)]; decide)]; rfl]
      rfl
    · have e : c.getD i 0 = 1 := by omega
      rw [show ([i].filter fun k => decide (c.getD k 0 ≠ 0)) = [i] from by
        rw [List.filter_cons, if_pos (decide_eq_true z)]; rfl, e]
      show _ + (1 + 0 : Int) = ((_ + 1 : Nat) : Int)
      omega
theorem here_sum {c : List Int} (hc : NN c) (h1 : ∀ k, k < c.length → c.getD k 0 ≤ 1) : c.sum = ((here c).length : Nat) := by
  have := sum_here hc h1 c.length (Nat.le_refl _)
  rw [List.take_length] at this
  exact this
theorem here_mem {c : List Int} {k : Nat} (h : k ∈ here c) : k < c.length ∧ c.getD k 0 ≠ 0 := by
  unfold here at h
  rw [List.mem_filter, List.mem_range] at h
  exact ⟨h.1, of_decide_eq_true h.2⟩
theorem here_two {c : List Int} {a b : Nat} {l : List Nat} (h : here c = a :: b :: l) : a ≠ b := by
  have nd : (here c).Nodup := (List.nodup_range).filter _
  rw [h] at nd
  intro e
  subst e
  simp at nd
end
theorem addI_zero (c : List Int) (i : Nat) : addI c i 0 = c := by
  unfold addI
  rw [show c.getD i 0 + 0 = c.getD i 0 by omega, List.getD_eq_getElem?_getD]
  cases e : c[i]? with
  | none => exact List.set_eq_of_length_le (List.getElem?_eq_none_iff.mp e)
  | some x =>
    obtain ⟨h, rfl⟩ := List.getElem?_eq_some_iff.mp e
    exact List.set_getElem_self h
theorem addI_zero2 (c : List Int) (i j : Nat) : addI (addI c i (-(2 * ((0 : Nat) : Int)))) j ((0 : Nat) : Int) = c := by
  show addI (addI c i (-(2 * 0))) j 0 = c
  rw [show (-(2 * 0) : Int) = 0 from rfl, addI_zero, addI_zero]
end FmC
end FFmBatch
section FFmEnds
/-! Floor by floor to the end. Pure arithmetic, nothing of the model. -/
set_option linter.all false
namespace FmC
def stSt (n : Nat) (rows : List (List Int)) (out : Int) : St := fun g a => if g < n then cnt (rows.getD g []) a else if g = n ∧ a = 0 then out.toNat else 0
/-- the floors below i are told, r come to floor i -/
def curSt (n : Nat) (rows : List (List Int)) (out : Int) (i : Nat) (told : List (List Int)) (r : List Int) : St := fun g a =>
  (if g < i then cnt (told.getD g []) a else if g < n then cnt (rows.getD g []) a else if g = n ∧ a = 0 then out.toNat else 0) + (if g = i then (if i < n then cnt r a else if a = 0 then r.sum.toNat else 0) else 0)
def addR (c r : List Int) : List Int := List.zipWith (· + ·) c r
theorem addR_len {c r : List Int} {m : Nat} (h1 : c.length = m) (h2 : r.length = m) : (addR c r).length = m := by unfold addR; rw [List.length_zipWith]; omega
theorem addR_get {c r : List Int} (h : c.length = r.length) (a : Nat) : (addR c r).getD a 0 = c.getD a 0 + r.getD a 0 := by
  unfold addR
  rw [List.getD_eq_getElem?_getD, List.getD_eq_getElem?_getD, List.getD_eq_getElem?_getD, List.getElem?_zipWith]
  by_cases ha : a < c.length
  · rw [List.getElem?_eq_getElem ha, List.getElem?_eq_getElem (by omega)]
    rfl
  · rw [List.getElem?_eq_none (by omega), List.getElem?_eq_none (by omega)]
    rfl
theorem addR_nn {c r : List Int} (hc : NN c) (hr : NN r) : NN (addR c r) := fun x hx => by
  unfold addR at hx
  obtain ⟨i, hi⟩ := List.mem_iff_getElem?.mp hx
  rw [List.getElem?_zipWith] at hi
  cases e1 : c[i]? with
  | none => rw [e1] at hi; cases hi
  | some p =>
    cases e2 : r[i]? with
    | none => rw [e1, e2] at hi; cases hi
    | some q =>
      rw [e1, e2] at hi
      cases hi
      have h1 := hc p (List.mem_of_getElem? e1)
      have h2 := hr q (List.mem_of_getElem? e2)
      show 0 ≤ p + q
      omega
theorem addR_sum : ∀ {c r : List Int}, c.length = r.length → (addR c r).sum = c.sum + r.sum
  | [], [], _ => rfl
  | x :: c, y :: r, h => by
    have := addR_sum (c := c) (r := r) (by simpa using h)
    show (x + y) + (addR c r).sum = (x + c.sum) + (y + r.sum)
    omega
section
variable {n m : Nat} {S U : Nat → Nat → Nat → Nat}
theorem cur_start (rows : List (List Int)) (out : Int) (hn : 1 ≤ n) : curSt n rows out 0 [] (List.replicate m 0) = stSt n rows out := by
  funext g a
  unfold curSt stSt
  rw [if_neg (Nat.not_lt_zero g)]
  by_cases h : g = 0
  · subst h
    have hn0 : 0 < n := by omega
    simp only [if_pos hn0, if_true]
    have : cnt (List.replicate m (0 : Int)) a = 0 := by
      unfold cnt
      rw [List.getD_eq_getElem?_getD, List.getElem?_replicate]
      split <;> rfl
    rw [this]
    omega
  · rw [if_neg h]
    omega
theorem cur_step {rows : List (List Int)} {out : Int} {i : Nat} {told : List (List Int)} {c r c' r' : List Int} (hi : i < n) (hc : rows[i]? = some c) (hcl : c.length = m) (hrl : r.length = m) (hcn : NN c) (hrn : NN r) (ht : told.length = i) (M : Met n m S U i (addR c r) c' r') :
    Run n m S (outU n U) (curSt n rows out i told r) (curSt n rows out (i + 1) (told ++ [c']) r') := by
  have hgd : rows.getD i [] = c := by rw [List.getD_eq_getElem?_getD, hc]; rfl
  have e1 : curSt n rows out i told r = (fun g a => if g < i then cnt (told.getD g []) a else if g = i then 0 else if g < n then cnt (rows.getD g []) a else if g = n ∧ a = 0 then out.toNat else 0) + rowSt i (addR c r) := by
    funext g a
    simp only [add_at]
    unfold curSt rowSt
    by_cases h : g = i
    · subst h
      rw [if_neg (Nat.lt_irrefl _), if_pos hi, if_pos rfl, if_pos hi, if_neg (Nat.lt_irrefl _), if_pos rfl, if_pos rfl, hgd]
      unfold cnt
      rw [addR_get (by omega)]
      have := hcn.get a
      have := hrn.get a
      omega
    · rw [if_neg h, if_neg h, if_neg h]
  have e2 : curSt n rows out (i + 1) (told ++ [c']) r' = (fun g a => if g < i then cnt (told.getD g []) a else if g = i then 0 else if g < n then cnt (rows.getD g []) a else if g = n ∧ a = 0 then out.toNat else 0) + (rowSt i c' + upsSt n i r') := by
    funext g a
    simp only [add_at]
    unfold curSt rowSt upsSt
    by_cases h : g = i
    · subst h
      rw [if_pos (Nat.lt_succ_self _), if_neg (by omega : ¬ g = g + 1), if_neg (Nat.lt_irrefl _), if_pos rfl, if_pos rfl]
      have : (told ++ [c']).getD g [] = c' := by
        rw [List.getD_eq_getElem?_getD, List.getElem?_append_right (by omega), ht, Nat.sub_self]
        rfl
      rw [this]
      omega
    · rw [if_neg h, if_neg h]
      by_cases h2 : g < i
      · rw [if_pos (by omega : g < i + 1), if_pos h2, if_neg (by omega : ¬ g = i + 1)]
        have : (told ++ [c']).getD g [] = told.getD g [] := by
          rw [List.getD_eq_getElem?_getD, List.getElem?_append_left (by omega), List.getD_eq_getElem?_getD]
        rw [this]
      · rw [if_neg (by omega : ¬ g < i + 1), if_neg h2]
        omega
  rw [e1, e2]
  exact M.run.beside _
theorem cur_end {rows told : List (List Int)} {out : Int} {r : List Int} (hr : NN r) (ho : 0 ≤ out) : curSt n rows out n told r = stSt n told (out + r.sum) := by
  funext g a
  unfold curSt stSt
  by_cases h : g < n
  · rw [if_pos h, if_pos h, if_neg (by omega : ¬ g = n)]
    omega
  · rw [if_neg h, if_neg h, if_neg h]
    by_cases e : g = n
    · subst e
      rw [if_pos rfl, if_neg (Nat.lt_irrefl _)]
      have := hr.sum
      by_cases z : a = 0
      · rw [if_pos ⟨rfl, z⟩, if_pos z, if_pos ⟨rfl, z⟩]
        omega
      · rw [if_neg (fun q => z q.2), if_neg z, if_neg (fun q => z q.2)]
    · rw [if_neg e, if_neg (fun q => e q.1), if_neg (fun q => e q.1)]
end
end FmC
end FFmEnds
section FFmHeaps
/-! Heaps of people, told one by one, as counts. Pure, nothing of the model. -/
set_option linter.all false
namespace FmC
/-- n floors of people told one by one, behind them those who went out -/
def hsSt (n : Nat) (hs : List (List Nat)) (out : Nat) : St := fun g a => if g < n then (hs.getD g []).count a else if g = n ∧ a = 0 then out + (hs.getD n []).length else 0
theorem one_at (f a g b : Nat) : one f a g b = if g = f then (if b = a then 1 else 0) else 0 := by
  unfold one
  by_cases h : g = f
  · by_cases k : b = a
    · rw [if_pos ⟨h, k⟩, if_pos h, if_pos k]
    · rw [if_neg (fun q => k q.2), if_pos h, if_neg k]
  · rw [if_neg (fun q => h q.1), if_neg h]
theorem count_one (l : List Nat) (a x : Nat) : (a :: l).count x = l.count x + if x = a then 1 else 0 := by
  rw [List.count_cons]
  by_cases h : x = a
  · subst h
    rw [if_pos (beq_self_eq_true x), if_pos rfl]
  · rw [if_neg (by simpa using Ne.symm h), if_neg h]
theorem count_snoc (l : List Nat) (a x : Nat) : (l ++ [a]).count x = l.count x + if x = a then 1 else 0 := by
  rw [List.count_append, count_one]
  simp
theorem getD_set_same {α : Type} (l : List α) (i : Nat) (x d : α) (h : i < l.length) : (l.set i x).getD i d = x := by
  rw [List.getD_eq_getElem?_getD, List.getElem?_set_self h]
  rfl
theorem getD_set_ne {α : Type} (l : List α) (i j : Nat) (x d : α) (h : i ≠ j) : (l.set i x).getD j d = l.getD j d := by
  rw [List.getD_eq_getElem?_getD, List.getElem?_set_ne h, List.getD_eq_getElem?_getD]
theorem hs_step {n m : Nat} {S U : Nat → Nat → Nat → Nat} {hs : List (List Nat)} {out f a b : Nat} {h u rest : List Nat} (hf : f < n) (hl : hs.length = n + 1) (hh : hs[f]? = some h) (hu : hs[f + 1]? = some u) (hp : h.Perm (a :: b :: rest)) (ha : a < m) (hb : b < m) :
    Step n m S (outU n U) (hsSt n hs out) (hsSt n ((hs.set f (rest ++ [S f a b])).set (f + 1) (u ++ [U f a b])) out) := by
  have eh : hs.getD f [] = h := by rw [List.getD_eq_getElem?_getD, hh]; rfl
  have eu : hs.getD (f + 1) [] = u := by rw [List.getD_eq_getElem?_getD, hu]; rfl
  refine ⟨fun g x => if g = f then rest.count x else hsSt n hs out g x, f, a, b, hf, ha, hb, ?_, ?_⟩
  · funext g x
    simp only [add_at, one_at]
    by_cases hg : g = f
    · subst hg
      rw [if_pos rfl, if_pos rfl, if_pos rfl]
      unfold hsSt
      rw [if_pos hf, eh, hp.count_eq, count_one, count_one]
      omega
    · rw [if_neg hg, if_neg hg, if_neg hg]
      omega
  · funext g x
    simp only [add_at, one_at]
    by_cases hg : g = f
    · subst hg
      rw [if_pos rfl, if_pos rfl, if_neg (by omega : ¬ g = g + 1)]
      unfold hsSt
      rw [if_pos hf, getD_set_ne _ _ _ _ _ (by omega), getD_set_same _ _ _ _ (by omega), count_snoc]
      omega
    · rw [if_neg hg, if_neg hg]
      by_cases h1 : g = f + 1
      · subst h1
        rw [if_pos rfl]
        unfold hsSt outU
        by_cases hn : f + 1 < n
        · rw [if_pos hn, if_pos hn, if_pos hn, getD_set_same _ _ _ _ (by rw [List.length_set]; omega), eu, count_snoc]
          omega
        · have en : f + 1 = n := by omega
          rw [if_neg hn, if_neg hn, if_neg hn, ← en, getD_set_same _ _ _ _ (by rw [List.length_set]; omega), eu, List.length_append]
          by_cases z : x = 0
          · rw [if_pos ⟨rfl, z⟩, if_pos ⟨rfl, z⟩, if_pos z]
            show out + (u.length + 1) = _
            omega
          · rw [if_neg (fun q => z q.2), if_neg (fun q => z q.2), if_neg z]
      · rw [if_neg h1]
        unfold hsSt
        by_cases hn : g < n
        · rw [if_pos hn, if_pos hn, getD_set_ne _ _ _ _ _ (Ne.symm h1), getD_set_ne _ _ _ _ _ (Ne.symm hg)]
          omega
        · rw [if_neg hn, if_neg hn]
          by_cases e : g = n
          · subst e
            rw [getD_set_ne _ _ _ _ _ (Ne.symm h1), getD_set_ne _ _ _ _ _ (Ne.symm hg)]
            omega
          · rw [if_neg (fun q => e q.1), if_neg (fun q => e q.1)]
end FmC
end FFmHeaps
section FFmStill
/-! Heaps and rows at rest; how many meetings heaps can have. Pure, nothing of the model. -/
set_option linter.all false
namespace FmC
theorem sum_count (m : Nat) (l : List Nat) : sumTo m (fun x => l.count x) ≤ l.length := by
  induction l with
  | nil =>
    have : (fun x => ([] : List Nat).count x) = fun _ => 0 := by funext x; rfl
    rw [this, sumTo_zero]
    exact Nat.le_refl _
  | cons a l ih =>
    have : (fun x => (a :: l).count x) = fun x => l.count x + if x = a then 1 else 0 := by funext x; exact count_one l a x
    rw [this, sumTo_add, List.length_cons]
    by_cases h : a < m
    · rw [sumTo_at h]
      omega
    · rw [sumTo_out (by omega)]
      omega
theorem sumTo_le {k : Nat} {g h : Nat → Nat} (e : ∀ i, i < k → g i ≤ h i) : sumTo k g ≤ sumTo k h := by
  induction k with
  | zero => exact Nat.le_refl _
  | succ k ih =>
    have := ih fun i hi => e i (by omega)
    have := e k (by omega)
    simp only [sumTo]
    omega
theorem getD_len {hs : List (List Nat)} {k : Nat} (h : ∀ x ∈ hs, x.length ≤ k) (f : Nat) : (hs.getD f []).length ≤ k := by
  rw [List.getD_eq_getElem?_getD]
  cases e : hs[f]? with
  | none => exact Nat.zero_le _
  | some x => exact h x (List.mem_of_getElem? e)
theorem tall_heaps {n m : Nat} {hs : List (List Nat)} {out : Nat} (hn : n ≤ 4) (h : ∀ x ∈ hs, x.length ≤ 60) : tall n m (hsSt n hs out) ≤ 600 := by
  have h1 : tall n m (hsSt n hs out) ≤ sumTo n fun f => (n - f) * 60 := by
    refine sumTo_le fun f hf => Nat.mul_le_mul_left _ ?_
    have : hsSt n hs out f = fun x => (hs.getD f []).count x := by
      funext x
      unfold hsSt
      rw [if_pos hf]
    rw [this]
    exact Nat.le_trans (sum_count _ _) (getD_len h f)
  have h2 : sumTo n (fun f => (n - f) * 60) ≤ 600 := by
    have : n = 0 ∨ n = 1 ∨ n = 2 ∨ n = 3 ∨ n = 4 := by omega
    rcases this with rfl | rfl | rfl | rfl | rfl <;> decide
  omega
theorem sum_one {m f a : Nat} (h : a < m) : sumTo m (one f a f) = 1 := by
  rw [show one f a f = fun b => if b = a then 1 else 0 from by funext b; simp [one]]
  exact sumTo_at h 1
/-- where there is at most one on a floor, nobody can meet -/
theorem still_of {n m : Nat} {S U : Nat → Nat → Nat → Nat} {c : St} (h : ∀ f, f < n → sumTo m (c f) ≤ 1) : Still n m S U c := by
  rintro d ⟨e, f, a, b, hf, ha, hb, rfl, _⟩
  have h1 := h f hf
  have : (e + one f a + one f b) f = fun x => e f x + one f a f x + one f b f x := rfl
  rw [this, sumTo_add, sumTo_add] at h1
  have h2 := sum_one (f := f) ha
  have h3 := sum_one (f := f) hb
  have h4 : sumTo m (fun x => one f a f x) = 1 := h2
  have h5 : sumTo m (fun x => one f b f x) = 1 := h3
  omega
theorem hs_still {n m : Nat} {S U : Nat → Nat → Nat → Nat} {hs : List (List Nat)} {out : Nat} (h : ∀ f, f < n → (hs.getD f []).length ≤ 1) : Still n m S U (hsSt n hs out) := still_of fun f hf => by
  have : hsSt n hs out f = fun x => (hs.getD f []).count x := by
    funext x
    unfold hsSt
    rw [if_pos hf]
  rw [this]
  exact Nat.le_trans (sum_count _ _) (h f hf)
theorem sum_cnt : ∀ {m : Nat} {c : List Int}, NN c → ((sumTo m (cnt c) : Nat) : Int) ≤ c.sum
  | m, [], _ => by
    have : cnt [] = fun _ => 0 := by
      funext a
      unfold cnt
      rw [List.getD_eq_getElem?_getD]
      rfl
    rw [this, sumTo_zero]
    exact Int.le_refl _
  | 0, c, h => h.sum
  | m + 1, x :: c, h => by
    have ih := sum_cnt (m := m) (c := c) fun y hy => h y (List.mem_cons_of_mem _ hy)
    have hx := h x List.mem_cons_self
    have e : ∀ k, sumTo (k + 1) (cnt (x :: c)) = x.toNat + sumTo k (cnt c) := fun k => by
      induction k with
      | zero => simp only [sumTo]; show 0 + cnt (x :: c) 0 = x.toNat + 0; unfold cnt; rw [List.getD_cons_zero]; omega
      | succ k ih =>
        rw [sumTo, ih, sumTo]
        have : cnt (x :: c) (k + 1) = cnt c k := by unfold cnt; rw [List.getD_cons_succ]
        omega
    rw [e m, List.sum_cons]
    omega
theorem st_still {n m : Nat} {S U : Nat → Nat → Nat → Nat} {rows : List (List Int)} {out : Int} (h : ∀ r ∈ rows, NN r ∧ r.sum ≤ 1) : Still n m S U (stSt n rows out) := still_of fun f hf => by
  have : stSt n rows out f = cnt (rows.getD f []) := by
    funext x
    unfold stSt
    rw [if_pos hf]
  rw [this]
  have h1 : NN (rows.getD f []) ∧ (rows.getD f []).sum ≤ 1 := by
    rw [List.getD_eq_getElem?_getD]
    cases e : rows[f]? with
    | none => exact ⟨(fun x hx => by cases hx), (by decide)⟩
    | some x => exact h x (List.mem_of_getElem? e)
  have h2 := sum_cnt (m := m) h1.1
  omega
/-- counts of a heap as a row -/
theorem hs_rows {n m : Nat} {hs : List (List Nat)} {out : Nat} {rows : List (List Int)} (hl : hs.length = n) (hr : rows.length = n) (hm : ∀ h ∈ hs, ∀ x ∈ h, x < m)
    (e : ∀ (f : Nat) (h : List Nat) (r : List Int), hs[f]? = some h → rows[f]? = some r → r.length = m ∧ ∀ a, a < m → r[a]? = some ((h.count a : Nat) : Int)) : hsSt n (hs ++ [[]]) out = stSt n rows (out : Int) := by
  funext g a
  unfold hsSt stSt
  by_cases hg : g < n
  · rw [if_pos hg, if_pos hg]
    have h1 : (hs ++ [[]])[g]? = some (hs[g]'(by omega)) := by rw [List.getElem?_append_left (by omega), List.getElem?_eq_getElem]
    have h2 : rows[g]? = some (rows[g]'(by omega)) := List.getElem?_eq_getElem _
    obtain ⟨e1, e2⟩ := e g _ _ (List.getElem?_eq_getElem (by omega)) h2
    rw [List.getD_eq_getElem?_getD, List.getD_eq_getElem?_getD, h1, h2]
    show List.count a (hs[g]'(by omega)) = cnt (rows[g]'(by omega)) a
    unfold cnt
    by_cases ha : a < m
    · rw [List.getD_eq_getElem?_getD, e2 a ha]
      rfl
    · rw [List.getD_eq_getElem?_getD, List.getElem?_eq_none (by omega)]
      exact List.count_eq_zero.mpr fun q => ha (hm _ (List.getElem_mem _) a q)
  · rw [if_neg hg, if_neg hg]
    by_cases z : g = n ∧ a = 0
    · rw [if_pos z, if_pos z]
      have : ((hs ++ [[]]).getD n []).length = 0 := by
        rw [List.getD_eq_getElem?_getD, List.getElem?_append_right (by omega), hl, Nat.sub_self]
        rfl
      omega
    · rw [if_neg z, if_neg z]
/-- heaps at rest that are as rows at rest -/
theorem rest_rows {n m : Nat} {hs : List (List Nat)} {out : Nat} {rows : List (List Int)} {out' : Int} (hl : hs.length = n + 1) (h1 : ∀ f, f < n → (hs.getD f []).length ≤ 1) (hr : rows.length = n) (ho : 0 ≤ out') (rr : ∀ r ∈ rows, r.length = m ∧ NN r)
    (e : hsSt n hs out = stSt n rows out') : out' = ((out + (hs.getD n []).length : Nat) : Int) ∧ ∀ (f : Nat) (r : List Int), rows[f]? = some r → r = (List.range m).map fun k : Nat => if (hs.getD f []).head? = some k then (1 : Int) else 0 := by
  constructor
  · have := congrFun (congrFun e n) 0
    unfold hsSt stSt at this
    rw [if_neg (Nat.lt_irrefl n), if_neg (Nat.lt_irrefl n), if_pos ⟨rfl, rfl⟩, if_pos ⟨rfl, rfl⟩] at this
    omega
  · intro f r hfr
    have hf : f < n := by
      have := (List.getElem?_eq_some_iff.mp hfr).1
      omega
    obtain ⟨rl, rn⟩ := rr r (List.mem_of_getElem? hfr)
    have hh := h1 f hf
    refine List.ext_getElem (by rw [rl, List.length_map, List.length_range]) fun a p1 p2 => ?_
    rw [List.getElem_map, List.getElem_range]
    have := congrFun (congrFun e f) a
    unfold hsSt stSt at this
    rw [if_pos hf, if_pos hf] at this
    have e3 : rows.getD f [] = r := by rw [List.getD_eq_getElem?_getD, hfr]; rfl
    have e4 := rn.cnt a
    rw [e3] at this
    have e5 : r.getD a 0 = r[a] := by rw [List.getD_eq_getElem?_getD, List.getElem?_eq_getElem p1]; rfl
    rw [e5, ← this] at e4
    rw [← e4]
    generalize hs.getD f [] = h at *
    match h, hh with
    | [], _ => rfl
    | [x], _ =>
      rw [count_one]
      show (((0 + if a = x then 1 else 0 : Nat) : Nat) : Int) = if some x = some a then 1 else 0
      by_cases z : a = x
      · rw [if_pos z, if_pos (by rw [z])]
        rfl
      · rw [if_neg z, if_neg (fun q => z (by cases q; rfl))]
        rfl
def endRow (m : Nat) (o : Option Nat) : List Int := (List.range m).map fun k : Nat => if o = some k then 1 else 0
theorem endRow_len (m : Nat) (o : Option Nat) : (endRow m o).length = m := by unfold endRow; rw [List.length_map, List.length_range]
theorem endRow_nn (m : Nat) (o : Option Nat) : NN (endRow m o) := fun x hx => by
  obtain ⟨k, _, rfl⟩ := List.mem_map.mp hx
  split <;> decide
theorem endRow_cnt (m : Nat) (o : Option Nat) (a : Nat) : cnt (endRow m o) a = if a < m ∧ o = some a then 1 else 0 := by
  unfold cnt endRow
  rw [List.getD_eq_getElem?_getD, List.getElem?_map]
  by_cases ha : a < m
  · rw [List.getElem?_range ha]
    show Int.toNat (if o = some a then 1 else 0) = _
    by_cases h : o = some a
    · rw [if_pos h, if_pos ⟨ha, h⟩]
      rfl
    · rw [if_neg h, if_neg (fun q => h q.2)]
      rfl
  · rw [List.getElem?_eq_none (by rw [List.length_range]; omega), if_neg (fun q => ha q.1)]
    rfl
theorem sum_map_one (o : Option Nat) : ∀ m : Nat, ((List.range m).map fun k : Nat => if o = some k then (1 : Int) else 0).sum = if ∃ k, k < m ∧ o = some k then 1 else 0
  | 0 => by
    rw [if_neg (by rintro ⟨k, h, _⟩; omega)]
    rfl
  | m + 1 => by
    rw [List.range_succ, List.map_append, List.sum_append, sum_map_one o m]
    show _ + ((if o = some m then (1 : Int) else 0) + 0) = _
    by_cases h : o = some m
    · have e1 : ¬ ∃ k, k < m ∧ o = some k := by
        rintro ⟨k, hk, e⟩
        rw [h] at e
        cases e
        omega
      rw [if_pos h, if_neg e1, if_pos (⟨m, Nat.lt_succ_self m, h⟩ : ∃ k, k < m + 1 ∧ o = some k)]
      rfl
    · rw [if_neg h]
      by_cases q : ∃ k, k < m ∧ o = some k
      · rw [if_pos q, if_pos (by obtain ⟨k, hk, e⟩ := q; exact ⟨k, by omega, e⟩)]
        rfl
      · rw [if_neg q, if_neg (by
          rintro ⟨k, hk, e⟩
          by_cases z : k = m
          · exact h (by rw [e, z])
          · exact q ⟨k, by omega, e⟩)]
        rfl
theorem endRow_sum (m : Nat) (o : Option Nat) : (endRow m o).sum ≤ 1 := by
  unfold endRow
  rw [sum_map_one]
  split <;> decide
/-- heaps at rest as rows -/
theorem hs_end {n m : Nat} {hs : List (List Nat)} {out : Nat} (hl : hs.length = n + 1) (hm : ∀ h ∈ hs, ∀ x ∈ h, x < m) (h1 : ∀ f, f < n → (hs.getD f []).length ≤ 1) :
    hsSt n hs out = stSt n (((hs.take n).map List.head?).map (endRow m)) ((out + (hs.getD n []).length : Nat) : Int) := by
  funext g a
  unfold hsSt stSt
  by_cases hg : g < n
  · rw [if_pos hg, if_pos hg]
    have e : (((hs.take n).map List.head?).map (endRow m)).getD g [] = endRow m (hs.getD g []).head? := by
      rw [List.getD_eq_getElem?_getD, List.getElem?_map, List.getElem?_map, List.getElem?_take_of_lt hg, List.getElem?_eq_getElem (show g < hs.length by omega), List.getD_eq_getElem?_getD, List.getElem?_eq_getElem (show g < hs.length by omega)]
      rfl
    rw [e, endRow_cnt]
    have hh := h1 g hg
    have hm' : ∀ x ∈ hs.getD g [], x < m := fun x hx => by
      rw [List.getD_eq_getElem?_getD, List.getElem?_eq_getElem (show g < hs.length by omega)] at hx
      exact hm _ (List.getElem_mem _) x hx
    generalize hs.getD g [] = h at *
    match h, hh with
    | [], _ => rw [if_neg (fun q => by cases q.2)]; rfl
    | [x], _ =>
      rw [count_one]
      show 0 + (if a = x then 1 else 0) = if a < m ∧ some x = some a then 1 else 0
      have hx := hm' x List.mem_cons_self
      by_cases z : a = x
      · rw [if_pos z, if_pos ⟨by omega, by rw [z]⟩]
      · rw [if_neg z, if_neg (fun q => z (by cases q.2; rfl))]
  · rw [if_neg hg, if_neg hg]
    by_cases z : g = n ∧ a = 0
    · rw [if_pos z, if_pos z]
      rfl
    · rw [if_neg z, if_neg z]
/-- rows are told by their counts -/
theorem st_inj {n m : Nat} {r1 r2 : List (List Int)} {o1 o2 : Int} (l1 : r1.length = n) (l2 : r2.length = n) (k1 : ∀ r ∈ r1, r.length = m ∧ NN r) (k2 : ∀ r ∈ r2, r.length = m ∧ NN r) (p1 : 0 ≤ o1) (p2 : 0 ≤ o2) (e : stSt n r1 o1 = stSt n r2 o2) : r1 = r2 ∧ o1 = o2 := by
  constructor
  · refine List.ext_getElem (by omega) fun f h1 h2 => ?_
    obtain ⟨a1, a2⟩ := k1 _ (List.getElem_mem h1)
    obtain ⟨b1, b2⟩ := k2 _ (List.getElem_mem h2)
    refine List.ext_getElem (by omega) fun a q1 q2 => ?_
    have := congrFun (congrFun e f) a
    unfold stSt at this
    rw [if_pos (by omega), if_pos (by omega)] at this
    have e1 : r1.getD f [] = r1[f] := by rw [List.getD_eq_getElem?_getD, List.getElem?_eq_getElem h1]; rfl
    have e2 : r2.getD f [] = r2[f] := by rw [List.getD_eq_getElem?_getD, List.getElem?_eq_getElem h2]; rfl
    rw [e1, e2] at this
    have c1 := a2.cnt a
    have c2 := b2.cnt a
    have d1 : (r1[f]).getD a 0 = (r1[f])[a] := by rw [List.getD_eq_getElem?_getD, List.getElem?_eq_getElem q1]; rfl
    have d2 : (r2[f]).getD a 0 = (r2[f])[a] := by rw [List.getD_eq_getElem?_getD, List.getElem?_eq_getElem q2]; rfl
    omega
  · have := congrFun (congrFun e n) 0
    unfold stSt at this
    rw [if_neg (Nat.lt_irrefl n), if_neg (Nat.lt_irrefl n), if_pos ⟨rfl, rfl⟩, if_pos ⟨rfl, rfl⟩] at this
    omega
end FmC
end FFmStill
section FFmLate
/-! Standings together, late comers, numbers called otherwise, how many people. Pure, nothing of the model. -/
set_option linter.all false
namespace FmC
section
variable {n m : Nat} {S U : Nat → Nat → Nat → Nat}
/-! ### together -/
theorem st_add {a b : List (List Int)} {o1 o2 : Int} (l1 : a.length = n) (l2 : b.length = n) (k1 : ∀ r ∈ a, r.length = m ∧ NN r) (k2 : ∀ r ∈ b, r.length = m ∧ NN r) (p1 : 0 ≤ o1) (p2 : 0 ≤ o2) : stSt n (List.zipWith addR a b) (o1 + o2) = stSt n a o1 + stSt n b o2 := by
  funext g x
  simp only [add_at]
  unfold stSt
  by_cases hg : g < n
  · rw [if_pos hg, if_pos hg, if_pos hg]
    have e : (List.zipWith addR a b).getD g [] = addR (a.getD g []) (b.getD g []) := by
      rw [List.getD_eq_getElem?_getD, List.getElem?_zipWith, List.getElem?_eq_getElem (show g < a.length by omega), List.getElem?_eq_getElem (show g < b.length by omega), List.getD_eq_getElem?_getD, List.getElem?_eq_getElem (show g < a.length by omega), List.getD_eq_getElem?_getD, List.getElem?_eq_getElem (show g < b.length by omega)]
      rfl
    have ka : a.getD g [] ∈ a := by rw [List.getD_eq_getElem?_getD, List.getElem?_eq_getElem (show g < a.length by omega)]; exact List.getElem_mem _
    have kb : b.getD g [] ∈ b := by rw [List.getD_eq_getElem?_getD, List.getElem?_eq_getElem (show g < b.length by omega)]; exact List.getElem_mem _
    obtain ⟨q1, q2⟩ := k1 _ ka
    obtain ⟨q3, q4⟩ := k2 _ kb
    rw [e]
    unfold cnt
    rw [addR_get (by omega)]
    have := q2.get x
    have := q4.get x
    omega
  · rw [if_neg hg, if_neg hg, if_neg hg]
    by_cases z : g = n ∧ x = 0
    · rw [if_pos z, if_pos z, if_pos z]
      omega
    · rw [if_neg z, if_neg z, if_neg z]
theorem Run.both {c c' d d' : St} (h : Run n m S U c c') (k : Run n m S U d d') : Run n m S U (c + d) (c' + d') := by
  have h1 := h.beside d
  have h2 := k.beside c'
  rw [add_cm d c, add_cm d c'] at h1
  exact h1.trans h2
/-! ### how many people -/
def heads (n m : Nat) (c : St) : Nat := sumTo n (fun f => sumTo m (c f)) + c n 0
theorem sumTo_congr' : ∀ {k : Nat} {g h : Nat → Nat}, (∀ i, i < k → g i = h i) → sumTo k g = sumTo k h
  | 0, _, _, _ => rfl
  | k + 1, g, h, e => by
    simp only [sumTo]
    rw [sumTo_congr' fun i hi => e i (by omega), e k (by omega)]
theorem heads_add (c d : St) : heads n m (c + d) = heads n m c + heads n m d := by
  unfold heads
  have : (fun f => sumTo m ((c + d) f)) = fun f => sumTo m (c f) + sumTo m (d f) := by
    funext f
    exact sumTo_add m (c f) (d f)
  rw [this, sumTo_add]
  show _ + (c n 0 + d n 0) = _
  omega
theorem heads_one {f a : Nat} (hf : f < n) (ha : a < m) : heads n m (one f a) = 1 := by
  unfold heads
  have : (fun g => sumTo m (one f a g)) = fun g => if g = f then 1 else 0 := by
    funext g
    by_cases h : g = f
    · subst h
      rw [if_pos rfl, sum_one ha]
    · rw [if_neg h]
      have : one f a g = fun _ => 0 := by funext b; exact one_ne fun q => h q.1
      rw [this, sumTo_zero]
  rw [this, sumTo_at hf, one_ne (by omega)]
theorem heads_out : heads n m (one n 0) = 1 := by
  unfold heads
  have : sumTo n (fun g => sumTo m (one n 0 g)) = sumTo n fun _ => 0 := sumTo_congr' fun g hg => by
    have : one n 0 g = fun _ => 0 := by funext b; exact one_ne (by omega)
    rw [this, sumTo_zero]
  rw [this, sumTo_zero, one_self]
theorem heads_up (B : Tabs n m S U) {f a b : Nat} (hf : f < n) (ha : a < m) (hb : b < m) : heads n m (one (f + 1) (outU n U f a b)) = 1 := by
  unfold outU
  by_cases h : f + 1 < n
  · rw [if_pos h]
    exact heads_one h (B.um f a b hf ha hb)
  · rw [if_neg h, show f + 1 = n by omega]
    exact heads_out
theorem heads_step (B : Tabs n m S U) {c d : St} (h : Step n m S (outU n U) c d) : heads n m c = heads n m d := by
  obtain ⟨e, f, a, b, hf, ha, hb, rfl, rfl⟩ := h
  rw [heads_add, heads_add, heads_add, heads_add, heads_one hf ha, heads_one hf hb, heads_one hf (B.sm f a b hf ha hb), heads_up B hf ha hb]
theorem heads_run (B : Tabs n m S U) {c d : St} (h : Run n m S (outU n U) c d) : heads n m c = heads n m d := by
  induction h with
  | nil => rfl
  | cons s _ ih => rw [heads_step B s, ih]
theorem sum_cnt_eq : ∀ {m : Nat} {c : List Int}, c.length = m → NN c → ((sumTo m (cnt c) : Nat) : Int) = c.sum
  | 0, [], _, _ => rfl
  | m + 1, x :: c, hl, h => by
    have ih := sum_cnt_eq (m := m) (c := c) (by simpa using hl) fun y hy => h y (List.mem_cons_of_mem _ hy)
    have hx := h x List.mem_cons_self
    have e : ∀ k, sumTo (k + 1) (cnt (x :: c)) = x.toNat + sumTo k (cnt c) := fun k => by
      induction k with
      | zero => simp only [sumTo]; show 0 + cnt (x :: c) 0 = x.toNat + 0; unfold cnt; rw [List.getD_cons_zero]; omega
      | succ k ih =>
        rw [sumTo, ih, sumTo]
        have : cnt (x :: c) (k + 1) = cnt c k := by unfold cnt; rw [List.getD_cons_succ]
        omega
    rw [e m, List.sum_cons]
    omega
theorem sumTo_shift : ∀ (k : Nat) (g : Nat → Nat), sumTo (k + 1) g = g 0 + sumTo k fun i => g (i + 1)
  | 0, g => by simp only [sumTo]; omega
  | k + 1, g => by
    rw [sumTo, sumTo_shift k g]
    simp only [sumTo]
    omega
theorem rows_sum : ∀ {k : Nat} {rows : List (List Int)}, rows.length = k → (∀ r ∈ rows, r.length = m ∧ NN r) → ((sumTo k (fun f => sumTo m (cnt (rows.getD f []))) : Nat) : Int) = (rows.map List.sum).sum
  | 0, [], _, _ => rfl
  | k + 1, r :: rows, hl, h => by
    have ih := rows_sum (k := k) (rows := rows) (by simpa using hl) fun y hy => h y (List.mem_cons_of_mem _ hy)
    obtain ⟨q1, q2⟩ := h r List.mem_cons_self
    rw [sumTo_shift, List.map_cons, List.sum_cons, ← ih, ← sum_cnt_eq q1 q2]
    show ((sumTo m (cnt r) + sumTo k (fun i => sumTo m (cnt (rows.getD i []))) : Nat) : Int) = _
    omega
theorem heads_st {rows : List (List Int)} {out : Int} (hl : rows.length = n) (h : ∀ r ∈ rows, r.length = m ∧ NN r) (ho : 0 ≤ out) : ((heads n m (stSt n rows out) : Nat) : Int) = (rows.map List.sum).sum + out := by
  unfold heads
  have e : sumTo n (fun f => sumTo m (stSt n rows out f)) = sumTo n fun f => sumTo m (cnt (rows.getD f [])) := sumTo_congr' fun f hf => by
    have : stSt n rows out f = cnt (rows.getD f []) := by
      funext x
      unfold stSt
      rw [if_pos hf]
    rw [this]
  rw [e, Int.natCast_add, rows_sum hl h]
  have : stSt n rows out n 0 = out.toNat := by
    unfold stSt
    rw [if_neg (Nat.lt_irrefl n), if_pos ⟨rfl, rfl⟩]
  rw [this]
  omega
/-! ### a late comer -/
/-- whoever comes to a floor of a standing at rest leads it on, one more out where somebody stands on each floor from there on -/
theorem late (B : Tabs n m S U) : ∀ (k : Nat) {c : St} {f a : Nat}, k + f = n → f < n → a < m → (∀ g, g < n → sumTo m (c g) ≤ 1) →
    ∃ d, Run n m S (outU n U) (c + one f a) d ∧ (∀ g, g < n → sumTo m (d g) ≤ 1) ∧ ((∀ g, f ≤ g → g < n → sumTo m (c g) = 1) → d n 0 = c n 0 + 1) ∧ (¬ (∀ g, f ≤ g → g < n → sumTo m (c g) = 1) → d n 0 = c n 0)
  | 0, c, f, a, e, hf, ha, hc => by omega
  | k + 1, c, f, a, e, hf, ha, hc => by
    have pl : ∀ (d : St) (g b : Nat), sumTo m ((d + one f b) g) = sumTo m (d g) + if g = f then sumTo m (one f b f) else 0 := fun d g b => by
      have : (d + one f b) g = fun x => d g x + one f b g x := rfl
      rw [this, sumTo_add]
      congr 1
      by_cases h : g = f
      · rw [if_pos h, h]
      · rw [if_neg h]
        have : one f b g = fun _ => 0 := by funext x; exact one_ne fun q => h q.1
        rw [this, sumTo_zero]
    by_cases h0 : sumTo m (c f) = 0
    · refine ⟨c + one f a, .nil _, fun g hg => ?_, ?_⟩
      · rw [pl]
        by_cases h : g = f
        · rw [if_pos h, sum_one ha, h, h0]
          exact Nat.le_refl _
        · rw [if_neg h]
          exact hc g hg
      · have h2 : (c + one f a) n 0 = c n 0 := by rw [add_at, one_ne (by omega), Nat.add_zero]
        exact ⟨fun q => by have := q f (Nat.le_refl _) hf; omega, fun _ => h2⟩
    · -- somebody stands there
      have h1 : sumTo m (c f) = 1 := by have := hc f hf; omega
      obtain ⟨b, hb, hb1⟩ : ∃ b, b < m ∧ 1 ≤ c f b := by
        have : ∀ j, sumTo j (c f) ≠ 0 → ∃ b, b < j ∧ 1 ≤ c f b := by
          intro j
          induction j with
          | zero => intro q; exact absurd rfl q
          | succ j ih =>
            intro q
            simp only [sumTo] at q
            by_cases z : c f j = 0
            · obtain ⟨b, q1, q2⟩ := ih (by omega)
              exact ⟨b, by omega, q2⟩
            · exact ⟨j, by omega, by omega⟩
        exact this m h0
      -- the rest without them
      let r : St := fun g x => c g x - one f b g x
      have er : c = r + one f b := by
        funext g x
        show c g x = (c g x - one f b g x) + one f b g x
        by_cases z : g = f ∧ x = b
        · obtain ⟨rfl, rfl⟩ := z
          rw [one_self]
          omega
        · rw [one_ne z]
          omega
      have hr : sumTo m (r f) = 0 := by
        have := pl r f b
        rw [← er, if_pos rfl, sum_one hb] at this
        omega
      have hrg : ∀ g, g ≠ f → sumTo m (r g) = sumTo m (c g) := fun g hg => by
        have := pl r g b
        rw [← er, if_neg hg] at this
        omega
      have st : Step n m S (outU n U) (c + one f a) (r + one f (S f b a) + one (f + 1) (outU n U f b a)) := ⟨r, f, b, a, hf, hb, ha, by rw [er], rfl⟩
      have hs := B.sm f b a hf hb ha
      have hc2 : ∀ g, g < n → sumTo m ((r + one f (S f b a)) g) = sumTo m (c g) := fun g hg => by
        rw [pl]
        by_cases h : g = f
        · rw [if_pos h, sum_one hs, h, hr, h1]
        · rw [if_neg h, hrg g h]
          omega
      have hn0 : (r + one f (S f b a)) n 0 = c n 0 := by
        show (c n 0 - one f b n 0) + one f (S f b a) n 0 = c n 0
        rw [one_ne (by omega), one_ne (by omega)]
        omega
      by_cases hn : f + 1 < n
      · have eu : outU n U f b a = U f b a := if_pos hn
        obtain ⟨d, q1, q2, q3⟩ := late B k (c := r + one f (S f b a)) (f := f + 1) (a := U f b a) (by omega) hn (B.um f b a hf hb ha) fun g hg => by rw [hc2 g hg]; exact hc g hg
        rw [← eu] at q1
        refine ⟨d, (Run.one st).trans q1, q2, ?_⟩
        rw [hn0] at q3
        refine ⟨fun z => q3.1 fun g h1' h2 => by rw [hc2 g h2]; exact z g (by omega) h2, fun z => q3.2 fun q => z fun g h1' h2 => ?_⟩
        by_cases hgf : g = f
        · rw [hgf]; exact h1
        · rw [← hc2 g h2]; exact q g (by omega) h2
      · have en : f + 1 = n := by omega
        have eu : outU n U f b a = 0 := if_neg hn
        rw [eu, en] at st
        refine ⟨_, .one st, fun g hg => ?_, ?_⟩
        · have : (r + one f (S f b a) + one n 0) g = fun x => (r + one f (S f b a)) g x + one n 0 g x := rfl
          rw [this, sumTo_add, hc2 g hg]
          have : one n 0 g = fun _ => 0 := by funext x; exact one_ne (by omega)
          rw [this, sumTo_zero]
          exact hc g hg
        · have h3 : (r + one f (S f b a) + one n 0) n 0 = c n 0 + 1 := by rw [add_at, hn0, one_self]
          exact ⟨fun _ => h3, fun z => absurd (fun g h1' h2 => by rw [show g = f by omega]; exact h1) z⟩
end
/-! ### numbers called otherwise, floor by floor -/
section
variable {n m : Nat} {S U S' U' : Nat → Nat → Nat → Nat} {cl bk : Nat → Nat → Nat}
def turnSt (n m : Nat) (bk : Nat → Nat → Nat) (c : St) : St := fun g x => if g < n then (if x < m then c g (bk g x) else 0) else c g x
theorem turn_add (c d : St) : turnSt n m bk (c + d) = turnSt n m bk c + turnSt n m bk d := by
  funext g x
  unfold turnSt
  simp only [add_at]
  by_cases h : g < n
  · rw [if_pos h, if_pos h, if_pos h]
    by_cases k : x < m
    · rw [if_pos k, if_pos k, if_pos k]
    · rw [if_neg k, if_neg k, if_neg k]
  · rw [if_neg h, if_neg h, if_neg h]
theorem turn_one (C : ∀ g, g < n → Calls m (cl g) (bk g)) {f a : Nat} (hf : f < n) (ha : a < m) : turnSt n m bk (one f a) = one f (cl f a) := by
  funext g x
  unfold turnSt
  by_cases hg : g < n
  · rw [if_pos hg]
    have K := C g hg
    by_cases hx : x < m
    · rw [if_pos hx]
      by_cases z : g = f
      · subst z
        rw [one_at, one_at, if_pos rfl, if_pos rfl]
        by_cases w : bk g x = a
        · rw [if_pos w, if_pos (by rw [← w, K.cb x hx])]
        · rw [if_neg w, if_neg (fun q => w (by rw [q, K.bc a ha]))]
      · rw [one_ne fun q => z q.1, one_ne fun q => z q.1]
    · rw [if_neg hx, one_ne]
      rintro ⟨rfl, rfl⟩
      exact hx (K.cm a ha)
  · rw [if_neg hg, one_ne (by omega), one_ne (by omega)]
theorem turn_out : turnSt n m bk (one n 0) = one n 0 := by
  funext g x
  unfold turnSt
  by_cases hg : g < n
  · rw [if_pos hg]
    by_cases hx : x < m
    · rw [if_pos hx, one_ne (by omega), one_ne (by omega)]
    · rw [if_neg hx, one_ne (by omega)]
  · rw [if_neg hg]
theorem turn_step (B : Tabs n m S U) (C : ∀ g, g < n → Calls m (cl g) (bk g)) (hS : ∀ f a b, f < n → a < m → b < m → S' f a b = cl f (S f (bk f a) (bk f b))) (hU : ∀ f a b, f + 1 < n → a < m → b < m → U' f a b = cl (f + 1) (U f (bk f a) (bk f b)))
    {c d : St} (h : Step n m S (outU n U) c d) : Step n m S' (outU n U') (turnSt n m bk c) (turnSt n m bk d) := by
  obtain ⟨e, f, a, b, hf, ha, hb, rfl, rfl⟩ := h
  have K := C f hf
  refine ⟨turnSt n m bk e, f, cl f a, cl f b, hf, K.cm a ha, K.cm b hb, ?_, ?_⟩
  · rw [turn_add, turn_add, turn_one C hf ha, turn_one C hf hb]
  · rw [turn_add, turn_add, turn_one C hf (B.sm f a b hf ha hb), hS f _ _ hf (K.cm a ha) (K.cm b hb), K.bc a ha, K.bc b hb]
    congr 1
    unfold outU
    by_cases hn : f + 1 < n
    · rw [if_pos hn, if_pos hn, turn_one C hn (B.um f a b hf ha hb), hU f _ _ hn (K.cm a ha) (K.cm b hb), K.bc a ha, K.bc b hb]
    · rw [if_neg hn, if_neg hn, show f + 1 = n by omega]
      exact turn_out
theorem turn_run (B : Tabs n m S U) (C : ∀ g, g < n → Calls m (cl g) (bk g)) (hS : ∀ f a b, f < n → a < m → b < m → S' f a b = cl f (S f (bk f a) (bk f b))) (hU : ∀ f a b, f + 1 < n → a < m → b < m → U' f a b = cl (f + 1) (U f (bk f a) (bk f b)))
    {c d : St} (h : Run n m S (outU n U) c d) : Run n m S' (outU n U') (turnSt n m bk c) (turnSt n m bk d) := by
  induction h with
  | nil => exact .nil _
  | cons s _ ih => exact .cons (turn_step B C hS hU s) ih
theorem turn_tri (B : Tabs n m S U) (T : Tri n m S U) (C : ∀ g, g < n → Calls m (cl g) (bk g)) (hS : ∀ f a b, f < n → a < m → b < m → S' f a b = cl f (S f (bk f a) (bk f b))) (hU : ∀ f a b, f + 1 < n → a < m → b < m → U' f a b = cl (f + 1) (U f (bk f a) (bk f b))) : Tri n m S' U' := by
  intro f x y z hf hx hy hz
  have K := C f hf
  have bx := K.bm x hx
  have by_ := K.bm y hy
  have bz := K.bm z hz
  obtain ⟨t1, t2, t3⟩ := T f _ _ _ hf bx by_ bz
  have sxy := B.sm f _ _ hf bx by_
  have sxz := B.sm f _ _ hf bx bz
  have e1 : S' f x y = cl f (S f (bk f x) (bk f y)) := hS f x y hf hx hy
  have e2 : S' f x z = cl f (S f (bk f x) (bk f z)) := hS f x z hf hx hz
  have b1 : bk f (S' f x y) = S f (bk f x) (bk f y) := by rw [e1, K.bc _ sxy]
  have b2 : bk f (S' f x z) = S f (bk f x) (bk f z) := by rw [e2, K.bc _ sxz]
  have m1 : S' f x y < m := by rw [e1]; exact K.cm _ sxy
  have m2 : S' f x z < m := by rw [e2]; exact K.cm _ sxz
  refine ⟨by rw [hS f _ z hf m1 hz, hS f _ y hf m2 hy, b1, b2, t1], fun h1 => ?_, fun h2 => ?_⟩
  · have K1 := C (f + 1) h1
    have u1 := B.um f _ _ hf bx by_
    have u2 := B.um f _ _ hf sxy bz
    have u3 := B.um f _ _ hf bx bz
    have u4 := B.um f _ _ hf sxz by_
    rw [hU f x y h1 hx hy, hU f _ z h1 m1 hz, hU f x z h1 hx hz, hU f _ y h1 m2 hy, b1, b2, hS (f + 1) _ _ h1 (K1.cm _ u1) (K1.cm _ u2), hS (f + 1) _ _ h1 (K1.cm _ u3) (K1.cm _ u4), K1.bc _ u1, K1.bc _ u2, K1.bc _ u3, K1.bc _ u4, t2 h1]
  · have h1 : f + 1 < n := by omega
    have K1 := C (f + 1) h1
    have u1 := B.um f _ _ hf bx by_
    have u2 := B.um f _ _ hf sxy bz
    have u3 := B.um f _ _ hf bx bz
    have u4 := B.um f _ _ hf sxz by_
    rw [hU f x y h1 hx hy, hU f _ z h1 m1 hz, hU f x z h1 hx hz, hU f _ y h1 m2 hy, b1, b2, hU (f + 1) _ _ h2 (K1.cm _ u1) (K1.cm _ u2), hU (f + 1) _ _ h2 (K1.cm _ u3) (K1.cm _ u4), K1.bc _ u1, K1.bc _ u2, K1.bc _ u3, K1.bc _ u4, t3 h2]
end
end FmC
end FFmLate
section FTGN
set_option Elab.async false
set_option linter.all false
set_option maxRecDepth 100000
set_option maxHeartbeats 4000000
local macro_rules | `(tactic| walk_at "ne") => `(tactic| first | assumption | (apply Ne.symm; assumption) | exact L2.ne_of_none (by assumption) (by assumption) | exact Ne.symm (L2.ne_of_none (by assumption) (by assumption)))
local macro_rules | `(tactic| walk_at "hl") => `(tactic| first | assumption | exact L2.upd_same | (refine Eq.trans (L2.upd_ne (by walk_at "ne")) ?_; walk_at "hl"))
local macro_rules | `(tactic| walk_at "sd") => `(tactic| first | (with_reducible show (_ : Int) < _; omega) | (with_reducible show (_ : Int) ≤ _; omega) | assumption | decide | exact ⟨by assumption, by assumption⟩ | exact ⟨by decide, by decide⟩ | exact Or.inr ⟨by decide, by decide⟩ | exact Or.inl ⟨by omega, by omega⟩ | rfl)
local macro_rules | `(tactic| walk_at "st1") => `(tactic| first
  | refine ⟨_, rfl, ?_⟩
  | refine ⟨_, _, rfl, rfl, ?_⟩
  | refine ⟨_, _, rfl, ?_⟩
  | (refine ⟨_, _, _, _, rfl, rfl, L2.SqL.of (by walk_at "hl"), rfl, ?_⟩)
  | (refine ⟨_, _, _, _, rfl, rfl, L2.SqT.of (by walk_at "hl"), rfl, ?_⟩)
  | (refine ⟨_, _, _, _, rfl, rfl, (by walk_at "hl"), rfl, ?_⟩)
  | (refine And.intro (by walk_at "sd") ?_)
  )
local macro_rules | `(tactic| walk_at "st") => `(tactic| repeat walk_at "st1")
local macro_rules | `(tactic| walk_at "op") => `(tactic| try dsimp only [L2.tSeq, L2.tAsg, L2.tOp, L2.tVar, L2.tC, L2.gSub, L2.rI, L2.rI0, L2.rIxL, L2.rIxT, L2.rSetL, L2.tIfS, L2.tTest, L2.tRet, L2.gName, L2.tNext, L2.tAnd, L2.tOr, L2.tNot, L2.tAndV, L2.tOrV, L2.tNotV, L2.tB, L2.tCB, L2.tCons, L2.tNil, L2.tCall, L2.tTup, L2.tLst, L2.tChain, L2.tUn, L2.tPar, L2.tDrop, L2.tIf, L2.tBM, L2.tBM0, L2.rAppend, L2.rCat, L2.rIsi, L2.rIsiT, L2.gTup, L2.gCons, L2.gNil, Fm.tFor_eq, Fm.tLc_eq, Fm.tLc2_eq, L2.iTup, L2.iList, L2.iRng1, L2.iRng2, L2.tSl, L2.tPart, L2.tNoPart, L2.rSlL, L2.rEq, L2.rNe, L2.rU, L2.rEqD, L2.rNeD, Fm.tRevT, Fm.rLenS, Fm.rTupOf, Fm.rLstOf, L2.tDNewK, L2.tCallS, L2.WE, Fm.wKeep, Fm.rIsK, Fm.rIsKT, List.cons_append, List.nil_append, L2.tYes])
namespace Fm
open PySem PySem.Spec PyProof.Rows L2
abbrev s_added : Stmt := top 50
abbrev N_added : List Str := ["counts", "more", "a", "b"]
theorem sc_added : FnScope N_added ["counts", "more"] (defScope s_added) := ⟨rfl, rfl, rfl, by decide +kernel, rfl, by decide +kernel, by decide +kernel⟩
abbrev s_together : Stmt := top 49
abbrev N_together : List Str := ["house", "one", "other", "m", "floors", "rows", "counts", "more"]
theorem sc_together : FnScope N_together ["house", "one", "other"] (defScope s_together) := ⟨rfl, rfl, rfl, by decide +kernel, rfl, by decide +kernel, by decide +kernel⟩
section
variable {P : Program} {w : World} {K : PySem.W.Frag} {mg : Str → Option Value} {base : Heap}
/-! ### standings together -/
theorem ok_added (D : Df K mg "added" s_added ["counts", "more"]) (T : Nms mg) : CallOk P w K mg base CX0 1 "added" ["counts", "more"] spAdded := by
  refine df_ok D sc_added (fun vs H Q E h => ?_) (fun f cdv A outer s H vs Q E hr h => ?_)
  · obtain ⟨v1, v2, p, p', r1, r2, rfl, _⟩ := h
    rfl
  · obtain ⟨v1, v2, p, p', r1, r2, rfl, h1, h2, hl, h6, k⟩ := h
    obtain ⟨a1, rfl, ha1, _⟩ := row_parts h1
    obtain ⟨a2, rfl, ha2, _⟩ := row_parts h2
    have nd := sc_added.nd
    refine ⟨_, (pss_one (ps_ret (pe_callTy (r := rTupOf K) call_tupOf (by rfl) T.n_tuple (by decide +kernel) (pa_cons (pe_lc (own := [("a", 2), ("b", 3)]) (g := (gTup K 2 (gCons (gName 2) (gCons (gName 3) gNil)))) (tt := tYes) (by rfl) nd (RZ.pi_zipA (by rfl) T.n_zip (pa_cons (pv 0) (pa_cons (pv 1) pa_nil))) (blkOk_by (own := [("a", 2), ("b", 3)]) (N := N_added) (sc := defScope s_added) (by decide +kernel)) (fun _ _ _ _ _ => (pg_tup rfl (pgs_cons (pg_name (i := 2) nd rfl (Or.inl rfl)) (pgs_cons (pg_name (i := 3) nd rfl (Or.inl rfl)) pgs_nil)))) (fun _ _ _ _ _ => pts_nil) (fun _ _ _ _ _ => (pe_op op_add (pv 2) (pv 3)))) pa_nil)))), ?_⟩
    walk_at "op"
    walk_at "st"
    refine ⟨_, _, _, _, rfl, .inr ⟨SqT.of ha1, SqT.of ha2, fun D' hD' => ?_⟩⟩
    have hlm : (r1.map V.int).length = (r2.map V.int).length := by rw [List.length_map, List.length_map, hl]
    refine lI (walk_zipT hlm) (fun i H2 => Same H H2 ∧ H2 D' = some (.lst (((List.zipWith (· + ·) r1 r2).take i).map V.int))) 
      ⟨same_new hD', upd_same⟩ (fun i H2 _ ⟨e, _⟩ => ⟨SqT.of (e _ _ ha1), SqT.of (e _ _ ha2)⟩) ?_ ?_
    · rintro i v H2 _ hi ⟨sm2, hT2⟩ ⟨t, x, y, rfl, ht, rfl, hxi, hyi⟩
      rw [List.length_map] at hi
      dsimp only at hxi hyi
      rw [List.getElem?_map, List.getElem?_eq_getElem hi] at hxi
      rw [List.getElem?_map, List.getElem?_eq_getElem (by omega)] at hyi
      cases hxi
      cases hyi
      have nDt : D' ≠ t := ne_of_none hT2 ht
      walk_at "op"
      refine ⟨t, _, rfl, SqT.of upd_same, rfl, _, _, rfl, _, _, rfl, rfl, ?_⟩
      refine ⟨rfl, ?_⟩
      walk_at "st"
      have hlen : ((List.zipWith (· + ·) r1 r2).take i).length ≤ 6 := by
        rw [List.length_take, List.length_zipWith]
        omega
      refine ⟨_, by rw [upd_ne nDt]; exact hT2, by rw [List.length_map]; exact small1000 (by omega), sameOff (sameOff sm2 (sameFree sm2 ht)) hD', ?_⟩
      rw [upd_same, List.take_add_one, List.getElem?_zipWith, List.getElem?_eq_getElem hi, List.getElem?_eq_getElem (show i < r2.length by omega), List.map_append]
      rfl
    · rintro H2 ⟨sm2, hT2⟩
      walk_at "op"
      walk_at "st"
      have e1 : (r1.map V.int).length = (List.zipWith (· + ·) r1 r2).length := by rw [List.length_map, List.length_zipWith]; omega
      rw [e1, List.take_length] at hT2
      exact ⟨_, _, rfl, .inl ⟨SqL.of hT2, fun t ht => k t _ (sameFree sm2 ht) upd_same (sameOff sm2 (sameFree sm2 ht))⟩⟩

theorem ok_together (D : Df K mg "together" s_together ["house", "one", "other"]) (T : Nms mg) {C M C2 : Addr} (EX_NoStanding : Exn K mg "NoStanding" C2 M)
    (c_size : CallOk P w K mg base (L2.CX P w) 6 "size" ["house"] (spSize C)) (c_has_form : CallOk P w K mg base CX0 4 "has_form" ["thing", "m", "floors", "most"] spForm) (c_added : CallOk P w K mg base CX0 1 "added" ["counts", "more"] spAdded) :
    CallOk P w K mg base (L2.CX P w) 7 "together" ["house", "one", "other"] spTogether := by
  refine df_okX D sc_together (fun vs H Q E h => ?_) (fun f cdv A outer s H vs Q E hr h => ?_)
  · obtain ⟨hv, v1, v2, p, ph, hd, m, n, R1, R2, o1, o2, u, rfl, _⟩ := h
    rfl
  · obtain ⟨hv, v1, v2, p, ph, hd, m, n, R1, R2, o1, o2, u, rfl, hp, hD, hN, d1, d2, hl1, hl2, ok1, ok2, k⟩ := h
    have nd := sc_together.nd
    obtain ⟨_, _, _, hn1, hn4, _, hm6, _⟩ := id hN
    refine ⟨_, (pss_cons (ps_asg (pe_cs c_size (takes_of rfl rfl rfl rfl) (hr.mono (by omega)) (pa_cons (pv 0) pa_nil)) (pg_tup rfl (pgs_cons (pg_name (i := 3) nd rfl (Or.inl rfl)) (pgs_cons (pg_name (i := 4) nd rfl (Or.inl rfl)) pgs_nil))))
      (pss_cons (ps_if (PW.pt (pw_or (pt_not (pt_val (pe_cc c_has_form (hr.mono (by omega)) (pa_cons (pv 1) (pa_cons (pv 3) (pa_cons (pv 4) (pa_cons pe_non pa_nil))))))) (pw_or1 (pt_not (pt_val (pe_cc c_has_form (hr.mono (by omega)) (pa_cons (pv 2) (pa_cons (pv 3) (pa_cons (pv 4) (pa_cons pe_non pa_nil)))))))))) (pss_one (ps_raiseE rfl (takes_of rfl rfl rfl rfl) EX_NoStanding rfl)) pss_nil)
      (pss_cons (ps_setLc (i := 5) (own := [("counts", 6), ("more", 7)]) (g := (gTup K 2 (gCons (gName 6) (gCons (gName 7) gNil)))) (tt := tYes) (by rfl) nd rfl rfl (sw_true rfl rfl rfl (by decide +kernel)) (RZ.pi_zipA (by rfl) T.n_zip (pa_cons (pe_slice (r := rSlA K) sl_tupA (pv 1) po_none (po_some (pe_un un_neg pe_int))) (pa_cons (pe_slice (r := rSlA K) sl_tupA (pv 2) po_none (po_some (pe_un un_neg pe_int))) pa_nil))) (blkOk_by (own := [("counts", 6), ("more", 7)]) (N := N_together) (sc := defScope s_together) (by decide +kernel)) (fun _ _ _ _ _ => (pg_tup rfl (pgs_cons (pg_name (i := 6) nd rfl (Or.inl rfl)) (pgs_cons (pg_name (i := 7) nd rfl (Or.inl rfl)) pgs_nil)))) (fun _ _ _ _ _ => pts_nil) (fun _ _ _ _ _ => (pe_cc c_added (hr.mono (by omega)) (pa_cons (pv 6) (pa_cons (pv 7) pa_nil)))))
      (pss_one (ps_ret (pe_op (r := rCatA K) op_catA (pe_callTy (r := rTupOf K) call_tupOf (by rfl) T.n_tuple (by decide +kernel) (pa_cons (pv 5) pa_nil)) (pe_tup (pa_cons (pe_op op_add (pe_ix (r := rIxT K) ix_tup (pv 1) (pe_un un_neg pe_int) (fun _ _ => rfl)) (pe_ix (r := rIxT K) ix_tup (pv 2) (pe_un un_neg pe_int) (fun _ _ => rfl))) pa_nil)))))))), ?_⟩
    walk_at "op"
    walk_at "st"
    refine ⟨hv, ph, hd, rfl, hD, fun m' n' hN' q H' hq hq2 sm => ?_, fun no => (no ⟨m, n, hN⟩).elim⟩
    obtain ⟨rfl, rfl⟩ := houseN_inj hN hN'
    refine ⟨q, _, rfl, SqT.of hq2, rfl, _, _, rfl, _, _, rfl, rfl, ?_⟩
    walk_at "op"
    walk_at "st"
    refine ⟨v1, p, m, n, R1, o1, rfl, d1.same sm, hl1, hn1, hn4, ok1, fun H2 sm2 => ?_⟩
    walk_at "st"
    refine ⟨v2, p, m, n, R2, o2, rfl, d2.same (sm.trans sm2), hl2, hn1, hn4, ok2, fun H3 sm3 => ?_⟩
    have sm03 := (sm.trans sm2).trans sm3
    obtain ⟨a1, x1, rfl, ha1, na1, hx1⟩ := st_parts (d1.same sm03)
    obtain ⟨a2, x2, rfl, ha2, na2, hx2⟩ := st_parts (d2.same sm03)
    walk_at "op"
    walk_at "st"
    refine sl_init (SqT.of ha1) fun q1 hq1 => ?_
    have hq1H := sameFree sm03 hq1
    walk_at "op"
    walk_at "st"
    refine sl_init (SqT.of (by rw [upd_ne (ne_of_none ha2 hq1)]; exact ha2)) fun q2 hq2' => ?_
    have n12 : q1 ≠ q2 := ne_of_none upd_same hq2'
    have hq2H : H q2 = none := sameFree (sm03.trans (same_new hq1)) hq2'
    refine ⟨_, _, _, _, rfl, .inr ⟨SqT.of (by rw [upd_ne n12]; exact upd_same), SqT.of upd_same, fun D' hD' => ?_⟩⟩
    have nq2D : q2 ≠ D' := ne_of_none upd_same hD'
    have nq1D : q1 ≠ D' := ne_of_none (by rw [upd_ne n12]; exact upd_same) hD'
    have sm4 : Same H (upd (upd H3 q1 (.tup x1)) q2 (.tup x2)) := (sm03.trans (same_new hq1)).trans (same_new hq2')
    have hDH := sameFree sm4 hD'
    have pne : ∀ {S : Addr} {G : Hp}, Same H G → G S = none → S ≠ p := fun {S G} e z q => by
      rw [q] at z
      have := e p u hp
      rw [z] at this
      cases this
    have hlx : x1.length = x2.length := by rw [hx1.1, hx2.1, List.length_map, List.length_map, hl1, hl2]
    have hadl : (addRows R1 R2).length = n := by
      unfold addRows
      rw [List.length_zipWith, hl1, hl2]
      omega
    have nl : ∀ (l : List (List Int)), ∀ d ∈ l.map rowD, noList d = true := fun l d hd => by
      obtain ⟨r, _, rfl⟩ := List.mem_map.mp hd
      exact noList_ints _ _
    refine lI (walk_zipT hlx) (fun i H4 => Same H H4 ∧ H4 q1 = some (.tup x1) ∧ H4 q2 = some (.tup x2) ∧ H4 a1 = some (.tup (x1 ++ [.int o1])) ∧ H4 a2 = some (.tup (x2 ++ [.int o2])) ∧ Dats H4 p x1 (R1.map rowD) ∧ Dats H4 p x2 (R2.map rowD) ∧ ∃ ws, H4 D' = some (.lst ws) ∧ Dats H4 p ws (((addRows R1 R2).take i).map rowD))
      ⟨sameOff sm4 hDH, by rw [upd_ne nq1D, upd_ne n12]; exact upd_same, by rw [upd_ne nq2D]; exact upd_same, ?_, ?_, ((hx1.off hq1).off hq2').off hD', ((hx2.off hq1).off hq2').off hD', [], upd_same, Dats.nil⟩ (fun i H4 _ ⟨_, e1, e2, _⟩ => ⟨SqT.of e1, SqT.of e2⟩) ?_ ?_
    · exact (same_new hD') _ _ ((same_new hq2') _ _ ((same_new hq1) _ _ ha1))
    · exact (same_new hD') _ _ ((same_new hq2') _ _ ((same_new hq1) _ _ ha2))
    · rintro i v H4 _ hi ⟨s4, e1, e2, f1, f2, g1, g2, ws, hws, hW⟩ ⟨t, x, y, rfl, ht, rfl, hxi, hyi⟩
      dsimp only at hxi hyi
      obtain ⟨d1', hd1', hdx⟩ := g1.at hxi
      obtain ⟨d2', hd2', hdy⟩ := g2.at hyi
      rw [List.getElem?_map] at hd1' hd2'
      have hi1 : i < R1.length := by rw [hl1, ← hl1, ← List.length_map (f := rowD), ← hx1.1]; exact hi
      have hi2 : i < R2.length := by omega
      rw [List.getElem?_eq_getElem hi1] at hd1'
      rw [List.getElem?_eq_getElem hi2] at hd2'
      cases hd1'
      cases hd2'
      have nDt : D' ≠ t := ne_of_none hws ht
      have htp := pne s4 ht
      walk_at "op"
      refine ⟨t, _, rfl, SqT.of upd_same, rfl, _, _, rfl, _, _, rfl, rfl, ?_⟩
      refine ⟨rfl, ?_⟩
      walk_at "st"
      have m1 := ok1.len _ (List.getElem_mem hi1)
      have m2 := ok2.len _ (List.getElem_mem hi2)
      refine ⟨x, y, p, p, _, _, rfl, hdx.off ht, hdy.off ht, by rw [m1, m2], by omega, fun r H5 hr hr2 s5 => ?_⟩
      have s45 : Same H4 H5 := (same_new ht).trans s5
      have hws5 := s45 _ _ hws
      have hr4 : H4 r = none := sameFree (same_new ht) hr
      have hrp := pne s4 hr4
      have nrD : r ≠ D' := fun z => by rw [z, hws] at hr4; cases hr4
      have wl : ws.length ≤ 4 := by
        rw [hW.1, List.length_map, List.length_take]
        omega
      refine ⟨_, hws5, small1000 (by omega), sameOff (s4.trans s45) hDH, by rw [upd_ne nq1D]; exact s45 _ _ e1, by rw [upd_ne nq2D]; exact s45 _ _ e2, ?_, ?_, ?_, ?_, ws ++ [.ref r], upd_same, ?_⟩
      · rw [upd_ne (fun z => by rw [z, hws] at f1; cases f1)]; exact s45 _ _ f1
      · rw [upd_ne (fun z => by rw [z, hws] at f2; cases f2)]; exact s45 _ _ f2
      · exact (g1.same s45).setL hws5 (nl _)
      · exact (g2.same s45).setL hws5 (nl _)
      · have e9 : ((addRows R1 R2).take (i + 1)).map rowD = ((addRows R1 R2).take i).map rowD ++ [rowD (List.zipWith (· + ·) R1[i] R2[i])] := by
          have e8 : (addRows R1 R2)[i]? = some (List.zipWith (· + ·) R1[i] R2[i]) := by
            unfold addRows
            rw [List.getElem?_zipWith, List.getElem?_eq_getElem hi1, List.getElem?_eq_getElem hi2]
          rw [List.take_add_one, e8, List.map_append]
          rfl
        rw [e9]
        refine ((hW.same s45).setL hws5 (nl _)).snoc ?_
        exact Dat.tup (by rw [upd_ne nrD]; exact hr2) hrp (by simp) fun j x d q1 q2 => by
          have := (Dats.ints (H := upd H5 D' (.lst (ws ++ [.ref r]))) (p := p) (List.zipWith (· + ·) R1[i] R2[i])).2 j x d q1 q2
          exact this
    · rintro H4 ⟨s4, e1, e2, f1, f2, g1, g2, ws, hws, hW⟩
      have hxn : x1.length = n := by rw [hx1.1, List.length_map, hl1]
      rw [hxn, ← hadl, List.take_length] at hW
      walk_at "op"
      walk_at "st"
      refine ⟨_, _, rfl, .inl ⟨SqL.of hws, fun l hl => ?_⟩⟩
      have hlp := pne s4 hl
      walk_at "st"
      refine ⟨_, _, _, _, rfl, rfl, SqT.of (by rw [upd_ne (ne_of_none f1 hl)]; exact f1), atI_last (by omega), ?_⟩
      walk_at "st"
      refine ⟨_, _, _, _, rfl, rfl, SqT.of (by rw [upd_ne (ne_of_none f2 hl)]; exact f2), atI_last (by omega), ?_⟩
      walk_at "st"
      refine ⟨by show 1 ≤ sizeLine; decide, fun t ht => ?_⟩
      have nlt : l ≠ t := ne_of_none upd_same ht
      have s5 : Same H (upd H4 l (.tup ws)) := s4.trans (same_new hl)
      have htp := pne s5 ht
      refine ⟨l, t, ws, _, rfl, rfl, SqT.of (by rw [upd_ne nlt]; exact upd_same), SqT.of upd_same, Nat.le_trans (m := 1000) (by rw [hW.1, List.length_map, hadl]; show n + 1 ≤ 1000; omega) (by rw [sizeLine_eq]; omega), fun e => ?_, fun _ e => (by cases e), fun _ _ r hr => ?_⟩
      · have := hW.1
        rw [e, List.length_map, hadl] at this
        simp at this
        omega
      · have s6 : Same H (upd (upd H4 l (.tup ws)) t (.tup [.int (o1 + o2)])) := s5.trans (same_new ht)
        refine k _ _ ?_ (s6.trans (same_new hr))
        have hW6 : Dats (upd (upd H4 l (.tup ws)) t (.tup [.int (o1 + o2)])) p ws ((addRows R1 R2).map rowD) := (hW.off hl).off ht
        refine Dat.new hr (pne s6 hr) ?_
        exact Dats.snoc hW6 (.int _)

end
end Fm
end FTGN
section FFmTimes0
set_option Elab.async false
set_option linter.all false
set_option maxRecDepth 100000
set_option maxHeartbeats 4000000
namespace Fm
open PySem PySem.Spec PySem.Calls PyProof.Rows L2
/-- a tuple no times -/
theorem zero_meets (l : Addr) (items : Array Value) (n : Nat) (dd : Option Addr) (sl : Array (Option Value)) (u : Tok) (hne : items.isEmpty = false) :
    Meets (Builtin.«tuple.__mul__» ⟨[.ref l, .int 0 u], []⟩) (fun _ R s => s.heap.get? l = some { cls := .type "tuple", dict := dd, data := .seq items n, slots := sl } ∧ R (.ok (.ret (.ref s.heap.objs.size))) { s with heap := s.heap.push { cls := Value.type "tuple", data := Data.seq #[] } }) :=
  .of_wp fun prog w A R s h => by
    obtain ⟨hp, g, d, tk, os⟩ := s
    obtain ⟨hl, h⟩ := h
    have f1 := AutoSeq1.idx_int
    have c1 : (items.isEmpty || (0 : Int) == 1) = false := by rw [hne]; rfl
    have c2 : (decide ((0 : Int) ≤ 0) || items.isEmpty) = true := by simp
    wp_walk using wpAny_loadPart' hl
    repeat (first
      | (refine wpAny_ite_false (decide_eq_false (by rw [c1]; exact Bool.false_ne_true)) ?_; wp_walk using wpAny_loadPart' hl)
      | (refine wpAny_ite_false c1 ?_; wp_walk using wpAny_loadPart' hl)
      | (refine wpAny_ite_true (decide_eq_true c2) ?_; wp_walk using wpAny_loadPart' hl)
      | (refine wpAny_ite_true c2 ?_; wp_walk using wpAny_loadPart' hl))
    exact ⟨_, rfl, h⟩
def rZero (K : PySem.W.Frag) : R2 := fun x y H Q => ∃ l xs, x = .ref l ∧ y = .int 0 ∧ SqT K H l xs ∧ xs ≠ [] ∧ ∀ p, H p = none → Q (.ref p) (upd H p (.tup []))
theorem op_zero {X : Cx} : OpR X (binaryOp .Mult) (rZero X.K) := by
  intro pins s σ H x y v u Q I rx ry h
  obtain ⟨l, xs, rfl, rfl, hT, hne, q⟩ := h
  cases rx
  obtain ⟨t, rfl⟩ := ry
  obtain ⟨its, r, ⟨⟨cls, dd, data, sl⟩, ho, hc, n, hd⟩, hs⟩ := I.tuple hT
  simp only at hc hd
  subst hc hd
  have hi : its.toArray.isEmpty = false := by
    cases its with
    | nil => exact absurd (List.eq_nil_of_length_eq_zero (by have := r.length; simpa using this)) hne
    | cons a b => rfl
  refine wpAny_binaryOp_repeat_ref (T := "tuple") (U := "int") (by decide) ⟨_, ho, rfl⟩ (fun s' => typeIs_int s' 0 t) noFill_tuple_mul F.fills_int_mul F.slot_int_rmul repeat_tuple F.slot_int_index.lookup
    (call_meets F.slot_int_rmul (typeIs_int s 0 t) F.entry_int_rmul (F.args_int_rmul_2 _ _) (int_rmul_tuple 0 t l its.toArray n dd sl)
      ⟨ho, rfl, ⟨_, ho, rfl⟩, call_meets F.slot_tuple_mul ⟨_, ho, rfl⟩ F.entry_tuple_mul (F.args_tuple_mul_2 _ _) (zero_meets l its.toArray n dd sl t hi) ⟨ho, ?_⟩⟩)
  refine ⟨.ref s.heap.objs.size, _, I.laid (t' := s.toks) (o := .tup []) (fun b ob q => Heap.get?_push_of_some _ q) (Nat.le_refl _) ?_, rfl, q _ (I.hok.fresh (Nat.le_refl _))⟩
  exact ⟨Nat.zero_le _, [], .nil, IsTup.new _ _⟩
/-- t * k, k none or more -/
def rTimesZ (K : PySem.W.Frag) : R2 := fun x y H Q => rTimes K x y H Q ∨ rZero K x y H Q
theorem op_timesZ {X : Cx} : OpR X (binaryOp .Mult) (rTimesZ X.K) := op_times.or op_zero
end Fm
end FFmTimes0
section FTD
set_option Elab.async false
set_option linter.all false
set_option maxRecDepth 100000
set_option maxHeartbeats 4000000
local macro_rules | `(tactic| walk_at "ne") => `(tactic| first | assumption | (apply Ne.symm; assumption) | exact L2.ne_of_none (by assumption) (by assumption) | exact Ne.symm (L2.ne_of_none (by assumption) (by assumption)))
local macro_rules | `(tactic| walk_at "hl") => `(tactic| first | assumption | exact L2.upd_same | (refine Eq.trans (L2.upd_ne (by walk_at "ne")) ?_; walk_at "hl"))
local macro_rules | `(tactic| walk_at "sd") => `(tactic| first | (with_reducible show (_ : Int) < _; omega) | (with_reducible show (_ : Int) ≤ _; omega) | assumption | decide | exact ⟨by assumption, by assumption⟩ | exact ⟨by decide, by decide⟩ | exact Or.inr ⟨by decide, by decide⟩ | exact Or.inl ⟨by omega, by omega⟩ | rfl)
local macro_rules | `(tactic| walk_at "st1") => `(tactic| first
  | refine ⟨_, rfl, ?_⟩
  | refine ⟨_, _, rfl, rfl, ?_⟩
  | refine ⟨_, _, rfl, ?_⟩
  | (refine ⟨_, _, _, _, rfl, rfl, L2.SqL.of (by walk_at "hl"), rfl, ?_⟩)
  | (refine ⟨_, _, _, _, rfl, rfl, L2.SqT.of (by walk_at "hl"), rfl, ?_⟩)
  | (refine ⟨_, _, _, _, rfl, rfl, (by walk_at "hl"), rfl, ?_⟩)
  | (refine And.intro (by walk_at "sd") ?_)
  )
local macro_rules | `(tactic| walk_at "st") => `(tactic| repeat walk_at "st1")
local macro_rules | `(tactic| walk_at "op") => `(tactic| try dsimp only [L2.tSeq, L2.tAsg, L2.tOp, L2.tVar, L2.tC, L2.gSub, L2.rI, L2.rI0, L2.rIxL, L2.rIxT, L2.rSetL, L2.tIfS, L2.tTest, L2.tRet, L2.gName, L2.tNext, L2.tAnd, L2.tOr, L2.tNot, L2.tAndV, L2.tOrV, L2.tNotV, L2.tB, L2.tCB, L2.tCons, L2.tNil, L2.tCall, L2.tTup, L2.tLst, L2.tChain, L2.tUn, L2.tPar, L2.tDrop, L2.tIf, L2.tBM, L2.tBM0, L2.rAppend, L2.rCat, L2.rIsi, L2.rIsiT, L2.gTup, L2.gCons, L2.gNil, Fm.tFor_eq, Fm.tLc_eq, Fm.tLc2_eq, L2.iTup, L2.iList, L2.iRng1, L2.iRng2, L2.tSl, L2.tPart, L2.tNoPart, L2.rSlL, L2.rEq, L2.rNe, L2.rU, L2.rEqD, L2.rNeD, Fm.tRevT, Fm.rLenS, Fm.rTupOf, Fm.rLstOf, L2.tDNewK, L2.tCallS, L2.WE, Fm.wKeep, Fm.rIsK, Fm.rIsKT, List.cons_append, List.nil_append, L2.tYes])
namespace Fm
open PySem PySem.Spec PyProof.Rows L2
section
variable {P : Program} {w : World} {K : PySem.W.Frag} {mg : Str → Option Value} {base : Heap}
/-! ### tuples as data, how long texts are -/
theorem ne_of_none' {H : Hp} {b D : Addr} {u : HO} (hb : H b = none) (h : H D = some u) : b ≠ D := fun z => by
  rw [z, h] at hb
  cases hb
theorem sl_dat {K : PySem.W.Frag} {H : Hp} {p : Addr} {u : HO} {v : V} {ds es : List PyData} {lo hi : Option Int} {Q : VK} (hp : H p = some u) (h : Dat H p v (.tuple ds)) (e : (ds.drop (HT.sIx ds.length 0 lo)).take (HT.sIx ds.length ds.length hi - HT.sIx ds.length 0 lo) = es) (q : ∀ w G, Same H G → Dat G p w (.tuple es) → Q w G) : rSlA K v lo hi H Q := by
  have h' := h
  obtain ⟨a, xs, rfl, ha, hap, hx⟩ := h.isTup
  have hl := hx.1
  refine ⟨a, xs, rfl, SqT.of ha, fun z => ?_, fun _ r hr => ?_⟩
  · rw [hl] at z
    have e2 : ds = es := by rw [← e, z.1, z.2, List.drop_zero, Nat.sub_zero, List.take_length]
    subst e2
    exact q _ _ (fun _ _ e => e) h'
  · refine q _ _ (same_new hr) (Dat.new hr (ne_of_none' hr hp) ?_)
    rw [← e]
    unfold cutV
    rw [hl]
    generalize HT.sIx ds.length 0 lo = i
    generalize HT.sIx ds.length ds.length hi - i = j
    refine ⟨by rw [List.length_take, List.length_take, List.length_drop, List.length_drop, hx.1], fun t x d a b => ?_⟩
    rw [List.getElem?_take] at a b
    split at a
    · rename_i hi
      rw [if_pos hi, List.getElem?_drop] at b
      rw [List.getElem?_drop] at a
      exact hx.2 _ x d a b
    · cases a
theorem cat_dat {K : PySem.W.Frag} {H : Hp} {p : Addr} {u : HO} {v w : V} {ds es : List PyData} {Q : VK} (hp : H p = some u) (h : Dat H p v (.tuple ds)) (g : Dat H p w (.tuple es)) (hl : ds.length + es.length ≤ 1000) (q : ∀ x G, Same H G → Dat G p x (.tuple (ds ++ es)) → Q x G) : rCatA K v w H Q := by
  have h' := h
  have g' := g
  obtain ⟨a, xs, rfl, ha, hap, hx⟩ := h.isTup
  obtain ⟨b, ys, rfl, hb, hbp, hy⟩ := g.isTup
  refine ⟨a, b, xs, ys, rfl, rfl, SqT.of ha, SqT.of hb, len_le (by rw [hx.1, hy.1]; exact hl), fun e => ?_, fun _ e => ?_, fun _ _ r hr => ?_⟩
  · have e2 : ds = [] := List.eq_nil_of_length_eq_zero (by rw [← hx.1, e]; rfl)
    subst e2
    exact q _ _ (fun _ _ e => e) g'
  · have e2 : es = [] := List.eq_nil_of_length_eq_zero (by rw [← hy.1, e]; rfl)
    subst e2
    exact q _ _ (fun _ _ e => e) (by rw [List.append_nil]; exact h')
  · exact q _ _ (same_new hr) (Dat.new hr (ne_of_none' hr hp) (hx.app hy))
/-- a thing by itself in a tuple -/
theorem one_tup {H : Hp} {p : Addr} {u : HO} {v : V} {d : PyData} {r : Addr} (hp : H p = some u) (hr : H r = none) (h : Dat H p v d) : Dat (upd H r (.tup [v])) p (.ref r) (.tuple [d]) := Dat.new hr (ne_of_none' hr hp) (Dats.cons h Dats.nil)
theorem cut_tail (d : PyData) (ds : List PyData) : ((d :: ds).drop (HT.sIx (d :: ds).length 0 (some 1))).take (HT.sIx (d :: ds).length (d :: ds).length none - HT.sIx (d :: ds).length 0 (some 1)) = ds := by
  have e1 : HT.sIx (d :: ds).length 0 (some 1) = 1 := by
    unfold HT.sIx
    show (if (1 : Int) < 0 then _ else min ((1 : Int).toNat) (d :: ds).length) = 1
    rw [if_neg (by decide), List.length_cons]
    show min 1 _ = 1
    omega
  have e2 : HT.sIx (d :: ds).length (d :: ds).length none = (d :: ds).length := rfl
  rw [e1, e2, List.drop_succ_cons, List.drop_zero, List.length_cons, Nat.add_sub_cancel, List.take_length]
theorem cut_init (ds : List PyData) (d : PyData) : ((ds ++ [d]).drop (HT.sIx (ds ++ [d]).length 0 none)).take (HT.sIx (ds ++ [d]).length (ds ++ [d]).length (some (-1)) - HT.sIx (ds ++ [d]).length 0 none) = ds := by
  have e1 : HT.sIx (ds ++ [d]).length 0 none = 0 := rfl
  have e2 : HT.sIx (ds ++ [d]).length (ds ++ [d]).length (some (-1)) = ds.length := by
    unfold HT.sIx
    rw [List.length_append]
    show (if (-1 : Int) < 0 then _ else _) = _
    rw [if_pos (by decide)]
    show ((-1 : Int) + ((ds.length + 1 : Nat) : Int)).toNat = _
    omega
  rw [e1, e2, List.drop_zero, Nat.sub_zero, List.take_left]
theorem cut_mid (c : PyData) (ds : List PyData) (d : PyData) : ((c :: ds ++ [d]).drop (HT.sIx (c :: ds ++ [d]).length 0 (some 1))).take (HT.sIx (c :: ds ++ [d]).length (c :: ds ++ [d]).length (some (-1)) - HT.sIx (c :: ds ++ [d]).length 0 (some 1)) = ds := by
  have e0 : (c :: ds ++ [d]).length = ds.length + 2 := by rw [List.cons_append, List.length_cons, List.length_append]; rfl
  have e1 : HT.sIx (c :: ds ++ [d]).length 0 (some 1) = 1 := by
    unfold HT.sIx
    show (if (1 : Int) < 0 then _ else min ((1 : Int).toNat) (c :: ds ++ [d]).length) = 1
    rw [if_neg (by decide), e0]
    show min 1 _ = 1
    omega
  have e2 : HT.sIx (c :: ds ++ [d]).length (c :: ds ++ [d]).length (some (-1)) = ds.length + 1 := by
    unfold HT.sIx
    show (if (-1 : Int) < 0 then _ else _) = _
    rw [if_pos (by decide), e0]
    show ((-1 : Int) + ((ds.length + 2 : Nat) : Int)).toNat = _
    omega
  rw [e1, e2, List.cons_append, List.drop_succ_cons, List.drop_zero, Nat.add_sub_cancel, List.take_left]
theorem rep_dats {H : Hp} {p : Addr} {xs : List V} {ds : List PyData} (h : Dats H p xs ds) : ∀ n, Dats H p (List.replicate n xs).flatten (List.replicate n ds).flatten
  | 0 => Dats.nil
  | n + 1 => by
    rw [List.replicate_succ, List.replicate_succ, List.flatten_cons, List.flatten_cons]
    exact h.app (rep_dats h n)
theorem repl_one {α : Type} (d : α) : ∀ n : Nat, (List.replicate n [d]).flatten = List.replicate n d
  | 0 => rfl
  | n + 1 => by rw [List.replicate_succ, List.flatten_cons, repl_one d n, List.replicate_succ]; rfl
/-- a tuple of one, so many times -/
theorem times_dat {K : PySem.W.Frag} {H : Hp} {p : Addr} {u : HO} {v : V} {d : PyData} {k : Int} {Q : VK} (hp : H p = some u) (h : Dat H p v (.tuple [d])) (h0 : 0 ≤ k) (h1 : k ≤ 100) (q : ∀ x G, Same H G → Dat G p x (.tuple (List.replicate k.toNat d)) → Q x G) : rTimesZ K v (.int k) H Q := by
  have h' := h
  obtain ⟨a, xs, rfl, ha, hap, hx⟩ := h.isTup
  have hxl : xs.length = 1 := hx.1
  have hne : xs ≠ [] := fun e => by rw [e] at hxl; cases hxl
  rcases (by omega : k = 0 ∨ k = 1 ∨ 2 ≤ k) with rfl | rfl | h2
  · exact .inr ⟨a, _, rfl, rfl, SqT.of ha, hne, fun r hr => q _ _ (same_new hr) (Dat.new hr (ne_of_none' hr hp) Dats.nil)⟩
  · exact .inl (.inl ⟨a, _, rfl, rfl, SqT.of ha, q _ _ (fun _ _ e => e) h'⟩)
  · refine .inl (.inr ⟨a, k, _, rfl, rfl, SqT.of ha, hne, h2, by omega, by omega, fun r hr => q _ _ (same_new hr) ?_⟩)
    have := rep_dats hx k.toNat
    rw [repl_one d] at this
    exact Dat.new hr (ne_of_none' hr hp) this
theorem zeros_dat {K : PySem.W.Frag} {H : Hp} {p : Addr} {u : HO} {v : V} {k : Int} {Q : VK} (hp : H p = some u) (h : Dat H p v (rowD [0])) (h0 : 0 ≤ k) (h1 : k ≤ 100) (q : ∀ x G, Same H G → Dat G p x (rowD (List.replicate k.toNat 0)) → Q x G) : rTimesZ K v (.int k) H Q :=
  times_dat hp h h0 h1 fun x G s hd => q x G s (by unfold rowD; rw [List.map_replicate]; exact hd)
theorem un65 {k : Nat} {A : Around} (r : Room k A) : A.units + 65 < cLine := by have := r.un; omega
theorem pk {m : Int} (h0 : 0 ≤ m) (h : m ≤ 10 ^ 18 + 1) : m.natAbs.log2 < 9000 := by
  have q := PySem.Flt.log2_lt_of (by decide : 0 < 64) (show m.natAbs < 2 ^ 64 from Nat.lt_of_le_of_lt (show m.natAbs ≤ 10 ^ 18 + 1 by omega) (by decide))
  omega
theorem std_no (rows : List (List Int)) (x : Int) : ∀ d ∈ rows.map rowD ++ [PyData.int x], noList d = true := fun d hd => by
  rcases List.mem_append.mp hd with hd | hd
  · obtain ⟨r, _, rfl⟩ := List.mem_map.mp hd
    exact noList_of fun e he => by
      obtain ⟨c, _, rfl⟩ := List.mem_map.mp he
      unfold noList
      rfl
  · rw [List.mem_singleton.mp hd]
    unfold noList
    rfl
theorem std_nod (rows : List (List Int)) (x : Int) : (stD rows x).hasDict = false := by
  unfold stD
  simp only [PyData.hasDict]
  refine hasDict_all fun d hd => ?_
  rcases List.mem_append.mp hd with hd | hd
  · obtain ⟨r, _, rfl⟩ := List.mem_map.mp hd
    unfold rowD
    simp only [PyData.hasDict]
    refine hasDict_all fun e he => ?_
    obtain ⟨c, _, rfl⟩ := List.mem_map.mp he
    simp only [PyData.hasDict]
  · rw [List.mem_singleton.mp hd]
    simp only [PyData.hasDict]
theorem fit_rowD {r : List Int} (h : r.length ≤ 6) (hc : ∀ c ∈ r, c.natAbs < 10 ^ 40) : Fit 261 1 (rowD r) := by
  have q := fit_tup (n := 41) (k := 0) (ds := r.map PyData.int) (fun d hd => by obtain ⟨c, hm, rfl⟩ := List.mem_map.mp hd; exact fit_int (hc c hm)) (fun d hd => by obtain ⟨c, _, rfl⟩ := List.mem_map.mp hd; unfold noList; rfl)
  rw [List.length_map] at q
  exact q.mono (by omega) (Nat.le_refl _)
theorem fit_std {rows : List (List Int)} {out : Int} (hn : rows.length ≤ 4) (h : ∀ r ∈ rows, r.length ≤ 6 ∧ ∀ c ∈ r, c.natAbs < 10 ^ 40) (ho : out.natAbs < 10 ^ 40) : Fit 1400 2 (stD rows out) := by
  have q := fit_tup (n := 261) (k := 1) (ds := rows.map rowD ++ [.int out]) (fun d hd => by
    rcases List.mem_append.mp hd with hd | hd
    · obtain ⟨r, hr, rfl⟩ := List.mem_map.mp hd
      exact fit_rowD (h r hr).1 (h r hr).2
    · rw [List.mem_singleton.mp hd]
      exact (fit_int ho).mono (by omega) (by omega)) (std_no rows out)
  rw [List.length_append, List.length_map, List.length_singleton] at q
  exact q.mono (by omega) (Nat.le_refl _)

end
end Fm
end FTD
section FDR
set_option Elab.async false
set_option linter.all false
set_option maxRecDepth 100000
set_option maxHeartbeats 4000000
local macro_rules | `(tactic| walk_at "ne") => `(tactic| first | assumption | (apply Ne.symm; assumption) | exact L2.ne_of_none (by assumption) (by assumption) | exact Ne.symm (L2.ne_of_none (by assumption) (by assumption)))
local macro_rules | `(tactic| walk_at "hl") => `(tactic| first | assumption | exact L2.upd_same | (refine Eq.trans (L2.upd_ne (by walk_at "ne")) ?_; walk_at "hl"))
local macro_rules | `(tactic| walk_at "sd") => `(tactic| first | (with_reducible show (_ : Int) < _; omega) | (with_reducible show (_ : Int) ≤ _; omega) | assumption | decide | exact ⟨by assumption, by assumption⟩ | exact ⟨by decide, by decide⟩ | exact Or.inr ⟨by decide, by decide⟩ | exact Or.inl ⟨by omega, by omega⟩ | rfl)
local macro_rules | `(tactic| walk_at "st1") => `(tactic| first
  | refine ⟨_, rfl, ?_⟩
  | refine ⟨_, _, rfl, rfl, ?_⟩
  | refine ⟨_, _, rfl, ?_⟩
  | (refine ⟨_, _, _, _, rfl, rfl, L2.SqL.of (by walk_at "hl"), rfl, ?_⟩)
  | (refine ⟨_, _, _, _, rfl, rfl, L2.SqT.of (by walk_at "hl"), rfl, ?_⟩)
  | (refine ⟨_, _, _, _, rfl, rfl, (by walk_at "hl"), rfl, ?_⟩)
  | (refine And.intro (by walk_at "sd") ?_)
  )
local macro_rules | `(tactic| walk_at "st") => `(tactic| repeat walk_at "st1")
local macro_rules | `(tactic| walk_at "op") => `(tactic| try dsimp only [L2.tSeq, L2.tAsg, L2.tOp, L2.tVar, L2.tC, L2.gSub, L2.rI, L2.rI0, L2.rIxL, L2.rIxT, L2.rSetL, L2.tIfS, L2.tTest, L2.tRet, L2.gName, L2.tNext, L2.tAnd, L2.tOr, L2.tNot, L2.tAndV, L2.tOrV, L2.tNotV, L2.tB, L2.tCB, L2.tCons, L2.tNil, L2.tCall, L2.tTup, L2.tLst, L2.tChain, L2.tUn, L2.tPar, L2.tDrop, L2.tIf, L2.tBM, L2.tBM0, L2.rAppend, L2.rCat, L2.rIsi, L2.rIsiT, L2.gTup, L2.gCons, L2.gNil, Fm.tFor_eq, Fm.tLc_eq, Fm.tLc2_eq, L2.iTup, L2.iList, L2.iRng1, L2.iRng2, L2.tSl, L2.tPart, L2.tNoPart, L2.rSlL, L2.rEq, L2.rNe, L2.rU, L2.rEqD, L2.rNeD, Fm.tRevT, Fm.rLenS, Fm.rTupOf, Fm.rLstOf, L2.tDNewK, L2.tCallS, L2.WE, Fm.wKeep, Fm.rIsK, Fm.rIsKT, List.cons_append, List.nil_append, L2.tYes])
namespace Fm
open PySem PySem.Spec PyProof.Rows L2
abbrev s_meetings : Stmt := top 37
abbrev N_meetings : List Str := ["house", "standing", "told", "floor", "counts", "a", "b"]
theorem sc_meetings : FnScope N_meetings ["house", "standing"] (defScope s_meetings) := ⟨rfl, rfl, rfl, by decide +kernel, rfl, by decide +kernel, by decide +kernel⟩
abbrev s_behind : Stmt := top 40
abbrev N_behind : List Str := ["house", "standing", "meeting"]
theorem sc_behind : FnScope N_behind ["house", "standing", "meeting"] (defScope s_behind) := ⟨rfl, rfl, rfl, by decide +kernel, rfl, by decide +kernel, by decide +kernel⟩
abbrev s_is_standing : Stmt := top 34
abbrev N_is_standing : List Str := ["house", "thing", "m", "floors"]
theorem sc_is_standing : FnScope N_is_standing ["house", "thing"] (defScope s_is_standing) := ⟨rfl, rfl, rfl, by decide +kernel, rfl, by decide +kernel, by decide +kernel⟩
abbrev s_standing_of : Stmt := top 48
abbrev N_standing_of : List Str := ["house", "company", "m", "floors", "nobody"]
theorem sc_standing_of : FnScope N_standing_of ["house", "company"] (defScope s_standing_of) := ⟨rfl, rfl, rfl, by decide +kernel, rfl, by decide +kernel, by decide +kernel⟩
section
variable {P : Program} {w : World} {K : PySem.W.Frag} {mg : Str → Option Value} {base : Heap}
/-! ### the doors: what they refuse -/
def spRef3 (C Cs : Addr) : Sp := fun vs H Q E => ∃ (hv tv mv : V) (p p' : Addr) (hd td : PyData), vs = [hv, tv, mv] ∧ Dat H p hv hd ∧ Dat H p' tv td ∧
  ((∃ m n, HouseN m n hd ∧ ¬ FormD .non m n td ∧ ∀ H', Same H H' → E (.ref Cs) none H') ∨ (¬ HouseD hd ∧ E (.ref C) none H))
def spIsSt (C : Addr) : Sp := fun vs H Q E => ∃ (hv tv : V) (p p' : Addr) (hd td : PyData), vs = [hv, tv] ∧ Dat H p hv hd ∧ Dat H p' tv td ∧
  (∀ m n, HouseN m n hd → ∀ (b : Bool) H', (b = true ↔ FormD (.int 1000000000000000000) m n td) → Same H H' → Q (.bl b) H') ∧ (¬ HouseD hd → E (.ref C) none H)
def spTogRef (C Cs : Addr) : Sp := fun vs H Q E => ∃ (hv v1 v2 : V) (p p1 p2 : Addr) (hd d1 d2 : PyData), vs = [hv, v1, v2] ∧ Dat H p hv hd ∧ Dat H p1 v1 d1 ∧ Dat H p2 v2 d2 ∧
  ((∃ m n, HouseN m n hd ∧ (¬ FormD .non m n d1 ∨ ¬ FormD .non m n d2) ∧ ∀ H', Same H H' → E (.ref Cs) none H') ∨ (¬ HouseD hd ∧ E (.ref C) none H))
def spStOf (C Cc : Addr) : Sp := fun vs H Q E => ∃ (hv tv : V) (p p' : Addr) (hd td : PyData) (u : HO), vs = [hv, tv] ∧ H p' = some u ∧ Dat H p hv hd ∧ Dat H p' tv td ∧
  (∀ m n, HouseN m n hd → (∀ (c : List Int) v H', td = rowD c → c.length = m → (∀ x ∈ c, 0 ≤ x ∧ x ≤ 1000000000000000000) → Dat H' p' v (stD (c :: List.replicate (n - 1) (List.replicate m 0)) 0) → Same H H' → Q v H') ∧
    (¬ AreD (.int 1000000000000000000) m td → ∀ H', Same H H' → E (.ref Cc) none H')) ∧ (¬ HouseD hd → E (.ref C) none H)
theorem ints_of : ∀ {ds : List PyData}, (∀ e ∈ ds, UpTo (.int 1000000000000000000) e) → ∃ c : List Int, ds = c.map PyData.int ∧ ∀ x ∈ c, 0 ≤ x ∧ x ≤ 1000000000000000000
  | [], _ => ⟨[], rfl, fun x hx => by cases hx⟩
  | d :: ds, h => by
    obtain ⟨i, rfl, h0, h1⟩ := h d List.mem_cons_self
    obtain ⟨c, rfl, hc⟩ := ints_of fun e he => h e (List.mem_cons_of_mem _ he)
    exact ⟨i :: c, rfl, fun x hx => by
      rcases List.mem_cons.mp hx with rfl | hx
      · exact ⟨h0, h1 _ rfl⟩
      · exact hc x hx⟩
theorem okD_meetings (D : Df K mg "meetings" s_meetings ["house", "standing"]) {C Cs : Addr} (c_check_standing : CallOk P w K mg base (L2.CX P w) 7 "check_standing" ["house", "standing"] (spRef C Cs)) : CallOk P w K mg base (L2.CX P w) 8 "meetings" ["house", "standing"] (spRef C Cs) := by
  refine df_okX D sc_meetings (fun vs H Q E h => ?_) (fun f cdv A outer s H vs Q E hr h => ?_)
  · obtain ⟨hv, tv, p, p', hd, td, rfl, _⟩ := h
    rfl
  · obtain ⟨hv, tv, p, p', hd, td, rfl, hD, tD, k⟩ := h
    have nd := sc_meetings.nd
    refine ⟨_, (pss_cons (ps_expr (pe_cs c_check_standing (takes_of rfl rfl rfl rfl) (hr.mono (by omega)) (pa_cons (pv 0) (pa_cons (pv 1) pa_nil))))
      pss_never), ?_⟩
    walk_at "op"
    exact ⟨_, rfl, _, rfl, hv, tv, p, p', hd, td, rfl, hD, tD, k⟩
theorem okD_is_rest (D : Df K mg "is_rest" s_is_rest ["house", "standing"]) {C Cs : Addr} (c_check_standing : CallOk P w K mg base (L2.CX P w) 7 "check_standing" ["house", "standing"] (spRef C Cs)) : CallOk P w K mg base (L2.CX P w) 8 "is_rest" ["house", "standing"] (spRef C Cs) := by
  refine df_okX D sc_is_rest (fun vs H Q E h => ?_) (fun f cdv A outer s H vs Q E hr h => ?_)
  · obtain ⟨hv, tv, p, p', hd, td, rfl, _⟩ := h
    rfl
  · obtain ⟨hv, tv, p, p', hd, td, rfl, hD, tD, k⟩ := h
    have nd := sc_is_rest.nd
    refine ⟨_, (pss_cons (ps_expr (pe_cs c_check_standing (takes_of rfl rfl rfl rfl) (hr.mono (by omega)) (pa_cons (pv 0) (pa_cons (pv 1) pa_nil)))) pss_never), ?_⟩
    walk_at "op"
    exact ⟨_, rfl, _, rfl, hv, tv, p, p', hd, td, rfl, hD, tD, k⟩
theorem okD_how_long (D : Df K mg "how_long" s_how_long ["house", "standing"]) {C Cs : Addr} (c_check_standing : CallOk P w K mg base (L2.CX P w) 7 "check_standing" ["house", "standing"] (spRef C Cs)) : CallOk P w K mg base (L2.CX P w) 8 "how_long" ["house", "standing"] (spRef C Cs) := by
  refine df_okX D sc_how_long (fun vs H Q E h => ?_) (fun f cdv A outer s H vs Q E hr h => ?_)
  · obtain ⟨hv, tv, p, p', hd, td, rfl, _⟩ := h
    rfl
  · obtain ⟨hv, tv, p, p', hd, td, rfl, hD, tD, k⟩ := h
    have nd := sc_how_long.nd
    refine ⟨_, (pss_cons (ps_expr (pe_cs c_check_standing (takes_of rfl rfl rfl rfl) (hr.mono (by omega)) (pa_cons (pv 0) (pa_cons (pv 1) pa_nil)))) pss_never), ?_⟩
    walk_at "op"
    exact ⟨_, rfl, _, rfl, hv, tv, p, p', hd, td, rfl, hD, tD, k⟩
theorem okD_who_rests (D : Df K mg "who_rests" s_who_rests ["house", "standing"]) {C Cs : Addr} (c_check_standing : CallOk P w K mg base (L2.CX P w) 7 "check_standing" ["house", "standing"] (spRef C Cs)) : CallOk P w K mg base (L2.CX P w) 8 "who_rests" ["house", "standing"] (spRef C Cs) := by
  refine df_okX D sc_who_rests (fun vs H Q E h => ?_) (fun f cdv A outer s H vs Q E hr h => ?_)
  · obtain ⟨hv, tv, p, p', hd, td, rfl, _⟩ := h
    rfl
  · obtain ⟨hv, tv, p, p', hd, td, rfl, hD, tD, k⟩ := h
    have nd := sc_who_rests.nd
    refine ⟨_, (pss_cons (ps_expr (pe_cs c_check_standing (takes_of rfl rfl rfl rfl) (hr.mono (by omega)) (pa_cons (pv 0) (pa_cons (pv 1) pa_nil)))) pss_never), ?_⟩
    walk_at "op"
    exact ⟨_, rfl, _, rfl, hv, tv, p, p', hd, td, rfl, hD, tD, k⟩
theorem okD_behind (D : Df K mg "behind" s_behind ["house", "standing", "meeting"]) {C Cs : Addr} (c_check_standing : CallOk P w K mg base (L2.CX P w) 7 "check_standing" ["house", "standing"] (spRef C Cs)) : CallOk P w K mg base (L2.CX P w) 8 "behind" ["house", "standing", "meeting"] (spRef3 C Cs) := by
  refine df_okX D sc_behind (fun vs H Q E h => ?_) (fun f cdv A outer s H vs Q E hr h => ?_)
  · obtain ⟨hv, tv, mv, p, p', hd, td, rfl, _⟩ := h
    rfl
  · obtain ⟨hv, tv, mv, p, p', hd, td, rfl, hD, tD, k⟩ := h
    have nd := sc_behind.nd
    refine ⟨_, (pss_cons (ps_expr (pe_cs c_check_standing (takes_of rfl rfl rfl rfl) (hr.mono (by omega)) (pa_cons (pv 0) (pa_cons (pv 1) pa_nil))))
      pss_never), ?_⟩
    walk_at "op"
    exact ⟨_, rfl, _, rfl, hv, tv, p, p', hd, td, rfl, hD, tD, k⟩
theorem okD_is_standing (D : Df K mg "is_standing" s_is_standing ["house", "thing"]) {t18 : Tok} (c_MOST_COUNT : mg "MOST_COUNT" = some (.int 1000000000000000000 t18)) {C : Addr}
    (c_size : CallOk P w K mg base (L2.CX P w) 6 "size" ["house"] (spSize C)) (c_has_form : CallOk P w K mg base CX0 4 "has_form" ["thing", "m", "floors", "most"] spFormD) : CallOk P w K mg base (L2.CX P w) 7 "is_standing" ["house", "thing"] (spIsSt C) := by
  refine df_okX D sc_is_standing (fun vs H Q E h => ?_) (fun f cdv A outer s H vs Q E hr h => ?_)
  · obtain ⟨hv, tv, p, p', hd, td, rfl, _⟩ := h
    rfl
  · obtain ⟨hv, tv, p, p', hd, td, rfl, hD, tD, k1, k2⟩ := h
    have nd := sc_is_standing.nd
    refine ⟨_, (pss_cons (ps_asg (pe_cs c_size (takes_of rfl rfl rfl rfl) (hr.mono (by omega)) (pa_cons (pv 0) pa_nil)) (pg_tup rfl (pgs_cons (pg_name (i := 2) nd rfl (Or.inl rfl)) (pgs_cons (pg_name (i := 3) nd rfl (Or.inl rfl)) pgs_nil))))
      (pss_one (ps_ret (pe_cc c_has_form (hr.mono (by omega)) (pa_cons (pv 1) (pa_cons (pv 2) (pa_cons (pv 3) (pa_cons (pe_glob (v := .int 1000000000000000000) rfl c_MOST_COUNT ⟨_, rfl⟩) pa_nil)))))))), ?_⟩
    walk_at "op"
    walk_at "st"
    refine ⟨hv, p, hd, rfl, hD, fun m n hN q H' hq hq2 sm => ?_, k2⟩
    refine ⟨q, _, rfl, SqT.of hq2, rfl, _, _, rfl, _, _, rfl, rfl, ?_⟩
    obtain ⟨_, _, _, _, hn4, _⟩ := id hN
    walk_at "op"
    walk_at "st"
    exact ⟨tv, .int 1000000000000000000, p', m, n, td, rfl, tD.same sm, hn4, .inr ⟨_, rfl⟩, fun b H2 hb sm2 => k1 m n hN b H2 hb (sm.trans sm2)⟩
theorem okD_together (D : Df K mg "together" s_together ["house", "one", "other"]) (T : Nms mg) {C M Cs : Addr} (EX_NoStanding : Exn K mg "NoStanding" Cs M)
    (c_size : CallOk P w K mg base (L2.CX P w) 6 "size" ["house"] (spSize C)) (c_has_form : CallOk P w K mg base CX0 4 "has_form" ["thing", "m", "floors", "most"] spFormD) :
    CallOk P w K mg base (L2.CX P w) 7 "together" ["house", "one", "other"] (spTogRef C Cs) := by
  refine df_okX D sc_together (fun vs H Q E h => ?_) (fun f cdv A outer s H vs Q E hr h => ?_)
  · obtain ⟨hv, v1, v2, p, p1, p2, hd, d1, d2, rfl, _⟩ := h
    rfl
  · obtain ⟨hv, v1, v2, p, p1, p2, hd, d1, d2, rfl, hD, h1, h2, k⟩ := h
    have nd := sc_together.nd
    refine ⟨_, (pss_cons (ps_asg (pe_cs c_size (takes_of rfl rfl rfl rfl) (hr.mono (by omega)) (pa_cons (pv 0) pa_nil)) (pg_tup rfl (pgs_cons (pg_name (i := 3) nd rfl (Or.inl rfl)) (pgs_cons (pg_name (i := 4) nd rfl (Or.inl rfl)) pgs_nil))))
      (pss_cons (ps_if (PW.pt (pw_or (pt_not (pt_val (pe_cc c_has_form (hr.mono (by omega)) (pa_cons (pv 1) (pa_cons (pv 3) (pa_cons (pv 4) (pa_cons pe_non pa_nil))))))) (pw_or1 (pt_not (pt_val (pe_cc c_has_form (hr.mono (by omega)) (pa_cons (pv 2) (pa_cons (pv 3) (pa_cons (pv 4) (pa_cons pe_non pa_nil)))))))))) (pss_one (ps_raiseE rfl (takes_of rfl rfl rfl rfl) EX_NoStanding rfl)) pss_nil) pss_never)), ?_⟩
    walk_at "op"
    walk_at "st"
    rcases k with ⟨m, n, hN, hno, k⟩ | ⟨hno, k⟩
    · refine ⟨hv, p, hd, rfl, hD, fun m' n' hN' q H' hq hq2 sm => ?_, fun no => (no ⟨m, n, hN⟩).elim⟩
      obtain ⟨rfl, rfl⟩ := houseN_inj hN hN'
      refine ⟨q, _, rfl, SqT.of hq2, rfl, _, _, rfl, _, _, rfl, rfl, ?_⟩
      walk_at "op"
      walk_at "st"
      obtain ⟨_, _, _, hn1, hn4, _⟩ := hN
      refine ⟨v1, .non, p1, m, n, d1, rfl, h1.same sm, hn4, .inl rfl, fun b H2 hb sm2 => ?_⟩
      walk_at "st"
      cases b with
      | false => exact iteT (k _ (sm.trans sm2))
      | true =>
        refine iteF ?_
        walk_at "st"
        refine ⟨v2, .non, p2, m, n, d2, rfl, h2.same (sm.trans sm2), hn4, .inl rfl, fun b' H3 hb' sm3 => ?_⟩
        walk_at "st"
        cases b' with
        | false => exact iteT (k _ ((sm.trans sm2).trans sm3))
        | true =>
          rcases hno with hno | hno
          · exact absurd (hb.mp rfl) hno
          · exact absurd (hb'.mp rfl) hno
    · exact ⟨hv, p, hd, rfl, hD, fun m' n' hN' => (hno ⟨m', n', hN'⟩).elim, fun _ => k⟩
theorem okD_standing_of (D : Df K mg "standing_of" s_standing_of ["house", "company"]) (T : Nms mg) {t18 : Tok} (c_MOST_COUNT : mg "MOST_COUNT" = some (.int 1000000000000000000 t18)) {C M Cc : Addr} (EX_NoCompany : Exn K mg "NoCompany" Cc M)
    (c_size : CallOk P w K mg base (L2.CX P w) 6 "size" ["house"] (spSize C)) (c_are_up_to : CallOk P w K mg base CX0 3 "are_up_to" ["thing", "many", "most"] spAre) :
    CallOk P w K mg base (L2.CX P w) 7 "standing_of" ["house", "company"] (spStOf C Cc) := by
  refine df_okX D sc_standing_of (fun vs H Q E h => ?_) (fun f cdv A outer s H vs Q E hr h => ?_)
  · obtain ⟨hv, tv, p, p', hd, td, u, rfl, _⟩ := h
    rfl
  · obtain ⟨hv, tv, p, p', hd, td, u, rfl, hp, hD, tD, k1, k2⟩ := h
    have nd := sc_standing_of.nd
    refine ⟨_, (pss_cons (ps_asg (pe_cs c_size (takes_of rfl rfl rfl rfl) (hr.mono (by omega)) (pa_cons (pv 0) pa_nil)) (pg_tup rfl (pgs_cons (pg_name (i := 2) nd rfl (Or.inl rfl)) (pgs_cons (pg_name (i := 3) nd rfl (Or.inl rfl)) pgs_nil))))
      (pss_cons (ps_if (pt_not (pt_val (pe_cc c_are_up_to (hr.mono (by omega)) (pa_cons (pv 1) (pa_cons (pv 2) (pa_cons (pe_glob (v := .int 1000000000000000000) rfl c_MOST_COUNT ⟨_, rfl⟩) pa_nil)))))) (pss_one (ps_raiseE rfl (takes_of rfl rfl rfl rfl) EX_NoCompany rfl)) pss_nil)
      (pss_cons (ps_set (i := 4) nd rfl (Or.inl rfl) (pe_op (r := rTimesZ K) op_timesZ (pe_tup (pa_cons pe_int pa_nil)) (pv 2)))
      (pss_one (ps_ret (pe_op (r := rCatA K) op_catA (pe_op (r := rCatA K) op_catA (pe_tup (pa_cons (pe_callTy (r := rTupOf K) call_tupOf (by rfl) T.n_tuple (by decide +kernel) (pa_cons (pv 1) pa_nil)) pa_nil)) (pe_op (r := rTimesZ K) op_timesZ (pe_tup (pa_cons (pv 4) pa_nil)) (pe_op op_sub (pv 3) pe_int))) (pe_tup (pa_cons pe_int pa_nil)))))))), ?_⟩
    walk_at "op"
    walk_at "st"
    refine ⟨hv, p, hd, rfl, hD, fun m n hN q H' hq hq2 sm => ?_, k2⟩
    refine ⟨q, _, rfl, SqT.of hq2, rfl, _, _, rfl, _, _, rfl, rfl, ?_⟩
    obtain ⟨hk1, hk2⟩ := k1 m n hN
    obtain ⟨_, _, _, hn1, hn4, hm1, hm6, _⟩ := id hN
    walk_at "op"
    walk_at "st"
    refine ⟨tv, _, _, p', td, rfl, tD.same sm, .inr ⟨_, rfl⟩, fun b hb => ?_⟩
    walk_at "st"
    cases b with
    | false => exact iteT (hk2 (fun hA => Bool.noConfusion (hb.mpr hA)) _ sm)
    | true =>
      obtain ⟨ds, rfl, hdl, hall⟩ := hb.mp rfl
      obtain ⟨c, rfl, hc⟩ : ∃ c : List Int, ds = c.map PyData.int ∧ ∀ x ∈ c, 0 ≤ x ∧ x ≤ 1000000000000000000 := ints_of hall
      rw [List.length_map] at hdl
      refine iteF ?_
      have hu := sm _ _ hp
      have tD' := tD.same sm
      walk_at "op"
      have hst : (List.set (L2.start N_standing_of [hv, tv]) 2 (some (V.int (m : Nat)))).set 3 (some (V.int (n : Nat))) = [some hv, some tv, some (.int (m : Nat)), some (.int (n : Nat)), none] := rfl
      rw [hst]
      refine ⟨by show 1 ≤ sizeLine; decide, fun t1 ht1 => ?_⟩
      have d1 : Dat (upd H' t1 (.tup [V.int 0])) p' (.ref t1) (rowD [0]) := one_tup hu ht1 (.int 0)
      have st := same_new (o := .tup [V.int 0]) ht1
      replace sm := sm.trans st
      replace hu := st _ _ hu
      replace tD' := tD'.same st
      generalize upd H' t1 (.tup [V.int 0]) = G1 at *
      refine ⟨_, rfl, zeros_dat hu d1 (by omega) (by omega) fun z G2 st dz => ?_⟩
      rw [Int.toNat_natCast] at dz
      replace sm := sm.trans st
      replace hu := st _ _ hu
      replace tD' := tD'.same st
      try dsimp only [List.set]
      obtain ⟨at_, xs, rfl, hat, hap, hx⟩ := tD'.isTup
      refine ⟨_, rfl, at_, xs, rfl, .inr ⟨SqT.of hat, ?_⟩⟩
      refine ⟨by show 1 ≤ sizeLine; decide, fun t2 ht2 => ?_⟩
      have d2 := one_tup hu ht2 tD'
      have st := same_new (o := .tup [V.ref at_]) ht2
      replace sm := sm.trans st
      replace hu := st _ _ hu
      replace dz := dz.same st
      generalize upd G2 t2 (.tup [V.ref at_]) = G3 at *
      refine ⟨_, rfl, by show 1 ≤ sizeLine; decide, fun t3 ht3 => ?_⟩
      have d3 := one_tup hu ht3 dz
      have st := same_new (o := .tup [z]) ht3
      replace sm := sm.trans st
      replace hu := st _ _ hu
      replace d2 := d2.same st
      generalize upd G3 t3 (.tup [z]) = G4 at *
      refine ⟨_, rfl, _, _, rfl, rfl, times_dat hu d3 (by omega) (by omega) fun y G5 st dy => ?_⟩
      replace sm := sm.trans st
      replace hu := st _ _ hu
      replace d2 := d2.same st
      rw [show ((n : Int) - 1).toNat = n - 1 by omega] at dy
      refine cat_dat hu d2 dy (by simp; omega) fun y2 G6 st dy2 => ?_
      replace sm := sm.trans st
      replace hu := st _ _ hu
      refine ⟨by show 1 ≤ sizeLine; decide, fun t4 ht4 => ?_⟩
      have d4 := one_tup hu ht4 (.int 0)
      have st := same_new (o := .tup [V.int 0]) ht4
      replace sm := sm.trans st
      replace hu := st _ _ hu
      replace dy2 := dy2.same st
      generalize upd G6 t4 (.tup [V.int 0]) = G7 at *
      refine cat_dat hu dy2 d4 (by simp; omega) fun y3 G8 st dy3 => ?_
      refine hk1 c _ _ rfl (by omega) hc ?_ (sm.trans st)
      unfold stD
      rw [List.map_cons, List.map_replicate]
      exact dy3

end
end Fm
end FDR
section FNB
set_option Elab.async false
set_option linter.all false
set_option maxRecDepth 100000
set_option maxHeartbeats 4000000
local macro_rules | `(tactic| walk_at "ne") => `(tactic| first | assumption | (apply Ne.symm; assumption) | exact L2.ne_of_none (by assumption) (by assumption) | exact Ne.symm (L2.ne_of_none (by assumption) (by assumption)))
local macro_rules | `(tactic| walk_at "hl") => `(tactic| first | assumption | exact L2.upd_same | (refine Eq.trans (L2.upd_ne (by walk_at "ne")) ?_; walk_at "hl"))
local macro_rules | `(tactic| walk_at "sd") => `(tactic| first | (with_reducible show (_ : Int) < _; omega) | (with_reducible show (_ : Int) ≤ _; omega) | assumption | decide | exact ⟨by assumption, by assumption⟩ | exact ⟨by decide, by decide⟩ | exact Or.inr ⟨by decide, by decide⟩ | exact Or.inl ⟨by omega, by omega⟩ | rfl)
local macro_rules | `(tactic| walk_at "st1") => `(tactic| first
  | refine ⟨_, rfl, ?_⟩
  | refine ⟨_, _, rfl, rfl, ?_⟩
  | refine ⟨_, _, rfl, ?_⟩
  | (refine ⟨_, _, _, _, rfl, rfl, L2.SqL.of (by walk_at "hl"), rfl, ?_⟩)
  | (refine ⟨_, _, _, _, rfl, rfl, L2.SqT.of (by walk_at "hl"), rfl, ?_⟩)
  | (refine ⟨_, _, _, _, rfl, rfl, (by walk_at "hl"), rfl, ?_⟩)
  | (refine And.intro (by walk_at "sd") ?_)
  )
local macro_rules | `(tactic| walk_at "st") => `(tactic| repeat walk_at "st1")
local macro_rules | `(tactic| walk_at "op") => `(tactic| try dsimp only [L2.tSeq, L2.tAsg, L2.tOp, L2.tVar, L2.tC, L2.gSub, L2.rI, L2.rI0, L2.rIxL, L2.rIxT, L2.rSetL, L2.tIfS, L2.tTest, L2.tRet, L2.gName, L2.tNext, L2.tAnd, L2.tOr, L2.tNot, L2.tAndV, L2.tOrV, L2.tNotV, L2.tB, L2.tCB, L2.tCons, L2.tNil, L2.tCall, L2.tTup, L2.tLst, L2.tChain, L2.tUn, L2.tPar, L2.tDrop, L2.tIf, L2.tBM, L2.tBM0, L2.rAppend, L2.rCat, L2.rIsi, L2.rIsiT, L2.gTup, L2.gCons, L2.gNil, Fm.tFor_eq, Fm.tLc_eq, Fm.tLc2_eq, L2.iTup, L2.iList, L2.iRng1, L2.iRng2, L2.tSl, L2.tPart, L2.tNoPart, L2.rSlL, L2.rEq, L2.rNe, L2.rU, L2.rEqD, L2.rNeD, Fm.tRevT, Fm.rLenS, Fm.rTupOf, Fm.rLstOf, L2.tDNewK, L2.tCallS, L2.WE, Fm.wKeep, Fm.rIsK, Fm.rIsKT, List.cons_append, List.nil_append, L2.tYes])
namespace Fm
open PySem PySem.Spec PyProof.Rows L2
abbrev s_law_nobody : Stmt := top 64
abbrev N_law_nobody : List Str := ["house"]
theorem sc_law_nobody : FnScope N_law_nobody ["house"] (defScope s_law_nobody) := ⟨rfl, rfl, rfl, by decide +kernel, rfl, by decide +kernel, by decide +kernel⟩
section
variable {P : Program} {w : World} {K : PySem.W.Frag} {mg : Str → Option Value} {base : Heap}
theorem house_m {H : Hp} {p : Addr} {hv : V} {fs : List PyData} {m n : Nat} (hD : Dat H p hv (.tuple fs)) (hN : HouseN m n (.tuple fs)) : ∃ (ah a0 af : Addr) (hs y0 ys : List V), hv = .ref ah ∧ H ah = some (.tup hs) ∧ hs.length = n ∧ hs[0]? = some (.ref a0) ∧ H a0 = some (.tup y0) ∧ y0[0]? = some (.ref af) ∧ H af = some (.tup ys) ∧ ys.length = m := by
  obtain ⟨fs', e0, hl, h1, _, _, _, hf⟩ := id hN
  cases e0
  obtain ⟨a, xs, rfl, ha, _, hs⟩ := hD.isTup
  have hd0 : fs[0]? = some fs[0] := List.getElem?_eq_getElem (by omega)
  obtain ⟨s0, u0, e0, ⟨rs, e1, e2, _⟩, _⟩ := hf fs[0] (List.getElem_mem _)
  rw [e0] at hd0
  subst e1
  obtain ⟨x0, hx0, hdx0⟩ := hs.back hd0
  obtain ⟨a0, y0, rfl, ha0, _, hs0⟩ := hdx0.isTup
  obtain ⟨z0, hz0, hdz0⟩ := hs0.back (i := 0) rfl
  obtain ⟨af, yf, rfl, haf, _, hsf⟩ := hdz0.isTup
  exact ⟨a, a0, af, xs, y0, yf, rfl, ha, by rw [hs.1, hl], hx0, ha0, hz0, haf, by rw [hsf.1, e2]⟩
def spNobody : Sp := fun vs H Q _ => ∃ (hv : V) (p : Addr) (u : HO) (fs : List PyData) (m n : Nat), vs = [hv] ∧ H p = some u ∧ Dat H p hv (.tuple fs) ∧ HouseN m n (.tuple fs) ∧ ∀ v H', Dat H' p v (stD (List.replicate n (List.replicate m 0)) 0) → Same H H' → Q v H'
theorem ok_law_nobody (D : Df K mg "_law_nobody" s_law_nobody ["house"]) (T : Nms mg) : CallOk P w K mg base CX0 1 "_law_nobody" ["house"] spNobody := by
  refine df_ok D sc_law_nobody (fun vs H Q E h => ?_) (fun f cdv A outer s H vs Q E hr h => ?_)
  · obtain ⟨hv, p, u, fs, m, n, rfl, _⟩ := h
    rfl
  · obtain ⟨hv, p, u, fs, m, n, rfl, hu, hD, hN, k⟩ := h
    have nd := sc_law_nobody.nd
    obtain ⟨_, _, _, hn1, hn4, hm1, hm6, _⟩ := id hN
    obtain ⟨ah, a0, af, hs, y0, ys, rfl, g1, g2, g3, g4, g5, g6, g7⟩ := house_m hD hN
    refine ⟨_, (pss_one (ps_ret (pe_op (r := rCatA K) op_catA (pe_op (r := rTimesZ K) op_timesZ (pe_tup (pa_cons (pe_op (r := rTimesZ K) op_timesZ (pe_tup (pa_cons pe_int pa_nil)) (pe_callB (r := rLenS K) call_lenS (by rfl) T.n_len (by decide +kernel) (pa_cons (pe_ix (r := rIxT K) ix_tup (pe_ix (r := rIxT K) ix_tup (pv 0) pe_int (fun _ _ => rfl)) pe_int (fun _ _ => rfl)) pa_nil))) pa_nil)) (pe_callB (r := rLenS K) call_lenS (by rfl) T.n_len (by decide +kernel) (pa_cons (pv 0) pa_nil))) (pe_tup (pa_cons pe_int pa_nil))))), ?_⟩
    walk_at "op"
    refine ⟨by show 1 ≤ sizeLine; decide, fun t1 ht1 => ?_⟩
    have d1 : Dat (upd H t1 (.tup [V.int 0])) p (.ref t1) (rowD [0]) := one_tup hu ht1 (.int 0)
    have sm := same_new (o := .tup [V.int 0]) ht1
    replace hu := sm _ _ hu
    generalize upd H t1 (.tup [V.int 0]) = G1 at *
    refine ⟨_, rfl, ah, hs, 0, _, rfl, rfl, SqT.of (sm _ _ g1), atI_nat (j := 0) g3, a0, y0, 0, _, rfl, rfl, SqT.of (sm _ _ g4), atI_nat (j := 0) g5, af, ys, rfl, .inr (SqT.of (sm _ _ g6)), ?_⟩
    rw [g7]
    refine zeros_dat hu d1 (by omega) (by omega) fun z G2 st dz => ?_
    rw [Int.toNat_natCast] at dz
    replace sm := sm.trans st
    replace hu := st _ _ hu
    refine ⟨by show 1 ≤ sizeLine; decide, fun t2 ht2 => ?_⟩
    have d2 := one_tup hu ht2 dz
    have st := same_new (o := .tup [z]) ht2
    replace sm := sm.trans st
    replace hu := st _ _ hu
    generalize upd G2 t2 (.tup [z]) = G3 at *
    refine ⟨_, rfl, ah, hs, rfl, .inr (SqT.of (sm _ _ g1)), ?_⟩
    rw [g2]
    refine times_dat hu d2 (by omega) (by omega) fun y G4 st dy => ?_
    rw [Int.toNat_natCast] at dy
    replace sm := sm.trans st
    replace hu := st _ _ hu
    refine ⟨by show 1 ≤ sizeLine; decide, fun t3 ht3 => ?_⟩
    have d3 := one_tup hu ht3 (.int 0)
    have st := same_new (o := .tup [V.int 0]) ht3
    replace sm := sm.trans st
    replace hu := st _ _ hu
    replace dy := dy.same st
    generalize upd G4 t3 (.tup [V.int 0]) = G5 at *
    refine cat_dat hu dy d3 (by simp; omega) fun x G6 st dx => ?_
    refine k _ _ ?_ (sm.trans st)
    unfold stD
    rw [List.map_replicate]
    exact dx
theorem are_row {m : Nat} {c : List Int} (h : c.length = m) (hx : ∀ x ∈ c, 0 ≤ x ∧ x ≤ 1000000000000000000) : AreD (.int 1000000000000000000) m (rowD c) :=
  ⟨c.map PyData.int, rfl, by rw [List.length_map, h], fun e he => by
    obtain ⟨x, hxm, rfl⟩ := List.mem_map.mp he
    exact ⟨x, rfl, (hx x hxm).1, fun M e => by
      cases e
      exact (hx x hxm).2⟩⟩

end
end Fm
end FNB
section FLD
set_option Elab.async false
set_option linter.all false
set_option maxRecDepth 100000
set_option maxHeartbeats 4000000
local macro_rules | `(tactic| walk_at "ne") => `(tactic| first | assumption | (apply Ne.symm; assumption) | exact L2.ne_of_none (by assumption) (by assumption) | exact Ne.symm (L2.ne_of_none (by assumption) (by assumption)))
local macro_rules | `(tactic| walk_at "hl") => `(tactic| first | assumption | exact L2.upd_same | (refine Eq.trans (L2.upd_ne (by walk_at "ne")) ?_; walk_at "hl"))
local macro_rules | `(tactic| walk_at "sd") => `(tactic| first | (with_reducible show (_ : Int) < _; omega) | (with_reducible show (_ : Int) ≤ _; omega) | assumption | decide | exact ⟨by assumption, by assumption⟩ | exact ⟨by decide, by decide⟩ | exact Or.inr ⟨by decide, by decide⟩ | exact Or.inl ⟨by omega, by omega⟩ | rfl)
local macro_rules | `(tactic| walk_at "st1") => `(tactic| first
  | refine ⟨_, rfl, ?_⟩
  | refine ⟨_, _, rfl, rfl, ?_⟩
  | refine ⟨_, _, rfl, ?_⟩
  | (refine ⟨_, _, _, _, rfl, rfl, L2.SqL.of (by walk_at "hl"), rfl, ?_⟩)
  | (refine ⟨_, _, _, _, rfl, rfl, L2.SqT.of (by walk_at "hl"), rfl, ?_⟩)
  | (refine ⟨_, _, _, _, rfl, rfl, (by walk_at "hl"), rfl, ?_⟩)
  | (refine And.intro (by walk_at "sd") ?_)
  )
local macro_rules | `(tactic| walk_at "st") => `(tactic| repeat walk_at "st1")
local macro_rules | `(tactic| walk_at "op") => `(tactic| try dsimp only [L2.tSeq, L2.tAsg, L2.tOp, L2.tVar, L2.tC, L2.gSub, L2.rI, L2.rI0, L2.rIxL, L2.rIxT, L2.rSetL, L2.tIfS, L2.tTest, L2.tRet, L2.gName, L2.tNext, L2.tAnd, L2.tOr, L2.tNot, L2.tAndV, L2.tOrV, L2.tNotV, L2.tB, L2.tCB, L2.tCons, L2.tNil, L2.tCall, L2.tTup, L2.tLst, L2.tChain, L2.tUn, L2.tPar, L2.tDrop, L2.tIf, L2.tBM, L2.tBM0, L2.rAppend, L2.rCat, L2.rIsi, L2.rIsiT, L2.gTup, L2.gCons, L2.gNil, Fm.tFor_eq, Fm.tLc_eq, Fm.tLc2_eq, L2.iTup, L2.iList, L2.iRng1, L2.iRng2, L2.tSl, L2.tPart, L2.tNoPart, L2.rSlL, L2.rEq, L2.rNe, L2.rU, L2.rEqD, L2.rNeD, Fm.tRevT, Fm.rLenS, Fm.rTupOf, Fm.rLstOf, L2.tDNewK, L2.tCallS, L2.WE, Fm.wKeep, Fm.rIsK, Fm.rIsKT, List.cons_append, List.nil_append, L2.tYes])
namespace Fm
open PySem PySem.Spec PyProof.Rows L2
abbrev s_law_is_count : Stmt := top 61
abbrev N_law_is_count : List Str := ["thing"]
theorem sc_law_is_count : FnScope N_law_is_count ["thing"] (defScope s_law_is_count) := ⟨rfl, rfl, rfl, by decide +kernel, rfl, by decide +kernel, by decide +kernel⟩
abbrev s_law_due : Stmt := top 62
abbrev N_law_due : List Str := ["house", "thing", "counts", "count"]
theorem sc_law_due : FnScope N_law_due ["house", "thing"] (defScope s_law_due) := ⟨rfl, rfl, rfl, by decide +kernel, rfl, by decide +kernel, by decide +kernel⟩
section
variable {P : Program} {w : World} {K : PySem.W.Frag} {mg : Str → Option Value} {base : Heap}
/-- laid, not too deep, without a dict -/
structure Good (k : Nat) (d : PyData) : Prop where
  lay : d.canLay0 = true
  dep : d.depth ≤ k
  dic : d.hasDict = false
theorem good_all {k : Nat} : ∀ {ds : List PyData}, (PyData.canLayAll0 ds = true ∧ PyData.depthAll ds ≤ k ∧ PyData.hasDictAll ds = false) ↔ ∀ d ∈ ds, Good k d
  | [] => by simp [PyData.canLayAll0, PyData.depthAll, PyData.hasDictAll]
  | d :: r => by
    have ih := good_all (k := k) (ds := r)
    simp only [PyData.canLayAll0, PyData.depthAll, PyData.hasDictAll, Bool.and_eq_true, Bool.or_eq_false_iff, List.forall_mem_cons, ← ih]
    constructor
    · rintro ⟨⟨h1, h2⟩, h3, h4, h5⟩
      exact ⟨⟨h1, by omega, h4⟩, h2, by omega, h5⟩
    · rintro ⟨⟨h1, h3, h4⟩, h2, h5, h6⟩
      exact ⟨⟨h1, h2⟩, by omega, h4, h6⟩
theorem Good.parts {k : Nat} {ds : List PyData} (h : Good k (.tuple ds)) : ∀ d ∈ ds, Good k d := by
  obtain ⟨h1, h2, h3⟩ := h
  simp only [PyData.canLay0, PyData.depth, PyData.hasDict] at h1 h2 h3
  exact good_all.mp ⟨h1, by omega, h3⟩
theorem Good.tup {k : Nat} {ds : List PyData} (h : ∀ d ∈ ds, Good k d) : Good (k + 1) (.tuple ds) := by
  obtain ⟨h1, h2, h3⟩ := good_all.mpr h
  exact ⟨by simpa only [PyData.canLay0] using h1, by simp only [PyData.depth]; omega, by simpa only [PyData.hasDict] using h3⟩
theorem Good.lst {k : Nat} {ds : List PyData} (h : ∀ d ∈ ds, Good k d) : Good (k + 1) (.list ds) := by
  obtain ⟨h1, h2, h3⟩ := good_all.mpr h
  exact ⟨by simpa only [PyData.canLay0] using h1, by simp only [PyData.depth]; omega, by simpa only [PyData.hasDict] using h3⟩
theorem Good.mono {k k' : Nat} {d : PyData} (h : Good k d) (hk : k ≤ k') : Good k' d := ⟨h.lay, Nat.le_trans h.dep hk, h.dic⟩
theorem Good.shaped {k : Nat} {d : PyData} (h : Good k d) (hk : k ≤ 64) : SeqAt.shaped d = true := by
  unfold SeqAt.shaped
  rw [h.lay, Bool.true_and]
  exact decide_eq_true (Nat.le_trans h.dep hk)
theorem dps_of {K : PySem.W.Frag} {H : Hp} {p : Addr} {xs : List V} {ds : List PyData} (h : Dats H p xs ds) (hd : ∀ d ∈ ds, d.hasDict = false) : DpAll K H xs ds := dpAll_of h.1 fun i x d a b => (h.2 i x d a b).dp (hd d (List.mem_of_getElem? b))
theorem Dat.both {H : Hp} {p q : Addr} {v : V} {d : PyData} {o : HO} (h : Dat H p v d) : Dat H q v d → Dat (upd H p o) q v d := by
  induction h with
  | non => exact fun _ => .non
  | bl b => exact fun _ => .bl b
  | int i => exact fun _ => .int i
  | str x => exact fun _ => .str x
  | tup h1 h2 h3 h4 ih =>
    intro k
    cases k with
    | tup k1 k2 k3 k4 =>
      rw [h1] at k1
      cases k1
      exact .tup (by rw [upd_ne h2]; exact h1) k2 h3 fun i x d a b => ih i x d a b (k4 i x d a b)
  | lst h1 h2 h3 h4 ih =>
    intro k
    cases k with
    | lst k1 k2 k3 k4 =>
      rw [h1] at k1
      cases k1
      exact .lst (by rw [upd_ne h2]; exact h1) k2 h3 fun i x d a b => ih i x d a b (k4 i x d a b)
  | dct h1 h2 =>
    intro k
    cases k with
    | dct k1 k2 => exact .dct (by rw [upd_ne h2]; exact h1) k2
theorem Dat.fresh2 {H : Hp} {p q : Addr} {v : V} {d : PyData} (hq : H q = none) (h : Dat H p v d) : Dat H q v d := by
  induction h with
  | non => exact .non
  | bl b => exact .bl b
  | int i => exact .int i
  | str x => exact .str x
  | tup h1 h2 h3 h4 ih => exact .tup h1 (fun z => by rw [z, hq] at h1; cases h1) h3 ih
  | lst h1 h2 h3 h4 ih => exact .lst h1 (fun z => by rw [z, hq] at h1; cases h1) h3 ih
  | dct h1 h2 => exact .dct h1 (fun z => by rw [z, hq] at h1; cases h1)
theorem Dat.bothE {H H' : Hp} {p q : Addr} {v : V} {d : PyData} (e : Ext p H H') (h : Dat H p v d) : Dat H q v d → Dat H' q v d := by
  induction h with
  | non => exact fun _ => .non
  | bl b => exact fun _ => .bl b
  | int i => exact fun _ => .int i
  | str x => exact fun _ => .str x
  | tup h1 h2 h3 h4 ih =>
    intro k
    cases k with
    | tup k1 k2 k3 k4 =>
      rw [h1] at k1
      cases k1
      exact .tup (e _ _ h1 h2) k2 h3 fun i x d a b => ih i x d a b (k4 i x d a b)
  | lst h1 h2 h3 h4 ih =>
    intro k
    cases k with
    | lst k1 k2 k3 k4 =>
      rw [h1] at k1
      cases k1
      exact .lst (e _ _ h1 h2) k2 h3 fun i x d a b => ih i x d a b (k4 i x d a b)
  | dct h1 h2 =>
    intro k
    cases k with
    | dct k1 k2 => exact .dct (e _ _ h1 h2) k2
def spIsCnt : Sp := fun vs H Q _ => ∃ (v : V) (p : Addr) (d : PyData), vs = [v] ∧ Dat H p v d ∧ ∀ b : Bool, (b = true ↔ UpTo (.int 1000000000000000000) d) → Q (.bl b) H
theorem ok_law_is_count (D : Df K mg "_law_is_count" s_law_is_count ["thing"]) (T : Nms mg) : CallOk P w K mg base CX0 1 "_law_is_count" ["thing"] spIsCnt := by
  refine df_ok D sc_law_is_count (fun vs H Q E h => ?_) (fun f cdv A outer s H vs Q E hr h => ?_)
  · obtain ⟨v, p, d, rfl, _⟩ := h
    rfl
  · obtain ⟨v, p, d, rfl, hd, k⟩ := h
    have nd := sc_law_is_count.nd
    refine ⟨_, (pss_one (ps_ret (pe_and (pe_callB (r := rIsi K) call_isi (by rfl) T.n_isinstance (by decide +kernel) (pa_cons (pv 0) (pa_cons (pe_bltn (v := .ty "int") (by rfl) T.n_int (by decide +kernel) rfl) pa_nil))) (pe_and (pe_not (pe_callB (r := rIsi K) call_isi (by rfl) T.n_isinstance (by decide +kernel) (pa_cons (pv 0) (pa_cons (pe_bltn (v := .ty "bool") (by rfl) T.n_bool (by decide +kernel) rfl) pa_nil)))) (pe_one (pe_chain op_le op_le pe_int (pv 0) (pe_op op_pow pe_int pe_int))))))), ?_⟩
    walk_at "op"
    walk_at "st"
    refine ⟨_, _, _, _, _, rfl, .ty _, hd.ty, kit_ty (kit_int d), ?_⟩
    walk_at "st"
    have hbig : (10 : Int) ^ (18 : Int).toNat = 1000000000000000000 := by decide
    refine ite2 (fun c1 => ?_) (fun c1 => ?_)
    · refine ⟨_, rfl, _, _, _, _, _, rfl, .ty _, hd.ty, kit_ty (kit_bool d), _, rfl, _, rfl, ?_⟩
      refine ite2 (fun c2 => ?_) (fun c2 => ?_)
      · obtain ⟨i, rfl⟩ : ∃ i, d = .int i := by cases d <;> simp_all [isI, isB]
        obtain rfl := hd.isInt
        refine ⟨_, rfl, 0, i, rfl, rfl, _, rfl, ?_⟩
        refine ite2 (fun c3 => ?_) (fun c3 => ?_)
        · refine ⟨10, 18, rfl, rfl, ⟨by decide, by decide, by decide⟩, i, _, rfl, rfl, k _ ?_⟩
          rw [hbig]
          refine ⟨fun z => ⟨i, rfl, of_decide_eq_true c3, fun M e => ?_⟩, fun ⟨j, e, _, h⟩ => ?_⟩
          · cases e
            exact of_decide_eq_true z
          · cases e
            exact decide_eq_true (h _ rfl)
        · refine k false ⟨fun z => Bool.noConfusion z, fun ⟨j, e, h0, _⟩ => ?_⟩
          cases e
          exact absurd (decide_eq_true h0) c3
      · refine k false ⟨fun z => Bool.noConfusion z, fun ⟨j, e, _⟩ => ?_⟩
        subst e
        exact absurd (by rfl) c2
    · refine k false ⟨fun z => Bool.noConfusion z, fun ⟨j, e, _⟩ => ?_⟩
      subst e
      exact absurd (by rfl) c1
def spDueB : Sp := fun vs H Q _ => ∃ (hv tv : V) (p : Addr) (u : HO) (fs : List PyData) (m n : Nat) (td : PyData), vs = [hv, tv] ∧ H p = some u ∧ Dat H p hv (.tuple fs) ∧ HouseN m n (.tuple fs) ∧ Dat H p tv td ∧ Good 60 td ∧ ∀ (b : Bool) H', (b = true ↔ FormD (.int 1000000000000000000) m n td) → Same H H' → Q (.bl b) H'
theorem ok_law_due (D : Df K mg "_law_due" s_law_due ["house", "thing"]) (T : Nms mg) (c_law_is_count : CallOk P w K mg base CX0 1 "_law_is_count" ["thing"] spIsCnt) : CallOk P w K mg base CX0 2 "_law_due" ["house", "thing"] spDueB := by
  refine df_ok D sc_law_due (fun vs H Q E h => ?_) (fun f cdv A outer s H vs Q E hr h => ?_)
  · obtain ⟨hv, tv, p, u, fs, m, n, td, rfl, _⟩ := h
    rfl
  · obtain ⟨hv, tv, p, u, fs, m, n, td, rfl, hu, hD, hN, tD, hgood, k⟩ := h
    have nd := sc_law_due.nd
    obtain ⟨_, _, _, hn1, hn4, hm1, hm6, _⟩ := id hN
    obtain ⟨ah, a0, af, hs, y0, ys, rfl, g1, g2, g3, g4, g5, g6, g7⟩ := house_m hD hN
    refine ⟨_, (pss_cons (ps_if (PW.pt (pw_or (pt_not (pt_val (pe_callB (r := rIsi K) call_isi (by rfl) T.n_isinstance (by decide +kernel) (pa_cons (pv 1) (pa_cons (pe_bltn (v := .ty "tuple") (by rfl) T.n_tuple (by decide +kernel) rfl) pa_nil))))) (pw_or (pt_cmpR op_ne (pe_callB (r := rLenS K) call_lenS (by rfl) T.n_len (by decide +kernel) (pa_cons (pv 1) pa_nil)) (pe_op op_add (pe_callB (r := rLenS K) call_lenS (by rfl) T.n_len (by decide +kernel) (pa_cons (pv 0) pa_nil)) pe_int) (nomark _)) (pw_or1 (pt_not (pt_val (pe_cc c_law_is_count (hr.mono (by omega)) (pa_cons (pe_ix (r := rIxT K) ix_tup (pv 1) (pe_un un_neg pe_int) (fun _ _ => rfl)) pa_nil)))))))) (pss_one (ps_ret pe_bl)) pss_nil)
      (pss_cons (ps_for PassesOwn.never rfl (pi_tup (pe_slice (r := rSlA K) sl_tupA (pv 1) po_none (po_some (pe_un un_neg pe_int)))) (pg_name (i := 2) nd rfl (Or.inl rfl)) (pss_cons (ps_if (PW.pt (pw_or (pt_not (pt_val (pe_callB (r := rIsi K) call_isi (by rfl) T.n_isinstance (by decide +kernel) (pa_cons (pv 2) (pa_cons (pe_bltn (v := .ty "tuple") (by rfl) T.n_tuple (by decide +kernel) rfl) pa_nil))))) (pw_or1 (pt_cmpR op_ne (pe_callB (r := rLenS K) call_lenS (by rfl) T.n_len (by decide +kernel) (pa_cons (pv 2) pa_nil)) (pe_callB (r := rLenS K) call_lenS (by rfl) T.n_len (by decide +kernel) (pa_cons (pe_ix (r := rIxT K) ix_tup (pe_ix (r := rIxT K) ix_tup (pv 0) pe_int (fun _ _ => rfl)) pe_int (fun _ _ => rfl)) pa_nil)) (nomark _))))) (pss_one (ps_ret pe_bl)) pss_nil)
      (pss_one (ps_if (pt_cmpR (r := rNeD K) (op_neD hr.units) (pe_lc (own := [("count", 3)]) (g := (gName 3)) (by rfl) nd (pi_tup (pv 2)) (blkOk_by (own := [("count", 3)]) (N := N_law_due) (sc := defScope s_law_due) (by decide +kernel)) (fun _ _ _ _ _ => (pg_name (i := 3) nd rfl (Or.inl rfl))) (fun _ _ _ _ _ => (pts_one (pt_not (pt_val (pe_cc c_law_is_count (hr.mono (by omega)) (pa_cons (pv 3) pa_nil)))))) (fun _ _ _ _ _ => (pv 3))) (pe_lst pa_nil) (nomark _)) (pss_one (ps_ret pe_bl)) pss_nil))))
      (pss_one (ps_ret pe_bl)))), ?_⟩
    walk_at "op"
    have hst : L2.start N_law_due [V.ref ah, tv] = [some (V.ref ah), some tv, none, none] := rfl
    rw [hst]
    refine ⟨_, rfl, _, _, _, _, _, rfl, .ty _, tD.ty, kit_ty (kit_tuple td), _, rfl, ?_⟩
    refine ite2 (fun c1 => ?_) (fun c1 => ?_)
    · rw [if_pos rfl]
      refine k false _ ⟨fun z => Bool.noConfusion z, fun ⟨ds, x, e, _⟩ => ?_⟩ (fun _ _ e => e)
      subst e
      exact absurd c1 (by rw [show isTu (PyData.tuple (ds ++ [x])) = true from rfl]; decide)
    obtain ⟨ds, rfl⟩ := isTu_iff.mp (show isTu td = true by simpa using c1)
    obtain ⟨a, ys', rfl, ha, nap, hy⟩ := tD.isTup
    refine ⟨_, rfl, a, ys', rfl, .inr (SqT.of ha), _, rfl, ah, hs, rfl, .inr (SqT.of g1), _, _, rfl, rfl, rfl, _, rfl, ?_⟩
    refine ite2 (fun c2 => ?_) (fun c2 => ?_)
    · rw [if_pos rfl]
      refine k false _ ⟨fun z => Bool.noConfusion z, fun ⟨es, x, e, hl, _⟩ => ?_⟩ (fun _ _ e => e)
      cases e
      have h1 : ys'.length = n + 1 := by rw [hy.1, List.length_append, hl]; rfl
      rw [h1, g2] at c2
      rw [decide_eq_true (by rfl)] at c2
      cases c2
    have hlen : ds.length = n + 1 := by
      have h1 : V.int (ys'.length : Nat) = V.int ((hs.length : Int) + 1) := by
        by_cases z : V.int (ys'.length : Nat) = V.int ((hs.length : Int) + 1)
        · exact z
        · rw [decide_eq_false z] at c2
          exact absurd rfl c2
      injection h1 with h1
      rw [hy.1, g2] at h1
      omega
    obtain ⟨es, x, rfl, hel⟩ := snoc_of hlen
    obtain ⟨xs, y, rfl, hx, hyx⟩ := dats_snoc hy
    clear hy c1 c2
    refine ⟨_, rfl, 1, rfl, a, _, -1, _, rfl, rfl, SqT.of ha, atI_last (by rw [hx.1]; omega), y, p, x, rfl, hyx, fun b hb => ?_⟩
    refine ⟨b, rfl, ?_⟩
    cases b with
    | false =>
      rw [if_pos (by decide)]
      refine k false _ ⟨fun z => Bool.noConfusion z, fun ⟨es', x', e, hl, hu', _⟩ => ?_⟩ (fun _ _ e => e)
      injection e with e
      obtain ⟨_, rfl⟩ := snoc_inj e
      exact hb.mpr hu'
    | true =>
    have hux := hb.mp rfl
    rw [if_neg (by decide)]
    refine ⟨_, rfl, 1, rfl, -1, rfl, sl_init (SqT.of ha) fun q hq => ?_⟩
    refine ⟨q, rfl, ⟨_, SqT.of upd_same⟩, ?_⟩
    refine fT (xs := xs) (fun i σ H' => Same H H' ∧ H' q = some (.tup xs) ∧ (∃ u2 u3, σ = [some (.ref ah), some (.ref a), u2, u3]) ∧ ∀ j e, j < i → es[j]? = some e → AreD (.int 1000000000000000000) m e)
      ⟨same_new hq, upd_same, ⟨_, _, rfl⟩, fun j e hj => absurd hj (Nat.not_lt_zero j)⟩ (fun i σ H' _ ⟨_, e, _⟩ => SqT.of e) ?_ ?_
    · rintro i x1 σ H' hxi ⟨sm, hq2, ⟨u2, u3, rfl⟩, hall⟩
      obtain ⟨e, he, hde⟩ := hx.at hxi
      have hem : e ∈ es ++ [x] := List.mem_append.mpr (.inl (List.mem_of_getElem? he))
      have no : ¬ AreD (.int 1000000000000000000) m e → ¬ FormD (.int 1000000000000000000) m n (.tuple (es ++ [x])) := fun h ⟨es', x', e', hl, _, h2⟩ => by
        injection e' with e'
        obtain ⟨rfl, _⟩ := snoc_inj e'
        exact h (h2 e (List.mem_of_getElem? he))
      walk_at "op"
      try dsimp only [List.set]
      refine ⟨_, rfl, _, _, _, _, _, rfl, .ty _, (hde.same sm).ty, kit_ty (kit_tuple e), _, rfl, ?_⟩
      refine ite2 (fun c1 => ?_) (fun c1 => ?_)
      · rw [if_pos rfl]
        refine k false _ ⟨fun z => Bool.noConfusion z, fun hF => (no (fun ⟨rs, e', _⟩ => ?_) hF).elim⟩ sm
        subst e'
        exact absurd c1 (by rw [show isTu (PyData.tuple rs) = true from rfl]; decide)
      obtain ⟨rs, rfl⟩ := isTu_iff.mp (show isTu e = true by simpa using c1)
      obtain ⟨ar, zs, rfl, har, narp, hz⟩ := (hde.same sm).isTup
      refine ⟨_, rfl, ar, zs, rfl, .inr (SqT.of har), _, rfl, ah, hs, 0, _, rfl, rfl, SqT.of (sm _ _ g1), atI_nat (j := 0) g3, a0, y0, 0, _, rfl, rfl, SqT.of (sm _ _ g4), atI_nat (j := 0) g5, af, ys, rfl, .inr (SqT.of (sm _ _ g6)), rfl, _, rfl, ?_⟩
      refine ite2 (fun c2 => ?_) (fun c2 => ?_)
      · refine k false _ ⟨fun z => Bool.noConfusion z, fun hF => (no (fun ⟨rs', e', hl, _⟩ => ?_) hF).elim⟩ sm
        cases e'
        rw [hz.1, g7] at c2
        rw [decide_eq_true (by rw [hl])] at c2
        cases c2
      have hrl : rs.length = m := by
        have h1 : V.int (zs.length : Nat) = V.int (ys.length : Nat) := by
          by_cases z : V.int (zs.length : Nat) = V.int (ys.length : Nat)
          · exact z
          · rw [decide_eq_false z] at c2
            exact absurd rfl c2
        injection h1 with h1
        rw [hz.1, g7] at h1
        omega
      refine ⟨_, rfl, ar, rfl, ⟨_, SqT.of har⟩, fun D' hD' => ?_⟩
      have nDp : D' ≠ p := fun z => by
        have := sm _ _ hu
        rw [← z, hD'] at this
        cases this
      refine lI walk_tup (fun t G => Same H' G ∧ ∃ ws fs', G D' = some (.lst ws) ∧ Dats G D' ws fs' ∧ (∀ d ∈ fs', d ∈ rs) ∧ fs'.length ≤ t ∧ (fs' = [] ↔ ∀ j e, j < t → rs[j]? = some e → UpTo (.int 1000000000000000000) e))
        ⟨same_new hD', [], [], upd_same, Dats.nil, fun d hd => (by cases hd), Nat.le_refl _, fun _ j e hj => absurd hj (Nat.not_lt_zero j), fun _ => rfl⟩ (fun _ _ _ ⟨e, _⟩ => SqT.of (e _ _ har)) ?_ ?_
      · rintro t x2 _ G ht ⟨sG, ws, fs', hw, hW, hin, hle, hiff⟩ ⟨rfl, hxt⟩
        obtain ⟨e2, he2, hd2⟩ := hz.at hxt
        walk_at "op"
        refine ⟨rfl, _, rfl, x2, p, e2, rfl, hd2.same sG, fun b hb => ?_⟩
        refine ⟨b, rfl, ?_⟩
        have hin2 : e2 ∈ rs := List.mem_of_getElem? he2
        have htl : t < rs.length := (List.getElem?_eq_some_iff.mp he2).1
        cases b with
        | false =>
          rw [if_pos (by decide)]
          have h2 : Dat (upd G D' (.lst (ws ++ [x2]))) D' x2 e2 := (((hd2.fresh2 hD').same sG)).ext (fun a o q e => (upd_ne e).trans q)
          refine ⟨_, rfl, ws, hw, Nat.lt_of_le_of_lt (show _ ≤ 1000 by rw [hW.1]; omega) (by decide), sameOff sG hD', ws ++ [x2], fs' ++ [e2], upd_same, (hW.ext (fun a o q e => (upd_ne e).trans q)).snoc h2, fun d hd => ?_, by rw [List.length_append]; show fs'.length + 1 ≤ _; omega, fun z => absurd z (by simp), fun z => ?_⟩
          · rcases List.mem_append.mp hd with hd | hd
            · exact hin d hd
            · rw [List.mem_singleton.mp hd]
              exact hin2
          · exact Bool.noConfusion (hb.mpr (z t e2 (by omega) he2))
        | true =>
          rw [if_neg (by decide)]
          refine ⟨sG, ws, fs', hw, hW, hin, by omega, fun z j e hj he => ?_, fun z => hiff.mpr fun j e hj he => z j e (by omega) he⟩
          by_cases hjt : j = t
          · subst hjt
            rw [he2] at he
            cases he
            exact hb.mp rfl
          · exact hiff.mp z j e (by omega) he
      · rintro G ⟨sG, ws, fs', hw, hW, hin, hle, hiff⟩
        have hgr : ∀ d ∈ fs', Good 60 d := fun d hd => ((hgood.parts _ hem).parts) d (hin d hd)
        refine ⟨by show 0 ≤ sizeLine; decide, fun q2 hq2' => ?_⟩
        have st := same_new (o := .lst []) hq2'
        refine ⟨.list fs', .list [], .lst (SqL.of (st _ _ hw)) (dps_of (hW.same st) fun d hd => (hgr d hd).dic), .lst (SqL.of upd_same) .nil, (Good.lst hgr).shaped (by decide), by decide, ?_⟩
        rw [eqv_nil]
        refine ⟨_, rfl, ?_⟩
        have hzl : zs.length = rs.length := hz.1
        have allr : (∀ j e, j < zs.length → rs[j]? = some e → UpTo (.int 1000000000000000000) e) → AreD (.int 1000000000000000000) m (.tuple rs) := fun h => ⟨rs, rfl, by rw [hrl], fun e he => by
          obtain ⟨j, hj⟩ := List.getElem?_of_mem he
          exact h j e (by rw [hzl]; exact (List.getElem?_eq_some_iff.mp hj).1) hj⟩
        cases hfs : fs' with
        | nil =>
          rw [if_neg (by simp)]
          refine ⟨(sm.trans sG).trans st, st _ _ (sG _ _ hq2), ⟨_, _, rfl⟩, fun j e' hj he' => ?_⟩
          by_cases hji : j = i
          · subst hji
            rw [he] at he'
            cases he'
            exact allr (hiff.mp hfs)
          · exact hall j e' (by omega) he'
        | cons c cs =>
          rw [if_pos (by simp)]
          refine k false _ ⟨fun z => Bool.noConfusion z, fun hF => (no (fun ⟨rs', e', _, hal⟩ => ?_) hF).elim⟩ ((sm.trans sG).trans st)
          cases e'
          have : fs' = [] := hiff.mpr fun j e hj he => hal e (List.mem_of_getElem? he)
          rw [hfs] at this
          cases this
    · rintro σ H' ⟨sm, hq2, ⟨u2, u3, rfl⟩, hall⟩
      walk_at "op"
      refine k true _ ⟨fun _ => ⟨es, x, rfl, hel, hux, fun e he => ?_⟩, fun _ => rfl⟩ sm
      obtain ⟨j, hj⟩ := List.getElem?_of_mem he
      have := (List.getElem?_eq_some_iff.mp hj).1
      exact hall j e (by rw [hx.1]; exact this) hj

end
end Fm
end FLD
section FGC
set_option Elab.async false
set_option linter.all false
set_option maxRecDepth 100000
set_option maxHeartbeats 4000000
local macro_rules | `(tactic| walk_at "ne") => `(tactic| first | assumption | (apply Ne.symm; assumption) | exact L2.ne_of_none (by assumption) (by assumption) | exact Ne.symm (L2.ne_of_none (by assumption) (by assumption)))
local macro_rules | `(tactic| walk_at "hl") => `(tactic| first | assumption | exact L2.upd_same | (refine Eq.trans (L2.upd_ne (by walk_at "ne")) ?_; walk_at "hl"))
local macro_rules | `(tactic| walk_at "sd") => `(tactic| first | (with_reducible show (_ : Int) < _; omega) | (with_reducible show (_ : Int) ≤ _; omega) | assumption | decide | exact ⟨by assumption, by assumption⟩ | exact ⟨by decide, by decide⟩ | exact Or.inr ⟨by decide, by decide⟩ | exact Or.inl ⟨by omega, by omega⟩ | rfl)
local macro_rules | `(tactic| walk_at "st1") => `(tactic| first
  | refine ⟨_, rfl, ?_⟩
  | refine ⟨_, _, rfl, rfl, ?_⟩
  | refine ⟨_, _, rfl, ?_⟩
  | (refine ⟨_, _, _, _, rfl, rfl, L2.SqL.of (by walk_at "hl"), rfl, ?_⟩)
  | (refine ⟨_, _, _, _, rfl, rfl, L2.SqT.of (by walk_at "hl"), rfl, ?_⟩)
  | (refine ⟨_, _, _, _, rfl, rfl, (by walk_at "hl"), rfl, ?_⟩)
  | (refine And.intro (by walk_at "sd") ?_)
  )
local macro_rules | `(tactic| walk_at "st") => `(tactic| repeat walk_at "st1")
local macro_rules | `(tactic| walk_at "op") => `(tactic| try dsimp only [L2.tSeq, L2.tAsg, L2.tOp, L2.tVar, L2.tC, L2.gSub, L2.rI, L2.rI0, L2.rIxL, L2.rIxT, L2.rSetL, L2.tIfS, L2.tTest, L2.tRet, L2.gName, L2.tNext, L2.tAnd, L2.tOr, L2.tNot, L2.tAndV, L2.tOrV, L2.tNotV, L2.tB, L2.tCB, L2.tCons, L2.tNil, L2.tCall, L2.tTup, L2.tLst, L2.tChain, L2.tUn, L2.tPar, L2.tDrop, L2.tIf, L2.tBM, L2.tBM0, L2.rAppend, L2.rCat, L2.rIsi, L2.rIsiT, L2.gTup, L2.gCons, L2.gNil, Fm.tFor_eq, Fm.tLc_eq, Fm.tLc2_eq, L2.iTup, L2.iList, L2.iRng1, L2.iRng2, L2.tSl, L2.tPart, L2.tNoPart, L2.rSlL, L2.rEq, L2.rNe, L2.rU, L2.rEqD, L2.rNeD, Fm.tRevT, Fm.rLenS, Fm.rTupOf, Fm.rLstOf, L2.tDNewK, L2.tCallS, L2.WE, Fm.wKeep, Fm.rIsK, Fm.rIsKT, List.cons_append, List.nil_append, L2.tYes])
namespace Fm
open PySem PySem.Spec PyProof.Rows L2
abbrev s_law_counts : Stmt := top 59
abbrev N_law_counts : List Str := ["bag", "m", "wide", "k"]
theorem sc_law_counts : FnScope N_law_counts ["bag", "m"] (defScope s_law_counts) := ⟨rfl, rfl, rfl, by decide +kernel, rfl, by decide +kernel, by decide +kernel⟩
abbrev s_law_great : Stmt := top 60
abbrev N_law_great : List Str := ["bag", "house", "m", "floor"]
theorem sc_law_great : FnScope N_law_great ["bag", "house"] (defScope s_law_great) := ⟨rfl, rfl, rfl, by decide +kernel, rfl, by decide +kernel, by decide +kernel⟩
section
variable {P : Program} {w : World} {K : PySem.W.Frag} {mg : Str → Option Value} {base : Heap}
theorem Bag.smm {H H' : Hp} {p : Addr} (h : Bag H p) (e : Same H H') : Bag H' p := by
  obtain ⟨x, y, c, q⟩ := h
  exact ⟨x, y, c, e _ _ q⟩
def Cnts (m : Nat) (c : List Int) : Prop := c.length = m ∧ ∀ x ∈ c, 0 ≤ x ∧ x ≤ 1000000000000000000
def spCounts : Sp := fun vs H Q _ => ∃ (p : Addr) (m : Nat), vs = [.ref p, .int (m : Nat)] ∧ Bag H p ∧ m ≤ 6 ∧ ∀ v' H' c, Bag H' p → Ext p H H' → Dat H' p v' (rowD c) → Cnts m c → Q v' H'
theorem ok_law_counts (D : Df K mg "_law_counts" s_law_counts ["bag", "m"]) (T : Nms mg) (c_law_pick : CallOk P w K mg base CX0 1 "_law_pick" ["bag", "many"] spPick) : CallOk P w K mg base CX0 2 "_law_counts" ["bag", "m"] spCounts := by
  refine df_ok D sc_law_counts (fun vs H Q E h => ?_) (fun f cdv A outer s H vs Q E hr h => ?_)
  · obtain ⟨p, m, rfl, _⟩ := h
    rfl
  · obtain ⟨p, m, rfl, hB, hm6, k⟩ := h
    have nd := sc_law_counts.nd
    refine ⟨_, (pss_cons (ps_set (i := 2) nd rfl (Or.inr rfl) (pe_ix (r := rIxL K) ix_list (pe_lst (pa_cons pe_int (pa_cons (pe_op op_pow pe_int pe_int) (pa_cons (pe_op op_add (pe_op op_pow pe_int pe_int) pe_int) pa_nil)))) (pe_cc c_law_pick (hr.mono (by omega)) (pa_cons (pv 0) (pa_cons pe_int pa_nil))) (fun _ _ => rfl)))
      (pss_one (ps_ret (pe_callTy (r := rTupOf K) call_tupOf (by rfl) T.n_tuple (by decide +kernel) (pa_cons (pe_lc (own := [("k", 3)]) (g := (gName 3)) (tt := tYes) (by rfl) nd (pi_range1 rfl T.n_range (pa_cons (pv 1) pa_nil)) (blkOk_by (own := [("k", 3)]) (N := N_law_counts) (sc := defScope s_law_counts) (by decide +kernel)) (fun _ _ _ _ _ => (pg_name (i := 3) nd rfl (Or.inl rfl))) (fun _ _ _ _ _ => pts_nil) (fun _ _ _ _ _ => (pe_cc c_law_pick (hr.mono (by omega)) (pa_cons (pv 0) (pa_cons (pv 2) pa_nil))))) pa_nil))))), ?_⟩
    walk_at "op"
    have hst : L2.start N_law_counts [V.ref p, V.int (m : Nat)] = [some (V.ref p), some (V.int (m : Nat)), none, none] := rfl
    rw [hst]
    have e6 : (10 : Int) ^ (6 : Int).toNat = 1000000 := by decide
    have e18 : (10 : Int) ^ (18 : Int).toNat = 1000000000000000000 := by decide
    refine ⟨10, 6, rfl, rfl, ⟨by decide, by decide, by decide⟩, ?_⟩
    refine ⟨10, 18, rfl, rfl, ⟨by decide, by decide, by decide⟩, _, _, rfl, rfl, ?_⟩
    rw [e6, e18]
    refine ⟨by show 3 ≤ sizeLine; decide, fun q hq => ?_⟩
    have nq : q ≠ p := (hB.ne hq).symm
    have hBq := hB.up (o := .lst [V.int 3, V.int 1000000, V.int (1000000000000000000 + 1)]) (hB.ne hq)
    have xq : Ext p H (upd H q (.lst [V.int 3, V.int 1000000, V.int (1000000000000000000 + 1)])) := ext_new hq
    have hq1 : upd H q (.lst [V.int 3, V.int 1000000, V.int (1000000000000000000 + 1)]) q = some (.lst [V.int 3, V.int 1000000, V.int (1000000000000000000 + 1)]) := upd_same
    generalize upd H q (.lst [V.int 3, V.int 1000000, V.int (1000000000000000000 + 1)]) = G0 at *
    refine ⟨_, rfl, p, 3, rfl, by decide, by decide, hBq, fun i G1 i0 i1 hB1 x1 => ?_⟩
    obtain ⟨z, hz, z1, z2⟩ : ∃ z : Int, atI [V.int 3, V.int 1000000, V.int (1000000000000000000 + 1)] i = some (.int z) ∧ 1 ≤ z ∧ z ≤ 1000000000000000001 := by
      rcases (by omega : i = 0 ∨ i = 1 ∨ i = 2) with rfl | rfl | rfl
      · exact ⟨3, rfl, by decide, by decide⟩
      · exact ⟨1000000, rfl, by decide, by decide⟩
      · exact ⟨1000000000000000000 + 1, rfl, by decide, by decide⟩
    have zl : z.natAbs.log2 < 9000 := pk (by omega) (by omega)
    refine ⟨q, _, i, _, rfl, rfl, SqL.of (x1 _ _ hq1 nq), hz, ?_⟩
    try dsimp only [List.set]
    refine ⟨_, rfl, (m : Nat), rfl, by omega, by omega, fun D' hD' => ?_⟩
    rw [Int.toNat_natCast]
    have nD := hB1.ne hD'
    have x01 := xq.trans x1
    refine lR (fun i G2 => Bag G2 p ∧ Ext p G1 G2 ∧ ∃ cs : List Int, G2 D' = some (.lst (cs.map V.int)) ∧ cs.length = i ∧ ∀ c ∈ cs, 0 ≤ c ∧ c ≤ 1000000000000000000)
      ⟨hB1.up nD, ext_new hD', [], upd_same, rfl, fun c hc => by cases hc⟩ ?_ ?_
    · rintro j G2 hj ⟨hB2, x2, cs, hcs, hcl, hcb⟩
      walk_at "op"
      refine ⟨rfl, ?_⟩
      refine iteT ?_
      refine ⟨_, rfl, _, rfl, p, z, rfl, by omega, zl, hB2, fun y G4 y0 y1 hB4 x4 => ?_⟩
      have hcs4 := x4 _ _ hcs nD.symm
      refine ⟨_, hcs4, by rw [List.length_map]; exact small1000 (by omega), hB4.up nD, (x2.trans x4).off hD', cs ++ [y], by rw [upd_same, List.map_append]; rfl, by rw [List.length_append, hcl]; rfl, fun c hc => ?_⟩
      rcases List.mem_append.mp hc with hc | hc
      · exact hcb c hc
      · rw [List.mem_singleton.mp hc]
        omega
    · rintro G2 ⟨hB2, x2, cs, hcs, hcl, hcb⟩
      refine ⟨D', _, rfl, .inl ⟨SqL.of hcs, fun l hl => ?_⟩⟩
      have nl := hB2.ne hl
      exact k _ _ cs (hB2.up nl) ((x01.trans x2).trans (ext_new hl)) (.tup upd_same nl.symm (by rw [List.length_map, List.length_map]) fun i x d a b => (Dats.ints (p := p) cs).2 i x d a b) ⟨hcl, hcb⟩
def spGreat : Sp := fun vs H Q _ => ∃ (p : Addr) (hv : V) (fs : List PyData) (m n : Nat), vs = [.ref p, hv] ∧ Bag H p ∧ Dat H p hv (.tuple fs) ∧ HouseN m n (.tuple fs) ∧
  ∀ v' H' rows out, Bag H' p → Ext p H H' → Dat H' p v' (stD rows out) → rows.length = n → (∀ r ∈ rows, Cnts m r) → 0 ≤ out → out ≤ 1000000000000000000 → Q v' H'
theorem ok_law_great (D : Df K mg "_law_great" s_law_great ["bag", "house"]) (T : Nms mg) (c_law_pick : CallOk P w K mg base CX0 1 "_law_pick" ["bag", "many"] spPick) (c_law_counts : CallOk P w K mg base CX0 2 "_law_counts" ["bag", "m"] spCounts) : CallOk P w K mg base CX0 3 "_law_great" ["bag", "house"] spGreat := by
  refine df_ok D sc_law_great (fun vs H Q E h => ?_) (fun f cdv A outer s H vs Q E hr h => ?_)
  · obtain ⟨p, hv, fs, m, n, rfl, _⟩ := h
    rfl
  · obtain ⟨p, hv, fs, m, n, rfl, hB, hD, hN, k⟩ := h
    have nd := sc_law_great.nd
    obtain ⟨_, _, _, hn1, hn4, hm1, hm6, _⟩ := id hN
    obtain ⟨ah, a0, af, hs, y0, ys, rfl, g1, g2, g3, g4, g5, g6, g7⟩ := house_m hD hN
    have nah : ah ≠ p := by
      obtain ⟨_, _, e, _, q, _⟩ := hD.isTup
      cases e
      exact q
    refine ⟨_, (pss_cons (ps_set (i := 2) nd rfl (Or.inr rfl) (pe_callB (r := rLenS K) call_lenS (by rfl) T.n_len (by decide +kernel) (pa_cons (pe_ix (r := rIxT K) ix_tup (pe_ix (r := rIxT K) ix_tup (pv 1) pe_int (fun _ _ => rfl)) pe_int (fun _ _ => rfl)) pa_nil)))
      (pss_one (ps_ret (pe_op (r := rCatA K) op_catA (pe_callTy (r := rTupOf K) call_tupOf (by rfl) T.n_tuple (by decide +kernel) (pa_cons (pe_lc (own := [("floor", 3)]) (g := (gName 3)) (tt := tYes) (by rfl) nd (pi_tup (pv 1)) (blkOk_by (own := [("floor", 3)]) (N := N_law_great) (sc := defScope s_law_great) (by decide +kernel)) (fun _ _ _ _ _ => (pg_name (i := 3) nd rfl (Or.inl rfl))) (fun _ _ _ _ _ => pts_nil) (fun _ _ _ _ _ => (pe_cc c_law_counts (hr.mono (by omega)) (pa_cons (pv 0) (pa_cons (pv 2) pa_nil))))) pa_nil)) (pe_tup (pa_cons (pe_ix (r := rIxL K) ix_list (pe_lst (pa_cons pe_int (pa_cons (pe_op op_pow pe_int pe_int) pa_nil))) (pe_cc c_law_pick (hr.mono (by omega)) (pa_cons (pv 0) (pa_cons pe_int pa_nil))) (fun _ _ => rfl)) pa_nil)))))), ?_⟩
    walk_at "op"
    have hst : L2.start N_law_great [V.ref p, V.ref ah] = [some (V.ref p), some (V.ref ah), none, none] := rfl
    rw [hst]
    refine ⟨_, rfl, ah, hs, 0, _, rfl, rfl, SqT.of g1, atI_nat (j := 0) g3, a0, y0, 0, _, rfl, rfl, SqT.of g4, atI_nat (j := 0) g5, af, ys, rfl, .inr (SqT.of g6), ?_⟩
    rw [g7]
    try dsimp only [List.set]
    refine ⟨_, rfl, ah, rfl, ⟨_, SqT.of g1⟩, fun D1 hD1 => ?_⟩
    have nD1 := hB.ne hD1
    have rno : ∀ (l : List (List Int)), ∀ d ∈ l.map rowD, noList d = true := fun l d hd => by
      obtain ⟨r, _, rfl⟩ := List.mem_map.mp hd
      exact noList_ints _ _
    refine lI walk_tup (fun j G => Bag G p ∧ Ext p H G ∧ ∃ (rs : List (List Int)) (ws : List V), G D1 = some (.lst ws) ∧ Dats G p ws (rs.map rowD) ∧ rs.length = j ∧ ∀ r ∈ rs, Cnts m r)
      ⟨hB.up nD1, ext_new hD1, [], [], upd_same, Dats.nil, rfl, fun r hr => by cases hr⟩ (fun j G _ ⟨_, e, _⟩ => SqT.of (e _ _ g1 nah)) ?_ ?_
    · rintro j x _ G hj ⟨hBG, xG, rs, ws, hws, hDs, hrl, hbig⟩ ⟨rfl, hxj⟩
      walk_at "op"
      refine ⟨rfl, ?_⟩
      refine iteT ?_
      refine ⟨_, rfl, _, rfl, p, m, rfl, hBG, hm6, fun v G2 c hB2 x2 hc hcn => ?_⟩
      have hws2 := x2 _ _ hws nD1.symm
      refine ⟨ws, hws2, small1000 (by rw [hDs.1, List.length_map, hrl]; omega), hB2.up nD1, (xG.trans x2).off hD1, rs ++ [c], ws ++ [v], upd_same, ?_, by rw [List.length_append, hrl]; rfl, fun r hr => ?_⟩
      · rw [List.map_append]
        exact ((hDs.ext x2).setL hws2 (rno _)).snoc (Dat.setL hws2 hc (noList_ints _ _))
      · rcases List.mem_append.mp hr with hr | hr
        · exact hbig r hr
        · rw [List.mem_singleton.mp hr]
          exact hcn
    · rintro G ⟨hBG, xG, rs, ws, hws, hDs, hrl, hbig⟩
      refine ⟨D1, ws, rfl, .inl ⟨SqL.of hws, fun l hl => ?_⟩⟩
      have nl := hBG.ne hl
      obtain ⟨u, hu⟩ : ∃ u, G p = some u := by
        obtain ⟨b1, b2, b3, e⟩ := hBG
        exact ⟨_, e⟩
      have dl : Dat (upd G l (.tup ws)) p (.ref l) (.tuple (rs.map rowD)) := Dat.new hl nl.symm hDs
      have hB1 := hBG.up (o := .tup ws) nl
      have x1 := xG.trans (ext_new (o := .tup ws) hl)
      have hu1 := (same_new (o := .tup ws) hl) _ _ hu
      generalize upd G l (.tup ws) = G1 at *
      have e18 : (10 : Int) ^ (18 : Int).toNat = 1000000000000000000 := by decide
      refine ⟨10, 18, rfl, rfl, ⟨by decide, by decide, by decide⟩, by show 2 ≤ sizeLine; decide, ?_⟩
      rw [e18]
      intro q hq
      have nq : q ≠ p := (hB1.ne hq).symm
      have hBq := hB1.up (o := .lst [V.int 0, V.int 1000000000000000000]) (hB1.ne hq)
      have xq : Ext p H (upd G1 q (.lst [V.int 0, V.int 1000000000000000000])) := x1.trans (ext_new hq)
      have hq1 : upd G1 q (.lst [V.int 0, V.int 1000000000000000000]) q = some (.lst [V.int 0, V.int 1000000000000000000]) := upd_same
      have dl2 := dl.same (same_new (o := .lst [V.int 0, V.int 1000000000000000000]) hq)
      generalize upd G1 q (.lst [V.int 0, V.int 1000000000000000000]) = G2 at *
      refine ⟨_, rfl, p, 2, rfl, by decide, by decide, hBq, fun i G3 i0 i1 hB3 x3 => ?_⟩
      obtain ⟨z, hz, z1, z2⟩ : ∃ z : Int, atI [V.int 0, V.int 1000000000000000000] i = some (.int z) ∧ 0 ≤ z ∧ z ≤ 1000000000000000000 := by
        rcases (by omega : i = 0 ∨ i = 1) with rfl | rfl
        · exact ⟨0, rfl, by decide, by decide⟩
        · exact ⟨1000000000000000000, rfl, by decide, by decide⟩
      refine ⟨q, _, i, _, rfl, rfl, SqL.of (x3 _ _ hq1 nq), hz, by show 1 ≤ sizeLine; decide, fun t ht => ?_⟩
      obtain ⟨u3, hu3⟩ : ∃ u, G3 p = some u := by
        obtain ⟨b1, b2, b3, e⟩ := hB3
        exact ⟨_, e⟩
      have d3 := one_tup hu3 ht (.int z)
      have st := same_new (o := .tup [V.int z]) ht
      refine cat_dat (st _ _ hu3) ((dl2.ext x3).same st) d3 (by simp; rw [hrl, g2]; omega) fun x G4 s4 dx => ?_
      have s34 := st.trans s4
      have hrows : rs.length = n := by rw [hrl, g2]
      exact k _ _ rs z (hB3.smm s34) ((xq.trans x3).trans (Same.ext s34 p)) dx hrows hbig z1 z2

end
end Fm
end FGC
section FOT
set_option Elab.async false
set_option linter.all false
set_option maxRecDepth 100000
set_option maxHeartbeats 4000000
local macro_rules | `(tactic| walk_at "ne") => `(tactic| first | assumption | (apply Ne.symm; assumption) | exact L2.ne_of_none (by assumption) (by assumption) | exact Ne.symm (L2.ne_of_none (by assumption) (by assumption)))
local macro_rules | `(tactic| walk_at "hl") => `(tactic| first | assumption | exact L2.upd_same | (refine Eq.trans (L2.upd_ne (by walk_at "ne")) ?_; walk_at "hl"))
local macro_rules | `(tactic| walk_at "sd") => `(tactic| first | (with_reducible show (_ : Int) < _; omega) | (with_reducible show (_ : Int) ≤ _; omega) | assumption | decide | exact ⟨by assumption, by assumption⟩ | exact ⟨by decide, by decide⟩ | exact Or.inr ⟨by decide, by decide⟩ | exact Or.inl ⟨by omega, by omega⟩ | rfl)
local macro_rules | `(tactic| walk_at "st1") => `(tactic| first
  | refine ⟨_, rfl, ?_⟩
  | refine ⟨_, _, rfl, rfl, ?_⟩
  | refine ⟨_, _, rfl, ?_⟩
  | (refine ⟨_, _, _, _, rfl, rfl, L2.SqL.of (by walk_at "hl"), rfl, ?_⟩)
  | (refine ⟨_, _, _, _, rfl, rfl, L2.SqT.of (by walk_at "hl"), rfl, ?_⟩)
  | (refine ⟨_, _, _, _, rfl, rfl, (by walk_at "hl"), rfl, ?_⟩)
  | (refine And.intro (by walk_at "sd") ?_)
  )
local macro_rules | `(tactic| walk_at "st") => `(tactic| repeat walk_at "st1")
local macro_rules | `(tactic| walk_at "op") => `(tactic| try dsimp only [L2.tSeq, L2.tAsg, L2.tOp, L2.tVar, L2.tC, L2.gSub, L2.rI, L2.rI0, L2.rIxL, L2.rIxT, L2.rSetL, L2.tIfS, L2.tTest, L2.tRet, L2.gName, L2.tNext, L2.tAnd, L2.tOr, L2.tNot, L2.tAndV, L2.tOrV, L2.tNotV, L2.tB, L2.tCB, L2.tCons, L2.tNil, L2.tCall, L2.tTup, L2.tLst, L2.tChain, L2.tUn, L2.tPar, L2.tDrop, L2.tIf, L2.tBM, L2.tBM0, L2.rAppend, L2.rCat, L2.rIsi, L2.rIsiT, L2.gTup, L2.gCons, L2.gNil, Fm.tFor_eq, Fm.tLc_eq, Fm.tLc2_eq, L2.iTup, L2.iList, L2.iRng1, L2.iRng2, L2.tSl, L2.tPart, L2.tNoPart, L2.rSlL, L2.rEq, L2.rNe, L2.rU, L2.rEqD, L2.rNeD, Fm.tRevT, Fm.rLenS, Fm.rTupOf, Fm.rLstOf, L2.tDNewK, L2.tCallS, L2.WE, Fm.wKeep, Fm.rIsK, Fm.rIsKT, List.cons_append, List.nil_append, L2.tYes])
namespace Fm
open PySem PySem.Spec PyProof.Rows L2
abbrev s_law_others : Stmt := top 63
abbrev N_law_others : List Str := ["bag", "house", "standing", "odd", "at", "part", "some", "k", "one"]
theorem sc_law_others : FnScope N_law_others ["bag", "house", "standing"] (defScope s_law_others) := ⟨rfl, rfl, rfl, by decide +kernel, rfl, by decide +kernel, by decide +kernel⟩
section
variable {P : Program} {w : World} {K : PySem.W.Frag} {mg : Str → Option Value} {base : Heap}
/-! ### things that are near a standing -/
def M1 : Int := 1000000000000000001
structure El0 (d : PyData) : Prop where
  good : Good 2 d
  fit : Fit 100 2 d
  near : ∀ i, d = .int i → i ≤ M1
structure El (d : PyData) : Prop where
  good : Good 3 d
  fit : Fit 2000 3 d
  near : ∀ i, d = .int i → i ≤ M1
  near2 : ∀ es, d = .tuple es → ∀ x ∈ es, ∀ i, x = .int i → i ≤ M1
structure Th (d : PyData) : Prop where
  good : Good 5 d
  fit : Fit 30000 5 d
  near : ∀ ds, d = .tuple ds → ∀ e ∈ ds, (∀ i, e = .int i → i ≤ M1) ∧ ∀ es, e = .tuple es → ∀ x ∈ es, ∀ i, x = .int i → i ≤ M1
theorem el0_int {i : Int} (h : i ≤ M1) (h0 : -10 ≤ i) : El0 (.int i) := ⟨⟨by simp only [PyData.canLay0], by simp only [PyData.depth]; omega, by simp only [PyData.hasDict]⟩, (fit_int (Nat.lt_of_le_of_lt (show i.natAbs ≤ 1000000000000000001 by unfold M1 at h; omega) (by decide))).mono (by decide) (by decide), fun j e => by cases e; exact h⟩
theorem El0.el {d : PyData} (h : El0 d) (h2 : ∀ es, d = .tuple es → ∀ x ∈ es, ∀ i, x = .int i → i ≤ M1) : El d := ⟨h.good.mono (by decide), h.fit.mono (by decide) (by decide), h.near, h2⟩
theorem el_tup {ds : List PyData} (h : ∀ d ∈ ds, El0 d) (hl : ds.length ≤ 14) : El (.tuple ds) := by
  refine ⟨Good.tup fun d hd => (h d hd).good, (fit_tupD (fun d hd => (h d hd).fit) fun d hd => (h d hd).good.dic).mono (by omega) (Nat.le_refl _), fun i e => (by cases e), fun es e x hx i hi => ?_⟩
  cases e
  exact (h x hx).near i hi
theorem el_lst {ds : List PyData} (h : ∀ d ∈ ds, El0 d) (hl : ds.length ≤ 14) : El (.list ds) :=
  ⟨Good.lst fun d hd => (h d hd).good, (fit_lst (fun d hd => (h d hd).fit) fun d hd => (h d hd).good.dic).mono (by omega) (Nat.le_refl _), fun i e => (by cases e), fun es e => (by cases e)⟩
theorem th_tup {ds : List PyData} (h : ∀ d ∈ ds, El d) (hl : ds.length ≤ 12) : Th (.tuple ds) := by
  refine ⟨(Good.tup fun d hd => (h d hd).good).mono (by decide), (fit_tupD (fun d hd => (h d hd).fit) fun d hd => (h d hd).good.dic).mono (by omega) (by omega), fun es e x hx => ?_⟩
  cases e
  exact ⟨(h x hx).near, (h x hx).near2⟩
theorem th_lst {ds : List PyData} (h : ∀ d ∈ ds, El d) (hl : ds.length ≤ 12) : Th (.list ds) :=
  ⟨(Good.lst fun d hd => (h d hd).good).mono (by decide), (fit_lst (fun d hd => (h d hd).fit) fun d hd => (h d hd).good.dic).mono (by omega) (by omega), fun es e => (by cases e)⟩
theorem el_row {m : Nat} {c : List Int} (hm : m ≤ 6) (h : Cnts m c) : El (rowD c) ∧ ∀ d ∈ c.map PyData.int, El0 d := by
  have h0 : ∀ d ∈ c.map PyData.int, El0 d := fun d hd => by
    obtain ⟨x, hx, rfl⟩ := List.mem_map.mp hd
    have := h.2 x hx
    exact el0_int (by unfold M1; omega) (by omega)
  exact ⟨el_tup h0 (by rw [List.length_map, h.1]; omega), h0⟩
/-- an odd thing: it may stand for a count, for a floor, for all -/
def Odd (d : PyData) : Prop := El0 d ∧ El d ∧ Th d
theorem odd_of {d : PyData} (h : El0 d) (h2 : ∀ es, d = .tuple es → ∀ x ∈ es, (∀ i, x = .int i → i ≤ M1) ∧ ∀ fs, x ≠ .tuple fs) : Odd d :=
  ⟨h, h.el fun es e x hx => (h2 es e x hx).1, h.good.mono (by decide), h.fit.mono (by decide) (by decide), fun ds e x hx => ⟨(h2 ds e x hx).1, fun fs e' => absurd e' ((h2 ds e x hx).2 fs)⟩⟩
theorem odd_int {i : Int} (h : i ≤ M1) (h0 : -10 ≤ i) : Odd (.int i) := odd_of (el0_int h h0) fun es e => by cases e
theorem odd_true : Odd (.bool true) := odd_of ⟨⟨by simp only [PyData.canLay0], by simp only [PyData.depth]; omega, by simp only [PyData.hasDict]⟩, (fit_bool true).mono (by decide) (by decide), fun i e => by cases e⟩ fun es e => by cases e
theorem odd_none : Odd .none := odd_of ⟨⟨by simp only [PyData.canLay0], by simp only [PyData.depth]; omega, by simp only [PyData.hasDict]⟩, fit_none.mono (by decide) (by decide), fun i e => by cases e⟩ fun es e => by cases e
theorem odd_str : Odd (.str "1") := odd_of ⟨⟨by simp only [PyData.canLay0]; decide +kernel, by simp only [PyData.depth]; omega, by simp only [PyData.hasDict]⟩, (fit_str (by decide +kernel)).mono (by decide) (by decide), fun i e => by cases e⟩ fun es e => by cases e
theorem odd_nil : Odd (.tuple []) := odd_of ⟨(Good.tup (k := 0) (ds := []) fun d hd => by cases hd).mono (by decide), (fit_tupD (n := 0) (k := 0) (ds := []) (fun d hd => by cases hd) fun d hd => by cases hd).mono (by simp) (by decide), fun i e => by cases e⟩ fun es e x hx => by
  cases e
  cases hx
theorem odd_lst : Odd (.list []) := odd_of ⟨(Good.lst (k := 0) (ds := []) fun d hd => by cases hd).mono (by decide), (fit_lst (n := 0) (k := 0) (ds := []) (fun d hd => by cases hd) fun d hd => by cases hd).mono (by simp) (by decide), fun i e => by cases e⟩ fun es e => by cases e
theorem odd_one : Odd (.tuple [.int 0]) := by
  have h0 : ∀ d ∈ [PyData.int 0], El0 d := fun d hd => by
    rw [List.mem_singleton.mp hd]
    exact el0_int (by unfold M1; decide) (by decide)
  have g0 : ∀ d ∈ [PyData.int 0], Good 0 d := fun d hd => by
    rw [List.mem_singleton.mp hd]
    exact ⟨by simp only [PyData.canLay0], by simp only [PyData.depth]; omega, by simp only [PyData.hasDict]⟩
  refine odd_of ⟨(Good.tup g0).mono (by decide), ((fit_tupD (n := 41) (k := 0) (ds := [.int 0]) (fun d hd => ?_) fun d hd => (h0 d hd).good.dic).mono (by simp) (by decide)), fun i e => by cases e⟩ fun es e x hx => ?_
  · rw [List.mem_singleton.mp hd]
    exact fit_int (by decide)
  · cases e
    rw [List.mem_singleton.mp hx]
    exact ⟨(el0_int (i := 0) (by unfold M1; decide) (by decide)).near, fun fs z => by cases z⟩
theorem th_put {ds e1 e3 : List PyData} {od : PyData} {P : PyData → Prop} (h : ∀ d ∈ ds, El d ∧ P d) (ho : El od) (m1 : ∀ e ∈ e1, e ∈ ds) (m3 : ∀ e ∈ e3, e ∈ ds) (l1 : e1.length ≤ ds.length) (l3 : e3.length ≤ ds.length) (hl : ds.length ≤ 5) : Th (.tuple (e1 ++ [od] ++ e3)) :=
  th_tup (fun d hd => by
    rcases List.mem_append.mp hd with hd | hd
    · rcases List.mem_append.mp hd with hd | hd
      · exact (h d (m1 d hd)).1
      · rw [List.mem_singleton.mp hd]
        exact ho
    · exact (h d (m3 d hd)).1) (by rw [List.length_append, List.length_append, List.length_singleton]; omega)
theorem el_put {ds e1 e3 : List PyData} {od : PyData} (h : ∀ d ∈ ds, El0 d) (ho : El0 od) (m1 : ∀ e ∈ e1, e ∈ ds) (m3 : ∀ e ∈ e3, e ∈ ds) (l1 : e1.length ≤ ds.length) (l3 : e3.length ≤ ds.length) (hl : ds.length ≤ 6) : El (.tuple (e1 ++ [od] ++ e3)) :=
  el_tup (fun d hd => by
    rcases List.mem_append.mp hd with hd | hd
    · rcases List.mem_append.mp hd with hd | hd
      · exact h d (m1 d hd)
      · rw [List.mem_singleton.mp hd]
        exact ho
    · exact h d (m3 d hd)) (by rw [List.length_append, List.length_append, List.length_singleton]; omega)
theorem zero_odd : Odd (.int 0) := odd_int (by unfold M1; decide) (by decide)
/-! ### slices and sums of things -/
section
variable {H : Hp} {Q : VK} {p : Addr} {u : HO} {v w : V}
theorem sl_any {K : PySem.W.Frag} {ds : List PyData} {lo hi : Option Int} (hp : H p = some u) (h : Dat H p v (.tuple ds)) (q : ∀ w G es, Same H G → Dat G p w (.tuple es) → (∀ e ∈ es, e ∈ ds) → es.length ≤ ds.length → Q w G) : rSlA K v lo hi H Q :=
  sl_dat hp h rfl fun w G s hd => q w G _ s hd (fun e he => List.mem_of_mem_drop (List.mem_of_mem_take he)) (by rw [List.length_take, List.length_drop]; omega)
theorem list_dat {K : PySem.W.Frag} {ds : List PyData} (hp : H p = some u) (h : Dat H p v (.tuple ds)) (q : ∀ w G, Same H G → Dat G p w (.list ds) → Q w G) : rLstOf K [v] H Q := by
  obtain ⟨a, xs, rfl, ha, hap, hx⟩ := h.isTup
  exact ⟨a, xs, rfl, .inr (SqT.of ha), fun l hl => by
    have s := same_new (o := .lst xs) hl
    exact q _ _ s (.lst upd_same (ne_of_none' hl hp) (hx.same s).1 (hx.same s).2)⟩
theorem rev_dats {xs : List V} {ds : List PyData} (h : Dats H p xs ds) : Dats H p xs.reverse ds.reverse := by
  refine ⟨by rw [List.length_reverse, List.length_reverse, h.1], fun i x d a b => ?_⟩
  have hi : i < xs.length := by
    have := (List.getElem?_eq_some_iff.mp a).1
    rwa [List.length_reverse] at this
  rw [List.getElem?_reverse hi] at a
  rw [List.getElem?_reverse (by rw [← h.1]; exact hi), ← h.1] at b
  exact h.2 _ x d a b
end
def spOthers : Sp := fun vs H Q _ => ∃ (p : Addr) (hv sv : V) (m n : Nat) (rows : List (List Int)) (out : Int), vs = [.ref p, hv, sv] ∧ Bag H p ∧ m ≤ 6 ∧ 1 ≤ m ∧ n ≤ 4 ∧ Dat H p sv (stD rows out) ∧ rows.length = n ∧ (∀ r ∈ rows, Cnts m r) ∧ 0 ≤ out ∧ out ≤ 1000000000000000000 ∧
  ∀ (L : Addr) ws ds H', Bag H' p → Ext p H H' → H L = none → L ≠ p → H' L = some (.lst ws) → Dats H' L ws ds → (∀ d ∈ ds, Th d) → ds.length ≤ 20 → Q (.ref L) H'
theorem ok_law_others (D : Df K mg "_law_others" s_law_others ["bag", "house", "standing"]) (T : Nms mg) (c_law_pick : CallOk P w K mg base CX0 1 "_law_pick" ["bag", "many"] spPick) : CallOk P w K mg base CX0 2 "_law_others" ["bag", "house", "standing"] spOthers := by
  refine df_ok D sc_law_others (fun vs H Q E h => ?_) (fun f cdv A outer s H vs Q E hr h => ?_)
  · obtain ⟨p, hv, sv, m, n, rows, out, rfl, _⟩ := h
    rfl
  · obtain ⟨p, hv, sv, m, n, rows, out, rfl, hB, hm6, hm1, hn4, hT, hrl, hcn, o0, o1, k⟩ := h
    have nd := sc_law_others.nd
    refine ⟨_, (pss_cons (ps_set (i := 3) nd rfl (Or.inl rfl) (pe_ix (r := rIxL K) ix_list (pe_lst (pa_cons (pe_un un_neg pe_int) (pa_cons pe_bl (pa_cons pe_non (pa_cons pe_str (pa_cons (pe_op op_add (pe_op op_pow pe_int pe_int) pe_int) (pa_cons (pe_tup pa_nil) (pa_cons (pe_lst pa_nil) (pa_cons (pe_tup (pa_cons pe_int pa_nil)) (pa_cons (pe_op op_pow pe_int pe_int) pa_nil)))))))))) (pe_cc c_law_pick (hr.mono (by omega)) (pa_cons (pv 0) (pa_cons pe_int pa_nil))) (fun _ _ => rfl)))
      (pss_cons (ps_set (i := 4) nd rfl (Or.inl rfl) (pe_cc c_law_pick (hr.mono (by omega)) (pa_cons (pv 0) (pa_cons (pe_callB (r := rLenS K) call_lenS (by rfl) T.n_len (by decide +kernel) (pa_cons (pv 2) pa_nil)) pa_nil))))
      (pss_cons (ps_set (i := 5) nd rfl (Or.inl rfl) (pe_ix (r := rIxT K) ix_tup (pv 2) (pv 4) (fun _ _ => rfl)))
      (pss_cons (ps_set (i := 6) nd rfl (Or.inl rfl) (pe_lst (pa_cons (pe_op (r := rCatA K) op_catA (pe_op (r := rCatA K) op_catA (pe_slice (r := rSlA K) sl_tupA (pv 2) po_none (po_some (pv 4))) (pe_tup (pa_cons (pv 3) pa_nil))) (pe_slice (r := rSlA K) sl_tupA (pv 2) (po_some (pe_op op_add (pv 4) pe_int)) po_none)) (pa_cons (pe_slice (r := rSlA K) sl_tupA (pv 2) po_none (po_some (pe_un un_neg pe_int))) (pa_cons (pe_op (r := rCatA K) op_catA (pv 2) (pe_tup (pa_cons pe_int pa_nil))) (pa_cons (pe_callTy (r := rLstOf K) call_lstOf (by rfl) T.n_list (by decide +kernel) (pa_cons (pv 2) pa_nil)) pa_nil))))))
      (pss_cons (ps_set (i := 6) nd rfl (Or.inl rfl) (pe_op op_cat (pv 6) (pe_lst (pa_cons (pv 3) (pa_cons (pe_REV (pv 2)) pa_nil)))))
      (pss_cons (ps_if (pt_val (pe_callB (r := rIsi K) call_isi (by rfl) T.n_isinstance (by decide +kernel) (pa_cons (pv 5) (pa_cons (pe_bltn (v := .ty "tuple") (by rfl) T.n_tuple (by decide +kernel) rfl) pa_nil)))) (pss_cons (ps_set (i := 7) nd rfl (Or.inl rfl) (pe_cc c_law_pick (hr.mono (by omega)) (pa_cons (pv 0) (pa_cons (pe_callB (r := rLenS K) call_lenS (by rfl) T.n_len (by decide +kernel) (pa_cons (pv 5) pa_nil)) pa_nil))))
      (pss_one (ps_for PassesOwn.never rfl (pi_list (pe_lst (pa_cons (pe_op (r := rCatA K) op_catA (pe_op (r := rCatA K) op_catA (pe_slice (r := rSlA K) sl_tupA (pv 5) po_none (po_some (pv 7))) (pe_tup (pa_cons (pv 3) pa_nil))) (pe_slice (r := rSlA K) sl_tupA (pv 5) (po_some (pe_op op_add (pv 7) pe_int)) po_none)) (pa_cons (pe_op (r := rCatA K) op_catA (pv 5) (pe_tup (pa_cons pe_int pa_nil))) (pa_cons (pe_slice (r := rSlA K) sl_tupA (pv 5) (po_some pe_int) po_none) (pa_cons (pe_callTy (r := rLstOf K) call_lstOf (by rfl) T.n_list (by decide +kernel) (pa_cons (pv 5) pa_nil)) pa_nil)))))) (pg_name (i := 8) nd rfl (Or.inl rfl)) (pss_one (ps_expr (pe_bm PySem.F.plainAttrs_list PySem.F.slot_list_append PySem.F.type_list_append mt_append (pv 6) (pa_cons (pe_op (r := rCatA K) op_catA (pe_op (r := rCatA K) op_catA (pe_slice (r := rSlA K) sl_tupA (pv 2) po_none (po_some (pv 4))) (pe_tup (pa_cons (pv 8) pa_nil))) (pe_slice (r := rSlA K) sl_tupA (pv 2) (po_some (pe_op op_add (pv 4) pe_int)) po_none)) pa_nil))))))) pss_nil)
      (pss_one (ps_ret (pv 6))))))))), ?_⟩
    walk_at "op"
    have hst : L2.start N_law_others [V.ref p, hv, sv] = [some (V.ref p), some hv, some sv, none, none, none, none, none, none] := rfl
    rw [hst]
    have e18 : (10 : Int) ^ (18 : Int).toNat = 1000000000000000000 := by decide
    have hEl : ∀ d ∈ rows.map rowD ++ [PyData.int out], El d ∧ ((∃ i, d = .int i) ∨ ∃ c, d = rowD c ∧ Cnts m c) := fun d hd => by
      rcases List.mem_append.mp hd with hd | hd
      · obtain ⟨c, hc, rfl⟩ := List.mem_map.mp hd
        exact ⟨(el_row hm6 (hcn c hc)).1, .inr ⟨c, rfl, hcn c hc⟩⟩
      · rw [List.mem_singleton.mp hd]
        exact ⟨(odd_int (by unfold M1; omega) (by omega)).2.1, .inl ⟨out, rfl⟩⟩
    have hlen : (rows.map rowD ++ [PyData.int out]).length = n + 1 := by rw [List.length_append, List.length_map, hrl]; rfl
    replace hT : Dat H p sv (.tuple (rows.map rowD ++ [PyData.int out])) := hT
    generalize rows.map rowD ++ [PyData.int out] = ds0 at *
    clear hcn o0 o1
    obtain ⟨u0, hu⟩ : ∃ u, H p = some u := by
      obtain ⟨b1, b2, b3, e⟩ := hB
      exact ⟨_, e⟩
    have hx : Same H H := fun _ _ e => e
    refine ⟨1, rfl, 10, 18, rfl, rfl, ⟨by decide, by decide, by decide⟩, ?_⟩
    rw [e18]
    refine ⟨_, _, rfl, rfl, by show 0 ≤ sizeLine; decide, fun t0 ht0 => ?_⟩
    have d0 := Dat.new ht0 (ne_of_none' ht0 hu) (Dats.nil (H := H) (p := p))
    have st := same_new (o := .tup []) ht0
    replace hx := hx.trans st
    replace hu := st _ _ hu
    replace hB := hB.smm st
    replace hT := hT.same st
    generalize upd H t0 (.tup []) = G1 at *
    clear st ht0
    refine ⟨by show 0 ≤ sizeLine; decide, fun l0 hl0 => ?_⟩
    have d1 : Dat (upd G1 l0 (.lst [])) p (.ref l0) (.list []) := .lst upd_same (ne_of_none' hl0 hu) rfl (fun i x d a => by simp at a)
    have st := same_new (o := .lst []) hl0
    replace hx := hx.trans st
    replace hu := st _ _ hu
    replace hB := hB.smm st
    replace hT := hT.same st
    replace d0 := d0.same st
    generalize upd G1 l0 (.lst []) = G2 at *
    clear st hl0
    refine ⟨by show 1 ≤ sizeLine; decide, fun t1 ht1 => ?_⟩
    have d2 := one_tup hu ht1 (.int 0)
    have st := same_new (o := .tup [V.int 0]) ht1
    replace hx := hx.trans st
    replace hu := st _ _ hu
    replace hB := hB.smm st
    replace hT := hT.same st
    replace d0 := d0.same st
    replace d1 := d1.same st
    generalize upd G2 t1 (.tup [V.int 0]) = G3 at *
    clear st ht1
    refine ⟨10, 18, rfl, rfl, ⟨by decide, by decide, by decide⟩, ?_⟩
    rw [e18]
    refine ⟨by show 9 ≤ sizeLine; decide, fun q hq => ?_⟩
    have hq0 : upd G3 q (.lst [V.int (-1), V.bl true, V.non, V.str "1", V.int (1000000000000000000 + 1), V.ref t0, V.ref l0, V.ref t1, V.int 1000000000000000000]) q = some (.lst [V.int (-1), V.bl true, V.non, V.str "1", V.int (1000000000000000000 + 1), V.ref t0, V.ref l0, V.ref t1, V.int 1000000000000000000]) := upd_same
    have nq := ne_of_none' hq hu
    have st := same_new (o := .lst [V.int (-1), V.bl true, V.non, V.str "1", V.int (1000000000000000000 + 1), V.ref t0, V.ref l0, V.ref t1, V.int 1000000000000000000]) hq
    replace hx := hx.trans st
    replace hu := st _ _ hu
    replace hB := hB.smm st
    replace hT := hT.same st
    replace d0 := d0.same st
    replace d1 := d1.same st
    replace d2 := d2.same st
    generalize upd G3 q (.lst [V.int (-1), V.bl true, V.non, V.str "1", V.int (1000000000000000000 + 1), V.ref t0, V.ref l0, V.ref t1, V.int 1000000000000000000]) = G4 at *
    clear st hq
    refine ⟨_, rfl, p, 9, rfl, by decide, by decide, hB, fun i G5 i0 i1 hB x1 => ?_⟩
    replace hT := hT.ext x1
    replace d0 := d0.ext x1
    replace d1 := d1.ext x1
    replace d2 := d2.ext x1
    replace hq0 := x1 _ _ hq0 nq
    have hX : Ext p H G5 := (Same.ext hx p).trans x1
    clear x1 hu hx
    obtain ⟨ov, od, hov, hO, hOd⟩ : ∃ ov od, atI [V.int (-1), V.bl true, V.non, V.str "1", V.int (1000000000000000000 + 1), V.ref t0, V.ref l0, V.ref t1, V.int 1000000000000000000] i = some ov ∧ Dat G5 p ov od ∧ Odd od := by
      rcases (by omega : i = 0 ∨ i = 1 ∨ i = 2 ∨ i = 3 ∨ i = 4 ∨ i = 5 ∨ i = 6 ∨ i = 7 ∨ i = 8) with rfl | rfl | rfl | rfl | rfl | rfl | rfl | rfl | rfl
      · exact ⟨_, _, rfl, .int _, odd_int (by unfold M1; decide) (by decide)⟩
      · exact ⟨_, _, rfl, .bl _, odd_true⟩
      · exact ⟨_, _, rfl, .non, odd_none⟩
      · exact ⟨_, _, rfl, .str _, odd_str⟩
      · exact ⟨_, _, rfl, .int _, odd_int (by unfold M1; decide) (by decide)⟩
      · exact ⟨_, _, rfl, d0, odd_nil⟩
      · exact ⟨_, _, rfl, d1, odd_lst⟩
      · exact ⟨_, _, rfl, d2, odd_one⟩
      · exact ⟨_, _, rfl, .int _, odd_int (by unfold M1; decide) (by decide)⟩
    refine ⟨q, _, i, ov, rfl, rfl, SqL.of hq0, hov, ?_⟩
    clear hov d0 d1 d2 hq0 i0 i1
    try dsimp only [List.set]
    obtain ⟨sa, xs, e0, hsa, nsa, hxs⟩ := hT.isTup
    subst e0
    have hxl : xs.length = n + 1 := by rw [hxs.1, hlen]
    refine ⟨_, rfl, _, rfl, sa, xs, rfl, .inr (SqT.of hsa), p, _, rfl, by omega, pk (by omega) (by omega), hB, fun at_ G6 at0 at1 hB x1 => ?_⟩
    replace hT := hT.ext x1
    replace hO := hO.ext x1
    replace hsa := x1 _ _ hsa nsa
    replace hxs := hxs.ext x1
    replace hX := hX.trans x1
    clear x1
    obtain ⟨u0, hu⟩ : ∃ u, G6 p = some u := by
      obtain ⟨b1, b2, b3, e⟩ := hB
      exact ⟨_, e⟩
    have hati : at_.toNat < xs.length := by omega
    obtain ⟨pd, hpd, hP⟩ := hxs.at (List.getElem?_eq_getElem hati)
    have hpm : pd ∈ ds0 := List.mem_of_getElem? hpd
    try dsimp only [List.set]
    refine ⟨_, rfl, _, rfl, sa, xs, at_, xs[at_.toNat], rfl, rfl, SqT.of hsa, atI_of at0 (List.getElem?_eq_getElem hati), ?_⟩
    generalize xs[at_.toNat] = pvv at *
    clear hpd hati hsa hxs hxl at1
    try dsimp only [List.set]
    have hy : Same G6 G6 := fun _ _ e => e
    have hlen5 : ds0.length ≤ 5 := by omega
    refine ⟨_, rfl, _, rfl, at_, rfl, sl_any hu hT fun w1a G7 e1a st dw1a m1a l1a => ?_⟩
    replace hy := hy.trans st
    replace hu := st _ _ hu
    replace hB := hB.smm st
    replace hT := hT.same st
    replace hO := hO.same st
    replace hP := hP.same st
    clear st
    refine ⟨_, rfl, by show 1 ≤ sizeLine; decide, fun t ht => ?_⟩
    have dt := one_tup hu ht hO
    have st := same_new (o := .tup [ov]) ht
    replace hy := hy.trans st
    replace hu := st _ _ hu
    replace hB := hB.smm st
    replace hT := hT.same st
    replace hO := hO.same st
    replace hP := hP.same st
    replace dw1a := dw1a.same st
    generalize upd G7 t (.tup [ov]) = G8 at *
    clear st ht
    refine cat_dat hu dw1a dt (by simp; omega) fun w1b G9 st dw1b => ?_
    replace hy := hy.trans st
    replace hu := st _ _ hu
    replace hB := hB.smm st
    replace hT := hT.same st
    replace hO := hO.same st
    replace hP := hP.same st
    replace dw1a := dw1a.same st
    clear st
    clear dt
    clear dw1a
    refine ⟨_, rfl, _, rfl, _, _, rfl, rfl, (at_ + 1), rfl, sl_any hu hT fun w1c G10 e1c st dw1c m1c l1c => ?_⟩
    replace hy := hy.trans st
    replace hu := st _ _ hu
    replace hB := hB.smm st
    replace hT := hT.same st
    replace hO := hO.same st
    replace hP := hP.same st
    replace dw1b := dw1b.same st
    clear st
    refine cat_dat hu dw1b dw1c (by simp; omega) fun w1 G11 st dw1 => ?_
    replace hy := hy.trans st
    replace hu := st _ _ hu
    replace hB := hB.smm st
    replace hT := hT.same st
    replace hO := hO.same st
    replace hP := hP.same st
    replace dw1b := dw1b.same st
    clear st
    clear dw1c
    clear dw1b
    have th1 := th_put hEl hOd.2.1 m1a m1c l1a l1c (by omega)
    refine ⟨_, rfl, 1, rfl, (-1), rfl, sl_any hu hT fun w2 G12 e2 st dw2 m2 l2 => ?_⟩
    replace hy := hy.trans st
    replace hu := st _ _ hu
    replace hB := hB.smm st
    replace hT := hT.same st
    replace hO := hO.same st
    replace hP := hP.same st
    replace dw1 := dw1.same st
    clear st
    have th2 : Th (.tuple e2) := th_tup (fun d hd => (hEl d (m2 d hd)).1) (by omega)
    refine ⟨_, rfl, by show 1 ≤ sizeLine; decide, fun t ht => ?_⟩
    have dt := one_tup hu ht (.int 0)
    have st := same_new (o := .tup [V.int 0]) ht
    replace hy := hy.trans st
    replace hu := st _ _ hu
    replace hB := hB.smm st
    replace hT := hT.same st
    replace hO := hO.same st
    replace hP := hP.same st
    replace dw1 := dw1.same st
    replace dw2 := dw2.same st
    generalize upd G12 t (.tup [V.int 0]) = G13 at *
    clear st ht
    refine cat_dat hu hT dt (by simp; omega) fun w3 G14 st dw3 => ?_
    replace hy := hy.trans st
    replace hu := st _ _ hu
    replace hB := hB.smm st
    replace hT := hT.same st
    replace hO := hO.same st
    replace hP := hP.same st
    replace dw1 := dw1.same st
    replace dw2 := dw2.same st
    clear st
    clear dt
    have th3 : Th (.tuple (ds0 ++ [.int 0])) := by
      have := th_put (e1 := ds0) (e3 := []) hEl zero_odd.2.1 (fun _ h => h) (fun _ h => by cases h) (Nat.le_refl _) (Nat.zero_le _) hlen5
      rwa [List.append_nil] at this
    obtain ⟨_, xs, e0, hsa, nsa, hxs⟩ := hT.isTup
    cases e0
    refine ⟨_, rfl, sa, xs, rfl, .inr (SqT.of hsa), fun w4 hw4 => ?_⟩
    have dw4 : Dat (upd G14 w4 (.lst xs)) p (.ref w4) (.list ds0) := .lst upd_same (ne_of_none' hw4 hu) (hxs.off (o := .lst xs) hw4).1 (hxs.off (o := .lst xs) hw4).2
    have th4 : Th (.list ds0) := th_lst (fun d hd => (hEl d hd).1) (by omega)
    clear hsa nsa hxs
    have st := same_new (o := .lst xs) hw4
    replace hy := hy.trans st
    replace hu := st _ _ hu
    replace hB := hB.smm st
    replace hT := hT.same st
    replace hO := hO.same st
    replace hP := hP.same st
    replace dw1 := dw1.same st
    replace dw2 := dw2.same st
    replace dw3 := dw3.same st
    generalize upd G14 w4 (.lst xs) = G15 at *
    clear st hw4
    clear xs
    refine ⟨by show 4 ≤ sizeLine; decide, fun L1 hL1 => ?_⟩
    have eL1 : upd G15 L1 (.lst [w1, w2, w3, V.ref w4]) L1 = some (.lst [w1, w2, w3, V.ref w4]) := upd_same
    have st := same_new (o := .lst [w1, w2, w3, V.ref w4]) hL1
    replace hy := hy.trans st
    replace hu := st _ _ hu
    replace hB := hB.smm st
    replace hT := hT.same st
    replace hO := hO.same st
    replace hP := hP.same st
    replace dw1 := dw1.same st
    replace dw2 := dw2.same st
    replace dw3 := dw3.same st
    replace dw4 := dw4.same st
    generalize upd G15 L1 (.lst [w1, w2, w3, V.ref w4]) = G16 at *
    clear st hL1
    try dsimp only [List.set]
    obtain ⟨_, xs, e0, hsa, nsa, hxs⟩ := hT.isTup
    cases e0
    refine ⟨_, rfl, _, rfl, _, rfl, sa, xs, rfl, SqT.of hsa, fun w6 hw6 => ?_⟩
    have dw6 := Dat.new hw6 (ne_of_none' hw6 hu) (rev_dats hxs)
    have th6 : Th (.tuple ds0.reverse) := th_tup (fun d hd => (hEl d (List.mem_reverse.mp hd)).1) (by rw [List.length_reverse]; omega)
    clear hsa nsa hxs
    have st := same_new (o := .tup xs.reverse) hw6
    replace hy := hy.trans st
    replace hu := st _ _ hu
    replace hB := hB.smm st
    replace hT := hT.same st
    replace hO := hO.same st
    replace hP := hP.same st
    replace dw1 := dw1.same st
    replace dw2 := dw2.same st
    replace dw3 := dw3.same st
    replace dw4 := dw4.same st
    replace eL1 := st _ _ eL1
    generalize upd G16 w6 (.tup xs.reverse) = G17 at *
    clear st hw6
    clear xs
    refine ⟨by show 2 ≤ sizeLine; decide, fun Lb hLb => ?_⟩
    have eLb : upd G17 Lb (.lst [ov, V.ref w6]) Lb = some (.lst [ov, V.ref w6]) := upd_same
    have st := same_new (o := .lst [ov, V.ref w6]) hLb
    replace hy := hy.trans st
    replace hu := st _ _ hu
    replace hB := hB.smm st
    replace hT := hT.same st
    replace hO := hO.same st
    replace hP := hP.same st
    replace dw1 := dw1.same st
    replace dw2 := dw2.same st
    replace dw3 := dw3.same st
    replace dw4 := dw4.same st
    replace eL1 := st _ _ eL1
    replace dw6 := dw6.same st
    generalize upd G17 Lb (.lst [ov, V.ref w6]) = G18 at *
    clear st hLb
    refine ⟨L1, Lb, _, _, rfl, rfl, eL1, eLb, by show 6 ≤ sizeLine; decide, fun L hL => ?_⟩
    have hLp := ne_of_none' hL hu
    have hLH : H L = none := by
      cases e : H L with
      | none => rfl
      | some o => exact absurd (hy _ _ (hX _ _ e hLp)) (by rw [hL]; exact fun z => by cases z)
    have hL0 : G6 L = none := sameFree hy hL
    have eL : upd G18 L (.lst ([w1, w2, w3, V.ref w4] ++ [ov, V.ref w6])) L = some (.lst ([w1, w2, w3, V.ref w4] ++ [ov, V.ref w6])) := upd_same
    have hds : Dats G18 p ([w1, w2, w3, V.ref w4] ++ [ov, V.ref w6]) [.tuple (e1a ++ [od] ++ e1c), .tuple e2, .tuple (ds0 ++ [.int 0]), .list ds0, od, .tuple ds0.reverse] := Dats.cons dw1 (Dats.cons dw2 (Dats.cons dw3 (Dats.cons dw4 (Dats.cons hO (Dats.cons dw6 Dats.nil)))))
    have hds2 : Dats G18 L ([w1, w2, w3, V.ref w4] ++ [ov, V.ref w6]) _ := ⟨hds.1, fun i x d a b => (hds.2 i x d a b).fresh2 hL⟩
    have hths : ∀ d ∈ [PyData.tuple (e1a ++ [od] ++ e1c), .tuple e2, .tuple (ds0 ++ [.int 0]), .list ds0, od, .tuple ds0.reverse], Th d := fun d hd => by
      simp only [List.mem_cons, List.not_mem_nil, or_false] at hd
      rcases hd with rfl | rfl | rfl | rfl | rfl | rfl
      · exact th1
      · exact th2
      · exact th3
      · exact th4
      · exact hOd.2.2
      · exact th6
    have hdl : [PyData.tuple (e1a ++ [od] ++ e1c), .tuple e2, .tuple (ds0 ++ [.int 0]), .list ds0, od, .tuple ds0.reverse].length = 6 := rfl
    have hT2 := hT.fresh2 hL
    have hO2 := hO.fresh2 hL
    have hP2 := hP.fresh2 hL
    have st := same_new (o := .lst ([w1, w2, w3, V.ref w4] ++ [ov, V.ref w6])) hL
    replace hds := hds.same st
    replace hds2 := hds2.same st
    replace hT2 := hT2.same st
    replace hO2 := hO2.same st
    replace hP2 := hP2.same st
    replace hy := hy.trans st
    replace hu := st _ _ hu
    replace hB := hB.smm st
    replace hT := hT.same st
    replace hO := hO.same st
    replace hP := hP.same st
    clear dw1 dw2 dw3 dw4 dw6 th1 th2 th3 th4 th6 eL1 eLb m1a m1c l1a l1c m2 l2
    generalize upd G18 L (.lst ([w1, w2, w3, V.ref w4] ++ [ov, V.ref w6])) = G19 at *
    generalize [PyData.tuple (e1a ++ [od] ++ e1c), .tuple e2, .tuple (ds0 ++ [.int 0]), .list ds0, od, .tuple ds0.reverse] = dsL at *
    generalize [w1, w2, w3, V.ref w4] ++ [ov, V.ref w6] = wsL at *
    clear st hL
    try dsimp only [List.set]
    refine ⟨_, rfl, _, _, _, _, _, rfl, .ty _, hP.ty, kit_ty (kit_tuple pd), _, rfl, ?_⟩
    refine ite2 (fun c1 => ?_) (fun c1 => ?_)
    rotate_left
    · exact ⟨_, rfl, k L wsL dsL _ hB (hX.trans (Same.ext hy p)) hLH hLp eL hds2 hths (by omega)⟩
    obtain ⟨c, rfl, hc⟩ : ∃ c, pd = rowD c ∧ Cnts m c := by
      rcases (hEl pd hpm).2 with ⟨i, rfl⟩ | ⟨c, e, h⟩
      · cases c1
      · exact ⟨c, e, h⟩
    have h0 := (el_row hm6 hc).2
    have hcl : (c.map PyData.int).length = m := by rw [List.length_map, hc.1]
    replace hP : Dat G19 p pvv (.tuple (c.map PyData.int)) := hP
    replace hP2 : Dat G19 L pvv (.tuple (c.map PyData.int)) := hP2
    generalize c.map PyData.int = cs at *
    obtain ⟨pa, ys, e0, hpa, npa, hys⟩ := hP.isTup
    subst e0
    have hyl : ys.length = m := by rw [hys.1, hcl]
    refine ⟨_, rfl, _, rfl, pa, ys, rfl, .inr (SqT.of hpa), p, _, rfl, by omega, pk (by omega) (by omega), hB, fun k7 G20 k70 k71 hB x1 => ?_⟩
    replace hT := Dat.bothE x1 hT hT2
    replace hO := Dat.bothE x1 hO hO2
    replace hP := Dat.bothE x1 hP hP2
    replace hds : Dats G20 L wsL dsL := ⟨hds.1, fun i x d a b => Dat.bothE x1 (hds.2 i x d a b) (hds2.2 i x d a b)⟩
    replace hu := x1 _ _ eL hLp
    replace hX := (hX.trans (Same.ext hy p)).trans x1
    clear hT2 hO2 hP2 hds2 eL hy x1 hpa npa hys hyl k71
    try dsimp only [List.set]
    have hy : Same G20 G20 := fun _ _ e => e
    refine ⟨_, rfl, _, rfl, k7, rfl, sl_any hu hP fun w11a G21 e11a st dw11a m11a l11a => ?_⟩
    replace hy := hy.trans st
    replace hu := st _ _ hu
    replace hB := hB.smm st
    replace hT := hT.same st
    replace hO := hO.same st
    replace hP := hP.same st
    replace hds := hds.same st
    clear st
    refine ⟨_, rfl, by show 1 ≤ sizeLine; decide, fun t ht => ?_⟩
    have dt := one_tup hu ht hO
    have st := same_new (o := .tup [ov]) ht
    replace hy := hy.trans st
    replace hu := st _ _ hu
    replace hB := hB.smm st
    replace hT := hT.same st
    replace hO := hO.same st
    replace hP := hP.same st
    replace hds := hds.same st
    replace dw11a := dw11a.same st
    generalize upd G21 t (.tup [ov]) = G22 at *
    clear st ht
    refine cat_dat hu dw11a dt (by simp; omega) fun w11b G23 st dw11b => ?_
    replace hy := hy.trans st
    replace hu := st _ _ hu
    replace hB := hB.smm st
    replace hT := hT.same st
    replace hO := hO.same st
    replace hP := hP.same st
    replace hds := hds.same st
    replace dw11a := dw11a.same st
    clear st
    clear dt
    clear dw11a
    refine ⟨_, rfl, _, rfl, _, _, rfl, rfl, (k7 + 1), rfl, sl_any hu hP fun w11c G24 e11c st dw11c m11c l11c => ?_⟩
    replace hy := hy.trans st
    replace hu := st _ _ hu
    replace hB := hB.smm st
    replace hT := hT.same st
    replace hO := hO.same st
    replace hP := hP.same st
    replace hds := hds.same st
    replace dw11b := dw11b.same st
    clear st
    refine cat_dat hu dw11b dw11c (by simp; omega) fun w11 G25 st dw11 => ?_
    replace hy := hy.trans st
    replace hu := st _ _ hu
    replace hB := hB.smm st
    replace hT := hT.same st
    replace hO := hO.same st
    replace hP := hP.same st
    replace hds := hds.same st
    replace dw11b := dw11b.same st
    clear st
    clear dw11c
    clear dw11b
    have th11 := el_put h0 hOd.1 m11a m11c l11a l11c (by omega)
    refine ⟨_, rfl, by show 1 ≤ sizeLine; decide, fun t ht => ?_⟩
    have dt := one_tup hu ht (.int 0)
    have st := same_new (o := .tup [V.int 0]) ht
    replace hy := hy.trans st
    replace hu := st _ _ hu
    replace hB := hB.smm st
    replace hT := hT.same st
    replace hO := hO.same st
    replace hP := hP.same st
    replace hds := hds.same st
    replace dw11 := dw11.same st
    generalize upd G25 t (.tup [V.int 0]) = G26 at *
    clear st ht
    refine cat_dat hu hP dt (by simp; omega) fun w12 G27 st dw12 => ?_
    replace hy := hy.trans st
    replace hu := st _ _ hu
    replace hB := hB.smm st
    replace hT := hT.same st
    replace hO := hO.same st
    replace hP := hP.same st
    replace hds := hds.same st
    replace dw11 := dw11.same st
    clear st
    clear dt
    have th12 : El (.tuple (cs ++ [.int 0])) := by
      have := el_put (e1 := cs) (e3 := []) h0 zero_odd.1 (fun _ h => h) (fun _ h => by cases h) (Nat.le_refl _) (Nat.zero_le _) (by omega)
      rwa [List.append_nil] at this
    refine ⟨_, rfl, 1, rfl, sl_any hu hP fun w13 G28 e13 st dw13 m13 l13 => ?_⟩
    replace hy := hy.trans st
    replace hu := st _ _ hu
    replace hB := hB.smm st
    replace hT := hT.same st
    replace hO := hO.same st
    replace hP := hP.same st
    replace hds := hds.same st
    replace dw11 := dw11.same st
    replace dw12 := dw12.same st
    clear st
    have th13 : El (.tuple e13) := el_tup (fun d hd => h0 d (m13 d hd)) (by omega)
    obtain ⟨_, xs, e0, hsa, nsa, hxs⟩ := hP.isTup
    cases e0
    refine ⟨_, rfl, pa, xs, rfl, .inr (SqT.of hsa), fun w14 hw14 => ?_⟩
    have dw14 : Dat (upd G28 w14 (.lst xs)) L (.ref w14) (.list cs) := .lst upd_same (ne_of_none' hw14 hu) (hxs.off (o := .lst xs) hw14).1 (hxs.off (o := .lst xs) hw14).2
    have th14 : El (.list cs) := el_lst h0 (by omega)
    clear hsa nsa hxs
    have st := same_new (o := .lst xs) hw14
    replace hy := hy.trans st
    replace hu := st _ _ hu
    replace hB := hB.smm st
    replace hT := hT.same st
    replace hO := hO.same st
    replace hP := hP.same st
    replace hds := hds.same st
    replace dw11 := dw11.same st
    replace dw12 := dw12.same st
    replace dw13 := dw13.same st
    generalize upd G28 w14 (.lst xs) = G29 at *
    clear st hw14
    clear xs
    refine ⟨by show 4 ≤ sizeLine; decide, fun W4 hW4 => ?_⟩
    have eW : upd G29 W4 (.lst [w11, w12, w13, V.ref w14]) W4 = some (.lst [w11, w12, w13, V.ref w14]) := upd_same
    have hWL : W4 ≠ L := ne_of_none' hW4 hu
    have st := same_new (o := .lst [w11, w12, w13, V.ref w14]) hW4
    replace hy := hy.trans st
    replace hu := st _ _ hu
    replace hB := hB.smm st
    replace hT := hT.same st
    replace hO := hO.same st
    replace hP := hP.same st
    replace hds := hds.same st
    replace dw11 := dw11.same st
    replace dw12 := dw12.same st
    replace dw13 := dw13.same st
    replace dw14 := dw14.same st
    generalize upd G29 W4 (.lst [w11, w12, w13, V.ref w14]) = G30 at *
    clear st hW4
    have h4 : ∀ x ∈ [w11, w12, w13, V.ref w14], ∃ d, Dat G30 L x d ∧ El d := fun x hx => by
      simp only [List.mem_cons, List.not_mem_nil, or_false] at hx
      rcases hx with rfl | rfl | rfl | rfl
      · exact ⟨_, dw11, th11⟩
      · exact ⟨_, dw12, th12⟩
      · exact ⟨_, dw13, th13⟩
      · exact ⟨_, dw14, th14⟩
    have h44 : [w11, w12, w13, V.ref w14].length = 4 := rfl
    generalize [w11, w12, w13, V.ref w14] = four at *
    clear dw11 dw12 dw13 dw14 th11 th12 th13 th14 hP hO
    refine ⟨W4, rfl, ⟨_, SqL.of eW⟩, ?_⟩
    refine fL (fun i σ G => G W4 = some (.lst four) ∧ (∃ ws ds, G L = some (.lst ws) ∧ Dats G L ws ds ∧ (∀ d ∈ ds, Th d) ∧ ds.length = 6 + i) ∧ Bag G p ∧ Ext p H G ∧ Dat G L (.ref sa) (.tuple ds0) ∧ (∀ x ∈ four, ∃ d, Dat G L x d ∧ El d) ∧ ∃ v8, σ = [some (.ref p), some hv, some (.ref sa), some ov, some (.int at_), some (.ref pa), some (.ref L), some (.int k7), v8]) ⟨eW, ⟨_, _, hu, hds, hths, by omega⟩, hB, hX.trans (Same.ext hy p), hT, h4, _, rfl⟩ (fun i σ G _ hp => SqL.of hp.1) ?_ ?_
    · rintro i x σ G90 hi ⟨eW, ⟨ws, ds, hu, hds, hths, hdl⟩, hB, hX, hT, h4, v8, rfl⟩
      have hi4 : i < 4 := by rw [← h44]; exact (List.getElem?_eq_some_iff.mp hi).1
      obtain ⟨d, hd, hdE⟩ := h4 x (List.mem_of_getElem? hi)
      walk_at "op"
      try dsimp only [List.set]
      have hy : Same G90 G90 := fun _ _ e => e
      refine ⟨_, rfl, .inl ⟨rfl, _, SqL.of hu⟩, ?_⟩
      refine ⟨_, rfl, _, rfl, at_, rfl, sl_any hu hT fun w21a G91 e21a st dw21a m21a l21a => ?_⟩
      replace hy := hy.trans st
      replace hu := st _ _ hu
      replace hT := hT.same st
      replace hds := hds.same st
      replace hd := hd.same st
      clear st
      refine ⟨_, rfl, by show 1 ≤ sizeLine; decide, fun t ht => ?_⟩
      have dt := one_tup hu ht hd
      have st := same_new (o := .tup [x]) ht
      replace hy := hy.trans st
      replace hu := st _ _ hu
      replace hT := hT.same st
      replace hds := hds.same st
      replace hd := hd.same st
      replace dw21a := dw21a.same st
      generalize upd G91 t (.tup [x]) = G92 at *
      clear st ht
      refine cat_dat hu dw21a dt (by simp; omega) fun w21b G93 st dw21b => ?_
      replace hy := hy.trans st
      replace hu := st _ _ hu
      replace hT := hT.same st
      replace hds := hds.same st
      replace hd := hd.same st
      replace dw21a := dw21a.same st
      clear st
      clear dt
      clear dw21a
      refine ⟨_, rfl, _, rfl, _, _, rfl, rfl, (at_ + 1), rfl, sl_any hu hT fun w21c G94 e21c st dw21c m21c l21c => ?_⟩
      replace hy := hy.trans st
      replace hu := st _ _ hu
      replace hT := hT.same st
      replace hds := hds.same st
      replace hd := hd.same st
      replace dw21b := dw21b.same st
      clear st
      refine cat_dat hu dw21b dw21c (by simp; omega) fun w21 G95 st dw21 => ?_
      replace hy := hy.trans st
      replace hu := st _ _ hu
      replace hT := hT.same st
      replace hds := hds.same st
      replace hd := hd.same st
      replace dw21b := dw21b.same st
      clear st
      clear dw21c
      clear dw21b
      have th21 := th_put hEl hdE m21a m21c l21a l21c (by omega)
      have hLp' := hLp
      refine ⟨L, ws, _, rfl, rfl, hu, Nat.lt_of_le_of_lt (show _ ≤ 1000 by rw [hds.1]; omega) (by decide), ?_⟩
      have ex : ∀ o : HO, Ext L G95 (upd G95 L o) := fun o a q e ne => (upd_ne ne).trans e
      refine ⟨(upd_ne hWL).trans (hy _ _ eW), ⟨_, ds ++ [_], upd_same, (hds.ext (ex _)).snoc (dw21.ext (ex _)), fun d hd => ?_, by rw [List.length_append, hdl]; rfl⟩, (hB.smm hy).up hLp.symm, (hX.trans (Same.ext hy p)).off hLH, hT.ext (ex _), fun x hx => ?_, _, rfl⟩
      · rcases List.mem_append.mp hd with hd | hd
        · exact hths d hd
        · rw [List.mem_singleton.mp hd]
          exact th21
      · obtain ⟨d, q, r⟩ := h4 x hx
        exact ⟨d, (q.same hy).ext (ex _), r⟩
    · rintro σ G ⟨_, ⟨ws, ds, hu, hds, hths, hdl⟩, hB, hX, _, _, v8, rfl⟩
      walk_at "op"
      exact ⟨_, rfl, k L ws ds G hB hX hLH hLp hu hds hths (by omega)⟩

end
end Fm
end FOT
section FCT
set_option Elab.async false
set_option linter.all false
set_option maxRecDepth 100000
set_option maxHeartbeats 4000000
local macro_rules | `(tactic| walk_at "ne") => `(tactic| first | assumption | (apply Ne.symm; assumption) | exact L2.ne_of_none (by assumption) (by assumption) | exact Ne.symm (L2.ne_of_none (by assumption) (by assumption)))
local macro_rules | `(tactic| walk_at "hl") => `(tactic| first | assumption | exact L2.upd_same | (refine Eq.trans (L2.upd_ne (by walk_at "ne")) ?_; walk_at "hl"))
local macro_rules | `(tactic| walk_at "sd") => `(tactic| first | (with_reducible show (_ : Int) < _; omega) | (with_reducible show (_ : Int) ≤ _; omega) | assumption | decide | exact ⟨by assumption, by assumption⟩ | exact ⟨by decide, by decide⟩ | exact Or.inr ⟨by decide, by decide⟩ | exact Or.inl ⟨by omega, by omega⟩ | rfl)
local macro_rules | `(tactic| walk_at "st1") => `(tactic| first
  | refine ⟨_, rfl, ?_⟩
  | refine ⟨_, _, rfl, rfl, ?_⟩
  | refine ⟨_, _, rfl, ?_⟩
  | (refine ⟨_, _, _, _, rfl, rfl, L2.SqL.of (by walk_at "hl"), rfl, ?_⟩)
  | (refine ⟨_, _, _, _, rfl, rfl, L2.SqT.of (by walk_at "hl"), rfl, ?_⟩)
  | (refine ⟨_, _, _, _, rfl, rfl, (by walk_at "hl"), rfl, ?_⟩)
  | (refine And.intro (by walk_at "sd") ?_)
  )
local macro_rules | `(tactic| walk_at "st") => `(tactic| repeat walk_at "st1")
local macro_rules | `(tactic| walk_at "op") => `(tactic| try dsimp only [L2.tSeq, L2.tAsg, L2.tOp, L2.tVar, L2.tC, L2.gSub, L2.rI, L2.rI0, L2.rIxL, L2.rIxT, L2.rSetL, L2.tIfS, L2.tTest, L2.tRet, L2.gName, L2.tNext, L2.tAnd, L2.tOr, L2.tNot, L2.tAndV, L2.tOrV, L2.tNotV, L2.tB, L2.tCB, L2.tCons, L2.tNil, L2.tCall, L2.tTup, L2.tLst, L2.tChain, L2.tUn, L2.tPar, L2.tDrop, L2.tIf, L2.tBM, L2.tBM0, L2.rAppend, L2.rCat, L2.rIsi, L2.rIsiT, L2.gTup, L2.gCons, L2.gNil, Fm.tFor_eq, Fm.tLc_eq, Fm.tLc2_eq, L2.iTup, L2.iList, L2.iRng1, L2.iRng2, L2.tSl, L2.tPart, L2.tNoPart, L2.rSlL, L2.rEq, L2.rNe, L2.rU, L2.rEqD, L2.rNeD, Fm.tRevT, Fm.rLenS, Fm.rTupOf, Fm.rLstOf, L2.tDNewK, L2.tCallS, L2.WE, Fm.wKeep, Fm.rIsK, Fm.rIsKT, List.cons_append, List.nil_append, L2.tYes])
namespace Fm
open PySem PySem.Spec PyProof.Rows L2
section
variable {P : Program} {w : World} {K : PySem.W.Frag} {mg : Str → Option Value} {base : Heap}
/-! ### the one text within the other -/
def Within (y x : Str) : Prop := ∃ a b : List Nat, x.cps.toList = a ++ y.cps.toList ++ b
theorem Within.refl (x : Str) : Within x x := ⟨[], [], by simp⟩
theorem Within.trans {x y z : Str} (h : Within x y) (k : Within y z) : Within x z := by
  obtain ⟨a, b, e⟩ := h
  obtain ⟨c, d, f⟩ := k
  exact ⟨c ++ a, b ++ d, by rw [f, e]; simp⟩
theorem cpsl (a y : Str) : (a ++ y).cps.toList = a.cps.toList ++ y.cps.toList := by
  rw [PySem.Str.cps_append, Array.toList_append]
theorem Within.left {x y : Str} (h : Within y x) (a : Str) : Within y (a ++ x) := by
  obtain ⟨c, d, e⟩ := h
  exact ⟨a.cps.toList ++ c, d, by rw [cpsl, e]; simp⟩
theorem Within.right {x y : Str} (h : Within y x) (a : Str) : Within y (x ++ a) := by
  obtain ⟨c, d, e⟩ := h
  exact ⟨c, d ++ a.cps.toList, by rw [cpsl, e]; simp⟩
theorem within_join (sep : Str) : ∀ (ts : List Str) (t : Str), t ∈ ts → Within t (Str.join sep ts)
  | [], t, h => by cases h
  | [x], t, h => by
    rw [List.mem_singleton.mp h]
    exact Within.refl x
  | x :: y :: r, t, h => by
    show Within t (x ++ sep ++ Str.join sep (y :: r))
    rcases List.mem_cons.mp h with rfl | h
    · exact ((Within.refl t).right sep).right _
    · exact (within_join sep (y :: r) t h).left _
theorem shown_mem : ∀ {ds : List PyData} {d : PyData}, d ∈ ds → d.shown ∈ PyData.shownAll ds
  | [], d, h => by cases h
  | x :: r, d, h => by
    simp only [PyData.shownAll]
    rcases List.mem_cons.mp h with rfl | h
    · exact List.mem_cons_self
    · exact List.mem_cons_of_mem _ (shown_mem h)
theorem within_tup {ds : List PyData} {d : PyData} (h : d ∈ ds) : Within d.shown (PyData.tuple ds).shown := by
  have e : (PyData.tuple ds).shown = ("(" : Str) ++ Str.join ", " (PyData.shownAll ds) ++ (if (PyData.shownAll ds).length == 1 then ",)" else ")" : String) := by
    simp only [PyData.shown]
    rfl
  rw [e]
  exact ((within_join _ _ _ (shown_mem h)).left _).right _
theorem found_within {x y : Str} (h : Within y x) : (!(Builtin.Str.occurrences x y 0 x.length 1).isEmpty) = true := by
  obtain ⟨a, b, e⟩ := h
  have lx : x.cps.toList.length = x.length := Array.length_toList
  have ly : y.cps.toList.length = y.length := Array.length_toList
  refine (StrLaws.found_iff x y).mpr ⟨a.length, ?_, ?_⟩
  · rw [← lx, e, List.length_append, List.length_append]
    omega
  · rw [StrLaws.subAt_eq, e, List.append_assoc, List.drop_left, ← ly, List.take_left]
    exact beq_self_eq_true _
/-- of a standing with a greater count the text tells that count -/
theorem tells_great {d : PyData} {m n : Nat} (h : Th d) (hF : FormD .non m n d) (hno : ¬ FormD (.int 1000000000000000000) m n d) : Within (PyData.int M1).shown d.shown := by
  obtain ⟨ds, x, rfl, hl, ⟨i, rfl, h0, _⟩, hall⟩ := hF
  by_cases hx : i ≤ 1000000000000000000
  · have : ∃ e ∈ ds, ¬ AreD (.int 1000000000000000000) m e := Classical.byContradiction fun hn => hno ⟨ds, _, rfl, hl, ⟨i, rfl, h0, fun M e => by cases e; exact hx⟩, fun e he => Classical.byContradiction fun q => hn ⟨e, he, q⟩⟩
    obtain ⟨e, he, hne⟩ := this
    obtain ⟨es, rfl, hel, hu⟩ := hall e he
    have : ∃ c ∈ es, ¬ UpTo (.int 1000000000000000000) c := Classical.byContradiction fun hn => hne ⟨es, rfl, hel, fun c hc => Classical.byContradiction fun q => hn ⟨c, hc, q⟩⟩
    obtain ⟨c, hc, hnc⟩ := this
    obtain ⟨j, rfl, j0, _⟩ := hu c hc
    have hj : ¬ j ≤ 1000000000000000000 := fun q => hnc ⟨j, rfl, j0, fun M e => by cases e; exact q⟩
    have hj1 := (h.near _ rfl _ (List.mem_append.mpr (.inl he))).2 _ rfl _ hc j rfl
    have ej : j = M1 := by unfold M1 at *; omega
    subst ej
    exact (within_tup hc).trans (within_tup (List.mem_append.mpr (.inl he)))
  · have hi1 := (h.near _ rfl _ (List.mem_append.mpr (.inr (List.mem_singleton.mpr rfl)))).1 i rfl
    have ei : i = M1 := by unfold M1 at *; omega
    subst ei
    exact within_tup (List.mem_append.mpr (.inr (List.mem_singleton.mpr rfl)))

end
end Fm
end FCT
section FFmBmK
set_option Elab.async false
set_option linter.all false
set_option maxRecDepth 100000
set_option maxHeartbeats 4000000
namespace Fm
open PySem PySem.Spec PySem.Calls PyProof.Rows L2
/-- a method of a list within a comprehension: its place's K told -/
theorem pe_bmK {X : Cx} {K : PySem.W.Frag} {o e : Expr} {es : List Expr} {to : TE} {t : TA} {name : Str} {apos cpos : Pos} {T id : String} {r : V → List V → Hp → VK → Prop} (eK : X.K = K) (pa : PlainAttrs T) (slot : Slot T name id) (hty : typeOf (.builtin id) = pure (.type "method_descriptor")) (hm : MtR X id r) (ho : PE X o to) (ha : PA X (e :: es) t)
    (hbase : attributeBase o name X.env (eval o X.env) = eval o X.env := by rfl)
    (hfew : ((backTo cpos (starEach (e :: es) X.env)).all (fun x => !x.1) && (backToKw cpos (keywordEach [] X.env)).all (fun x => x.1.isSome)
      && decide ((e :: es).length + ([] : List Keyword).length + (if ([] : List Keyword).isEmpty then 0 else 1) < 30)) = true := by rfl)
    (hline : (apos.endLine == cpos.line) = true := by rfl) (hs : starEach (e :: es) X.env = (false, eval e X.env) :: starEach es X.env := by rfl) (hplain : (backTo cpos (starEach es X.env)).any (·.1) = false := by rfl) :
    PE X (.Call (.Attribute o name apos) (e :: es) [] cpos) (tBM K T r to t) := by
  subst eK
  exact pe_bm pa slot hty hm ho ha hbase hfew hline hs hplain
/-- xs.count(k), whole numbers -/
def rCountI (K : PySem.W.Frag) : V → List V → Hp → VK → Prop := fun x xs H Q => ∃ (a : Addr) (ns : List Int) (k : Int), x = V.ref a ∧ xs = [.int k] ∧ SqL K H a (ns.map V.int) ∧ Q (.int (ns.count k : Nat)) H
theorem mt_countI {X : Cx} : MtR X "list.count" (rCountI X.K) := by
  intro pins s σ H x xs v us Q I rx rxs h
  obtain ⟨a, ns, k, rfl, rfl, hs, q⟩ := h
  cases rx
  obtain ⟨u, rfl, ru⟩ := rxs.one
  obtain ⟨t, rfl⟩ := ru
  obtain ⟨its, rv, hl, _⟩ := I.list hs
  exact count_list_ints hl.isList rv.ints ⟨.int (ns.count k : Nat), H, I.tok _, ⟨_, rfl⟩, q⟩
end Fm
end FFmBmK
section FFmCountB
set_option Elab.async false
set_option linter.all false
set_option maxRecDepth 100000
set_option maxHeartbeats 4000000
namespace Fm
open PySem PySem.Spec PySem.Calls PyProof.Rows L2
theorem bools_read (hp : Heap) : ∀ {bs : List Bool} {us : List Value}, Vals (bs.map V.bl) us → ∃ as, ReadsAll hp us (bs.map PyData.bool) as
  | [], us, h => by
    rw [List.map_nil] at h
    cases h
    exact ⟨[], .nil⟩
  | b :: bs, us, h => by
    rw [List.map_cons] at h
    cases h with
    | cons r t =>
      cases r
      obtain ⟨as, q⟩ := bools_read hp t
      exact ⟨_, .cons (.bool b) q⟩
/-- xs.count(b), truths -/
def rCountB (K : PySem.W.Frag) : V → List V → Hp → VK → Prop := fun x xs H Q => ∃ (a : Addr) (bs : List Bool) (k : Bool), x = V.ref a ∧ xs = [.bl k] ∧ SqL K H a (bs.map V.bl) ∧ Q (.int (countIn (.bool k) (bs.map PyData.bool))) H
theorem mt_countB {X : Cx} : MtR X "list.count" (rCountB X.K) := by
  intro pins s σ H x xs v us Q I rx rxs h
  obtain ⟨a, bs, k, rfl, rfl, hs, q⟩ := h
  cases rx
  obtain ⟨u, rfl, ru⟩ := rxs.one
  cases ru
  obtain ⟨its, rv, hl, _⟩ := I.list hs
  obtain ⟨as, ra⟩ := bools_read s.heap rv
  refine count_list_bools hl.isList ra ?_ ⟨.int _, H, I.tok _, ⟨_, rfl⟩, q⟩
  rw [List.all_eq_true]
  intro d hd
  obtain ⟨b, _, rfl⟩ := List.mem_map.mp hd
  rfl
section
variable {D1 D2 D3 : Addr}
def rIsK3 (K : PySem.W.Frag) (D1 D2 D3 : Addr) : List V → Hp → VK → Prop := fun xs H Q => rIsK K D1 xs H Q ∨ rIsK K D2 xs H Q ∨ rIsK K D3 xs H Q
theorem call_isK3 {X : Cx} (C1 : ExcC X.K D1) (C2 : ExcC X.K D2) (C3 : ExcC X.K D3) : CallR X (.builtin "isinstance") (rIsK3 X.K D1 D2 D3) := by
  intro pins s σ H xs us Q I r h
  rcases h with h | h | h
  · exact call_isK C1 pins s σ H xs us Q I r h
  · exact call_isK C2 pins s σ H xs us Q I r h
  · exact call_isK C3 pins s σ H xs us Q I r h
def rIsKT3 (K : PySem.W.Frag) (D1 D2 D3 : Addr) : List V → Hp → VK → Prop := fun xs H Q => rIsKT K D1 xs H Q ∨ rIsKT K D2 xs H Q ∨ rIsKT K D3 xs H Q
theorem call_isKT3 {X : Cx} (C1 : ExcC X.K D1) (C2 : ExcC X.K D2) (C3 : ExcC X.K D3) : CallR X (.builtin "isinstance") (rIsKT3 X.K D1 D2 D3) := by
  intro pins s σ H xs us Q I r h
  rcases h with h | h | h
  · exact call_isKT C1 pins s σ H xs us Q I r h
  · exact call_isKT C2 pins s σ H xs us Q I r h
  · exact call_isKT C3 pins s σ H xs us Q I r h
end
end Fm
end FFmCountB
section FKI
set_option Elab.async false
set_option linter.all false
set_option maxRecDepth 100000
set_option maxHeartbeats 4000000
local macro_rules | `(tactic| walk_at "ne") => `(tactic| first | assumption | (apply Ne.symm; assumption) | exact L2.ne_of_none (by assumption) (by assumption) | exact Ne.symm (L2.ne_of_none (by assumption) (by assumption)))
local macro_rules | `(tactic| walk_at "hl") => `(tactic| first | assumption | exact L2.upd_same | (refine Eq.trans (L2.upd_ne (by walk_at "ne")) ?_; walk_at "hl"))
local macro_rules | `(tactic| walk_at "sd") => `(tactic| first | (with_reducible show (_ : Int) < _; omega) | (with_reducible show (_ : Int) ≤ _; omega) | assumption | decide | exact ⟨by assumption, by assumption⟩ | exact ⟨by decide, by decide⟩ | exact Or.inr ⟨by decide, by decide⟩ | exact Or.inl ⟨by omega, by omega⟩ | rfl)
local macro_rules | `(tactic| walk_at "st1") => `(tactic| first
  | refine ⟨_, rfl, ?_⟩
  | refine ⟨_, _, rfl, rfl, ?_⟩
  | refine ⟨_, _, rfl, ?_⟩
  | (refine ⟨_, _, _, _, rfl, rfl, L2.SqL.of (by walk_at "hl"), rfl, ?_⟩)
  | (refine ⟨_, _, _, _, rfl, rfl, L2.SqT.of (by walk_at "hl"), rfl, ?_⟩)
  | (refine ⟨_, _, _, _, rfl, rfl, (by walk_at "hl"), rfl, ?_⟩)
  | (refine And.intro (by walk_at "sd") ?_)
  )
local macro_rules | `(tactic| walk_at "st") => `(tactic| repeat walk_at "st1")
local macro_rules | `(tactic| walk_at "op") => `(tactic| try dsimp only [L2.tSeq, L2.tAsg, L2.tOp, L2.tVar, L2.tC, L2.gSub, L2.rI, L2.rI0, L2.rIxL, L2.rIxT, L2.rSetL, L2.tIfS, L2.tTest, L2.tRet, L2.gName, L2.tNext, L2.tAnd, L2.tOr, L2.tNot, L2.tAndV, L2.tOrV, L2.tNotV, L2.tB, L2.tCB, L2.tCons, L2.tNil, L2.tCall, L2.tTup, L2.tLst, L2.tChain, L2.tUn, L2.tPar, L2.tDrop, L2.tIf, L2.tBM, L2.tBM0, L2.rAppend, L2.rCat, L2.rIsi, L2.rIsiT, L2.gTup, L2.gCons, L2.gNil, Fm.tFor_eq, Fm.tLc_eq, Fm.tLc2_eq, L2.iTup, L2.iList, L2.iRng1, L2.iRng2, L2.tSl, L2.tPart, L2.tNoPart, L2.rSlL, L2.rEq, L2.rNe, L2.rU, L2.rEqD, L2.rNeD, Fm.tRevT, Fm.rLenS, Fm.rTupOf, Fm.rLstOf, L2.tDNewK, L2.tCallS, L2.WE, Fm.wKeep, Fm.rIsK, Fm.rIsKT, List.cons_append, List.nil_append, L2.tYes])
namespace Fm
open PySem PySem.Spec PyProof.Rows L2
abbrev s_law_kind : Stmt := top 65
abbrev N_law_kind : List Str := ["way", "house", "thing", "caught", "e", "kinds", "good"]
theorem sc_law_kind : FnScope N_law_kind ["way", "house", "thing"] (defScope s_law_kind) := ⟨rfl, rfl, rfl, by decide +kernel, rfl, by decide +kernel, by decide +kernel⟩
section
variable {P : Program} {w : World} {K : PySem.W.Frag} {mg : Str → Option Value} {base : Heap}
def spKind3 : Sp := fun vs H Q _ => ∃ (way : Nat) (hv tv : V) (p : Addr) (u : HO) (hd td : PyData), vs = [.int (way : Nat), hv, tv] ∧ H p = some u ∧ Dat H p hv hd ∧ Dat H p tv td ∧
  ((∃ m n, HouseN m n hd ∧ (way < 6 ∨ way = 8 ∨ way = 9) ∧ ¬ FormD .non m n td ∧ ∀ H', Same H H' → Q (.str "NoStanding") H') ∨
   (¬ HouseD hd ∧ way < 8 ∧ ∀ H', Same H H' → Q (.str "NoHouse") H') ∨
   (∃ m n, HouseN m n hd ∧ way = 6 ∧ ¬ AreD (.int 1000000000000000000) m td ∧ ∀ H', Same H H' → Q (.str "NoCompany") H'))
theorem ok_law_kind (D : Df K mg "_law_kind" s_law_kind ["way", "house", "thing"]) (T : Nms mg) (n_ValueError : mg "ValueError" = none) {C1 C2 C3 M : Addr} (EX1 : Exn K mg "NoHouse" C1 M) (EX2 : Exn K mg "NoStanding" C2 M) (EX3 : Exn K mg "NoCompany" C3 M) (g_MeetError : mg "MeetError" = some (.ref M))
    {a_Full a_NoFloor a_NoLog a_NoName a_NoNumber a_NoRow a_NoSeen a_NoState a_NoText a_NotFair a_Nothing a_NotLike a_NotSure a_Taken a_TooMany a_NoMeeting : Addr}
    (g_Full : mg "Full" = some (.ref a_Full)) (g_NoFloor : mg "NoFloor" = some (.ref a_NoFloor)) (g_NoLog : mg "NoLog" = some (.ref a_NoLog)) (g_NoName : mg "NoName" = some (.ref a_NoName)) (g_NoNumber : mg "NoNumber" = some (.ref a_NoNumber)) (g_NoRow : mg "NoRow" = some (.ref a_NoRow)) (g_NoSeen : mg "NoSeen" = some (.ref a_NoSeen)) (g_NoState : mg "NoState" = some (.ref a_NoState)) (g_NoText : mg "NoText" = some (.ref a_NoText)) (g_NotFair : mg "NotFair" = some (.ref a_NotFair)) (g_Nothing : mg "Nothing" = some (.ref a_Nothing))
    (g_NotLike : mg "NotLike" = some (.ref a_NotLike)) (g_NotSure : mg "NotSure" = some (.ref a_NotSure)) (g_Taken : mg "Taken" = some (.ref a_Taken)) (g_TooMany : mg "TooMany" = some (.ref a_TooMany)) (g_NoMeeting : mg "NoMeeting" = some (.ref a_NoMeeting))
    (za1 : PySem.W.kitAny K (.ref C1) [.ref a_Full, .ref a_NoFloor, .ref a_NoLog, .ref a_NoName, .ref a_NoNumber, .ref a_NoRow, .ref a_NoSeen, .ref a_NoState, .ref a_NoText, .ref a_NotFair, .ref a_Nothing] = some false) (zb1 : PySem.W.kitAny K (.ref C1) [.ref a_NotLike, .ref a_NotSure, .ref a_Taken, .ref a_TooMany] = some false) (z11 : PySem.W.kitOne K (.ref C1) (.ref C1) = some true) (z12 : PySem.W.kitOne K (.ref C1) (.ref C2) = some false) (z13 : PySem.W.kitOne K (.ref C1) (.ref C3) = some false) (zm1 : PySem.W.kitOne K (.ref C1) (.ref a_NoMeeting) = some false) (zv1 : PySem.W.kitOne K (.ref C1) (.type "ValueError") = some true) (za2 : PySem.W.kitAny K (.ref C2) [.ref a_Full, .ref a_NoFloor, .ref a_NoLog, .ref a_NoName, .ref a_NoNumber, .ref a_NoRow, .ref a_NoSeen, .ref a_NoState, .ref a_NoText, .ref a_NotFair, .ref a_Nothing] = some false) (zb2 : PySem.W.kitAny K (.ref C2) [.ref a_NotLike, .ref a_NotSure, .ref a_Taken, .ref a_TooMany] = some false) (z21 : PySem.W.kitOne K (.ref C2) (.ref C1) = some false) (z22 : PySem.W.kitOne K (.ref C2) (.ref C2) = some true) (z23 : PySem.W.kitOne K (.ref C2) (.ref C3) = some false) (zm2 : PySem.W.kitOne K (.ref C2) (.ref a_NoMeeting) = some false) (zv2 : PySem.W.kitOne K (.ref C2) (.type "ValueError") = some true) (za3 : PySem.W.kitAny K (.ref C3) [.ref a_Full, .ref a_NoFloor, .ref a_NoLog, .ref a_NoName, .ref a_NoNumber, .ref a_NoRow, .ref a_NoSeen, .ref a_NoState, .ref a_NoText, .ref a_NotFair, .ref a_Nothing] = some false) (zb3 : PySem.W.kitAny K (.ref C3) [.ref a_NotLike, .ref a_NotSure, .ref a_Taken, .ref a_TooMany] = some false) (z31 : PySem.W.kitOne K (.ref C3) (.ref C1) = some false) (z32 : PySem.W.kitOne K (.ref C3) (.ref C2) = some false) (z33 : PySem.W.kitOne K (.ref C3) (.ref C3) = some true) (zm3 : PySem.W.kitOne K (.ref C3) (.ref a_NoMeeting) = some false) (zv3 : PySem.W.kitOne K (.ref C3) (.type "ValueError") = some true)
    (c_meetings : CallOk P w K mg base (L2.CX P w) 8 "meetings" ["house", "standing"] (spRef C1 C2)) (c_behind : CallOk P w K mg base (L2.CX P w) 8 "behind" ["house", "standing", "meeting"] (spRef3 C1 C2)) (c_is_rest : CallOk P w K mg base (L2.CX P w) 8 "is_rest" ["house", "standing"] (spRef C1 C2))
    (c_how_long : CallOk P w K mg base (L2.CX P w) 8 "how_long" ["house", "standing"] (spRef C1 C2)) (c_who_rests : CallOk P w K mg base (L2.CX P w) 8 "who_rests" ["house", "standing"] (spRef C1 C2)) (c_together : CallOk P w K mg base (L2.CX P w) 7 "together" ["house", "one", "other"] (spTogRef C1 C2))
    (c_standing_of : CallOk P w K mg base (L2.CX P w) 7 "standing_of" ["house", "company"] (spStOf C1 C3)) (c_is_standing : CallOk P w K mg base (L2.CX P w) 7 "is_standing" ["house", "thing"] (spIsSt C1)) (c_law_nobody : CallOk P w K mg base CX0 1 "_law_nobody" ["house"] spNobody) :
    CallOk P w K mg base CX0 9 "_law_kind" ["way", "house", "thing"] spKind3 := by
  refine df_ok D sc_law_kind (fun vs H Q E h => ?_) (fun f cdv A outer s H vs Q E hr h => ?_)
  · obtain ⟨way, hv, tv, p, u, hd, td, rfl, _⟩ := h
    rfl
  · obtain ⟨way, hv, tv, p, u, hd, td, rfl, hu, hD, tD, k⟩ := h
    have nd := sc_law_kind.nd
    have g_NoHouse := EX1.g
    have g_NoStanding := EX2.g
    have g_NoCompany := EX3.g
    let a_NoHouse := C1
    let a_NoStanding := C2
    let a_NoCompany := C3
    refine ⟨_, (pss_cons (ps_set (i := 3) nd rfl (Or.inl rfl) pe_non)
      (pss_cons (ps_try_keep (i := 4) (j := 3) rfl rfl rfl nd rfl rfl rfl rfl ⟨rfl, by decide, .inl g_MeetError⟩ (by decide) (by decide) (by rfl) (by show 4 < List.length N_law_kind; decide) (fun W pn xe tk _ => (pss_one (ps_if (pt_cmpR op_eq (pv 0) pe_int (nomark _)) (pss_one (ps_expr (pe_cs c_meetings tk (hr.mono (by omega)) (pa_cons (pv 1) (pa_cons (pv 2) pa_nil))))) (pss_one (ps_if (pt_cmpR op_eq (pv 0) pe_int (nomark _)) (pss_one (ps_expr (pe_cs c_behind tk (hr.mono (by omega)) (pa_cons (pv 1) (pa_cons (pv 2) (pa_cons pe_non pa_nil)))))) (pss_one (ps_if (pt_cmpR op_eq (pv 0) pe_int (nomark _)) (pss_one (ps_expr (pe_cs c_is_rest tk (hr.mono (by omega)) (pa_cons (pv 1) (pa_cons (pv 2) pa_nil))))) (pss_one (ps_if (pt_cmpR op_eq (pv 0) pe_int (nomark _)) (pss_one (ps_expr (pe_cs c_how_long tk (hr.mono (by omega)) (pa_cons (pv 1) (pa_cons (pv 2) pa_nil))))) (pss_one (ps_if (pt_cmpR op_eq (pv 0) pe_int (nomark _)) (pss_one (ps_expr (pe_cs c_who_rests tk (hr.mono (by omega)) (pa_cons (pv 1) (pa_cons (pv 2) pa_nil))))) (pss_one (ps_if (pt_cmpR op_eq (pv 0) pe_int (nomark _)) (pss_one (ps_expr (pe_cs c_together tk (hr.mono (by omega)) (pa_cons (pv 1) (pa_cons (pv 2) (pa_cons (pv 2) pa_nil)))))) (pss_one (ps_if (pt_cmpR op_eq (pv 0) pe_int (nomark _)) (pss_one (ps_expr (pe_cs c_standing_of tk (hr.mono (by omega)) (pa_cons (pv 1) (pa_cons (pv 2) pa_nil))))) (pss_one (ps_if (pt_cmpR op_eq (pv 0) pe_int (nomark _)) (pss_one (ps_expr (pe_cs c_is_standing tk (hr.mono (by omega)) (pa_cons (pv 1) (pa_cons (pv 2) pa_nil))))) (pss_one (ps_if (pt_cmpR op_eq (pv 0) pe_int (nomark _)) (pss_one (ps_expr (pe_cs c_together tk (hr.mono (by omega)) (pa_cons (pv 1) (pa_cons (pe_cc c_law_nobody (hr.mono (by omega)) (pa_cons (pv 1) pa_nil)) (pa_cons (pv 2) pa_nil)))))) (pss_one (ps_expr (pe_cs c_together tk (hr.mono (by omega)) (pa_cons (pv 1) (pa_cons (pv 2) (pa_cons (pe_cc c_law_nobody (hr.mono (by omega)) (pa_cons (pv 1) pa_nil)) pa_nil))))))))))))))))))))))))))
      (pss_cons (ps_if (pt_cmpR op_isN (pv 3) pe_non (nomark _)) (pss_one (ps_ret pe_str)) pss_nil)
      (pss_cons (ps_if (pt_val (pe_callB (call_isKT3 EX1.c EX2.c EX3.c) (by rfl) T.n_isinstance (by decide +kernel) (pa_cons (pv 3) (pa_cons (pe_tup (pa_cons (pe_glob (v := .ref a_Full) rfl g_Full rfl) (pa_cons (pe_glob (v := .ref a_NoFloor) rfl g_NoFloor rfl) (pa_cons (pe_glob (v := .ref a_NoLog) rfl g_NoLog rfl) (pa_cons (pe_glob (v := .ref a_NoName) rfl g_NoName rfl) (pa_cons (pe_glob (v := .ref a_NoNumber) rfl g_NoNumber rfl) (pa_cons (pe_glob (v := .ref a_NoRow) rfl g_NoRow rfl) (pa_cons (pe_glob (v := .ref a_NoSeen) rfl g_NoSeen rfl) (pa_cons (pe_glob (v := .ref a_NoState) rfl g_NoState rfl) (pa_cons (pe_glob (v := .ref a_NoText) rfl g_NoText rfl) (pa_cons (pe_glob (v := .ref a_NotFair) rfl g_NotFair rfl) (pa_cons (pe_glob (v := .ref a_Nothing) rfl g_Nothing rfl) pa_nil)))))))))))) pa_nil)))) (pss_one (ps_ret pe_str)) pss_nil)
      (pss_cons (ps_if (pt_val (pe_callB (call_isKT3 EX1.c EX2.c EX3.c) (by rfl) T.n_isinstance (by decide +kernel) (pa_cons (pv 3) (pa_cons (pe_tup (pa_cons (pe_glob (v := .ref a_NotLike) rfl g_NotLike rfl) (pa_cons (pe_glob (v := .ref a_NotSure) rfl g_NotSure rfl) (pa_cons (pe_glob (v := .ref a_Taken) rfl g_Taken rfl) (pa_cons (pe_glob (v := .ref a_TooMany) rfl g_TooMany rfl) pa_nil))))) pa_nil)))) (pss_one (ps_ret pe_str)) pss_nil)
      (pss_cons (ps_set (i := 5) nd rfl (Or.inl rfl) (pe_lst (pa_cons (pe_callB (call_isK3 EX1.c EX2.c EX3.c) (by rfl) T.n_isinstance (by decide +kernel) (pa_cons (pv 3) (pa_cons (pe_glob (v := .ref a_NoHouse) rfl g_NoHouse rfl) pa_nil))) (pa_cons (pe_callB (call_isK3 EX1.c EX2.c EX3.c) (by rfl) T.n_isinstance (by decide +kernel) (pa_cons (pv 3) (pa_cons (pe_glob (v := .ref a_NoStanding) rfl g_NoStanding rfl) pa_nil))) (pa_cons (pe_callB (call_isK3 EX1.c EX2.c EX3.c) (by rfl) T.n_isinstance (by decide +kernel) (pa_cons (pv 3) (pa_cons (pe_glob (v := .ref a_NoCompany) rfl g_NoCompany rfl) pa_nil))) pa_nil)))))
      (pss_cons (ps_expr (pe_bm PySem.F.plainAttrs_list PySem.F.slot_list_append PySem.F.type_list_append mt_append (pv 5) (pa_cons (pe_callB (call_isK3 EX1.c EX2.c EX3.c) (by rfl) T.n_isinstance (by decide +kernel) (pa_cons (pv 3) (pa_cons (pe_glob (v := .ref a_NoMeeting) rfl g_NoMeeting rfl) pa_nil))) pa_nil)))
      (pss_cons (ps_set (i := 6) nd rfl (Or.inl rfl) (pe_and (pe_cmpR op_eq (pe_bmK (K := K) (r := rCountB K) rfl PySem.F.plainAttrs_list PySem.F.slot_list_count PySem.F.type_list_count mt_countB (pv 5) (pa_cons pe_bl pa_nil)) pe_int (nomark _)) (pe_one (pe_callB (call_isK3 EX1.c EX2.c EX3.c) (by rfl) T.n_isinstance (by decide +kernel) (pa_cons (pv 3) (pa_cons (pe_bltn (v := .ty "ValueError") (by rfl) n_ValueError (by decide +kernel) rfl) pa_nil))))))
      (pss_one (ps_ret (pe_ifExp (pt_val (pv 6)) (pe_ix (r := rIxL K) ix_list (pe_lst (pa_cons pe_str (pa_cons pe_str (pa_cons pe_str (pa_cons pe_str pa_nil))))) (pe_bmK (K := K) (r := rIndex K) rfl PySem.F.plainAttrs_list PySem.F.slot_list_index PySem.F.type_list_index mt_index (pv 5) (pa_cons pe_bl pa_nil)) (fun _ _ => rfl)) pe_str))))))))))), ?_⟩
    walk_at "op"
    have hst : L2.start N_law_kind [V.int (way : Nat), hv, tv] = [some (V.int (way : Nat)), some hv, some tv, none, none, none, none] := rfl
    rw [hst]
    try dsimp only [List.set]
    rcases k with ⟨m, n, hN, hw, hno, k⟩ | ⟨hno, hw, k⟩ | ⟨m, n, hN, rfl, hno, k⟩
    · have hway : way = 0 ∨ way = 1 ∨ way = 2 ∨ way = 3 ∨ way = 4 ∨ way = 5 ∨ way = 8 ∨ way = 9 := by omega
      rcases hway with rfl | rfl | rfl | rfl | rfl | rfl | rfl | rfl
      focus
        refine ⟨_, rfl, rfl, _, rfl, ?_⟩
        rw [if_pos (by decide)]
        refine ⟨_, rfl, _, rfl, hv, tv, p, p, hd, td, rfl, hD, tD, .inl ⟨m, n, hN, hno, fun G0 s0 => ?_⟩⟩
      rotate_left
      focus
        refine ⟨_, rfl, rfl, _, rfl, ?_⟩
        rw [if_neg (by decide)]
        refine ⟨_, rfl, rfl, _, rfl, ?_⟩
        rw [if_pos (by decide)]
        refine ⟨_, rfl, _, rfl, hv, tv, .non, p, p, hd, td, rfl, hD, tD, .inl ⟨m, n, hN, hno, fun G0 s0 => ?_⟩⟩
      rotate_left
      focus
        refine ⟨_, rfl, rfl, _, rfl, ?_⟩
        rw [if_neg (by decide)]
        refine ⟨_, rfl, rfl, _, rfl, ?_⟩
        rw [if_neg (by decide)]
        refine ⟨_, rfl, rfl, _, rfl, ?_⟩
        rw [if_pos (by decide)]
        refine ⟨_, rfl, _, rfl, hv, tv, p, p, hd, td, rfl, hD, tD, .inl ⟨m, n, hN, hno, fun G0 s0 => ?_⟩⟩
      rotate_left
      focus
        refine ⟨_, rfl, rfl, _, rfl, ?_⟩
        rw [if_neg (by decide)]
        refine ⟨_, rfl, rfl, _, rfl, ?_⟩
        rw [if_neg (by decide)]
        refine ⟨_, rfl, rfl, _, rfl, ?_⟩
        rw [if_neg (by decide)]
        refine ⟨_, rfl, rfl, _, rfl, ?_⟩
        rw [if_pos (by decide)]
        refine ⟨_, rfl, _, rfl, hv, tv, p, p, hd, td, rfl, hD, tD, .inl ⟨m, n, hN, hno, fun G0 s0 => ?_⟩⟩
      rotate_left
      focus
        refine ⟨_, rfl, rfl, _, rfl, ?_⟩
        rw [if_neg (by decide)]
        refine ⟨_, rfl, rfl, _, rfl, ?_⟩
        rw [if_neg (by decide)]
        refine ⟨_, rfl, rfl, _, rfl, ?_⟩
        rw [if_neg (by decide)]
        refine ⟨_, rfl, rfl, _, rfl, ?_⟩
        rw [if_neg (by decide)]
        refine ⟨_, rfl, rfl, _, rfl, ?_⟩
        rw [if_pos (by decide)]
        refine ⟨_, rfl, _, rfl, hv, tv, p, p, hd, td, rfl, hD, tD, .inl ⟨m, n, hN, hno, fun G0 s0 => ?_⟩⟩
      rotate_left
      focus
        refine ⟨_, rfl, rfl, _, rfl, ?_⟩
        rw [if_neg (by decide)]
        refine ⟨_, rfl, rfl, _, rfl, ?_⟩
        rw [if_neg (by decide)]
        refine ⟨_, rfl, rfl, _, rfl, ?_⟩
        rw [if_neg (by decide)]
        refine ⟨_, rfl, rfl, _, rfl, ?_⟩
        rw [if_neg (by decide)]
        refine ⟨_, rfl, rfl, _, rfl, ?_⟩
        rw [if_neg (by decide)]
        refine ⟨_, rfl, rfl, _, rfl, ?_⟩
        rw [if_pos (by decide)]
        refine ⟨_, rfl, _, rfl, _, rfl, hv, tv, tv, p, p, p, hd, td, td, rfl, hD, tD, tD, .inl ⟨m, n, hN, .inl hno, fun G0 s0 => ?_⟩⟩
      rotate_left
      focus
        refine ⟨_, rfl, rfl, _, rfl, ?_⟩
        rw [if_neg (by decide)]
        refine ⟨_, rfl, rfl, _, rfl, ?_⟩
        rw [if_neg (by decide)]
        refine ⟨_, rfl, rfl, _, rfl, ?_⟩
        rw [if_neg (by decide)]
        refine ⟨_, rfl, rfl, _, rfl, ?_⟩
        rw [if_neg (by decide)]
        refine ⟨_, rfl, rfl, _, rfl, ?_⟩
        rw [if_neg (by decide)]
        refine ⟨_, rfl, rfl, _, rfl, ?_⟩
        rw [if_neg (by decide)]
        refine ⟨_, rfl, rfl, _, rfl, ?_⟩
        rw [if_neg (by decide)]
        refine ⟨_, rfl, rfl, _, rfl, ?_⟩
        rw [if_neg (by decide)]
        refine ⟨_, rfl, rfl, _, rfl, ?_⟩
        rw [if_pos (by decide)]
        obtain ⟨fs, rfl, _⟩ := id hN
        refine ⟨_, rfl, _, rfl, hv, p, u, fs, m, n, rfl, hu, hD, hN, fun nv Gn dn sn => ?_⟩
        refine ⟨_, rfl, hv, nv, tv, p, p, p, _, _, td, rfl, hD.same sn, dn, tD.same sn, .inl ⟨m, n, hN, .inr hno, fun G0 s0 => ?_⟩⟩
        replace s0 := sn.trans s0
      rotate_left
      focus
        refine ⟨_, rfl, rfl, _, rfl, ?_⟩
        rw [if_neg (by decide)]
        refine ⟨_, rfl, rfl, _, rfl, ?_⟩
        rw [if_neg (by decide)]
        refine ⟨_, rfl, rfl, _, rfl, ?_⟩
        rw [if_neg (by decide)]
        refine ⟨_, rfl, rfl, _, rfl, ?_⟩
        rw [if_neg (by decide)]
        refine ⟨_, rfl, rfl, _, rfl, ?_⟩
        rw [if_neg (by decide)]
        refine ⟨_, rfl, rfl, _, rfl, ?_⟩
        rw [if_neg (by decide)]
        refine ⟨_, rfl, rfl, _, rfl, ?_⟩
        rw [if_neg (by decide)]
        refine ⟨_, rfl, rfl, _, rfl, ?_⟩
        rw [if_neg (by decide)]
        refine ⟨_, rfl, rfl, _, rfl, ?_⟩
        rw [if_neg (by decide)]
        obtain ⟨fs, rfl, _⟩ := id hN
        refine ⟨_, rfl, _, rfl, _, rfl, hv, p, u, fs, m, n, rfl, hu, hD, hN, fun nv Gn dn sn => ?_⟩
        refine ⟨hv, tv, nv, p, p, p, _, td, _, rfl, hD.same sn, tD.same sn, dn, .inl ⟨m, n, hN, .inl hno, fun G0 s0 => ?_⟩⟩
        replace s0 := sn.trans s0
      rotate_left
      all_goals
        refine ⟨EX2.m, fun a ha => ?_⟩
        walk_at "op"
        have e1 : upd G0 a (ExK (.ref C2) none a) a = some (ExK (.ref C2) none a) := upd_same
        have s1 : Same H (upd G0 a (ExK (.ref C2) none a)) := s0.trans (same_new ha)
        generalize upd G0 a (ExK (.ref C2) none a) = G1 at *
        try dsimp only [List.set]
        refine ⟨_, rfl, rfl, false, by rw [decide_eq_false (fun z => by cases z)], ?_⟩
        rw [if_neg (by decide)]
        refine ⟨_, rfl, by show 11 ≤ sizeLine; decide, fun t ht => ?_⟩
        have st := same_new (o := .tup [V.ref a_Full, V.ref a_NoFloor, V.ref a_NoLog, V.ref a_NoName, V.ref a_NoNumber, V.ref a_NoRow, V.ref a_NoSeen, V.ref a_NoState, V.ref a_NoText, V.ref a_NotFair, V.ref a_Nothing]) ht
        refine .inr (.inl (⟨a, t, _, _, false, rfl, st _ _ e1, upd_same, .cons (.own _) (.cons (.own _) (.cons (.own _) (.cons (.own _) (.cons (.own _) (.cons (.own _) (.cons (.own _) (.cons (.own _) (.cons (.own _) (.cons (.own _) (.cons (.own _) (.nil))))))))))), za2, ?_⟩))
        refine ⟨false, rfl, ?_⟩
        rw [if_neg (by decide)]
        replace e1 := st _ _ e1
        replace s1 := s1.trans st
        generalize upd G1 t (.tup [V.ref a_Full, V.ref a_NoFloor, V.ref a_NoLog, V.ref a_NoName, V.ref a_NoNumber, V.ref a_NoRow, V.ref a_NoSeen, V.ref a_NoState, V.ref a_NoText, V.ref a_NotFair, V.ref a_Nothing]) = G2 at *
        clear st ht
        refine ⟨_, rfl, by show 4 ≤ sizeLine; decide, fun t ht => ?_⟩
        have st := same_new (o := .tup [V.ref a_NotLike, V.ref a_NotSure, V.ref a_Taken, V.ref a_TooMany]) ht
        refine .inr (.inl (⟨a, t, _, _, false, rfl, st _ _ e1, upd_same, .cons (.own _) (.cons (.own _) (.cons (.own _) (.cons (.own _) (.nil)))), zb2, ?_⟩))
        refine ⟨false, rfl, ?_⟩
        rw [if_neg (by decide)]
        replace e1 := st _ _ e1
        replace s1 := s1.trans st
        generalize upd G2 t (.tup [V.ref a_NotLike, V.ref a_NotSure, V.ref a_Taken, V.ref a_TooMany]) = G3 at *
        clear st ht
        refine ⟨_, rfl, .inr (.inl (⟨a, _, _, _, rfl, e1, .own _, z21, ?_⟩))⟩
        refine ⟨_, rfl, .inr (.inl (⟨a, _, _, _, rfl, e1, .own _, z22, ?_⟩))⟩
        refine ⟨_, rfl, .inr (.inl (⟨a, _, _, _, rfl, e1, .own _, z23, ?_⟩))⟩
        refine ⟨by show 3 ≤ sizeLine; decide, fun L hL => ?_⟩
        have st := same_new (o := .lst [V.bl false, V.bl true, V.bl false]) hL
        have h1 : upd G3 L (.lst [V.bl false, V.bl true, V.bl false]) L = some (.lst [V.bl false, V.bl true, V.bl false]) := upd_same
        replace e1 := st _ _ e1
        have naL : a ≠ L := fun z => by rw [z, h1] at e1; cases e1
        have s3 : Same H G3 := s1
        have hLH := sameFree s3 hL
        replace s1 := s1.trans st
        generalize upd G3 L (.lst [V.bl false, V.bl true, V.bl false]) = G4 at *
        try dsimp only [List.set]
        refine ⟨_, rfl, .inl ⟨rfl, _, SqL.of h1⟩, _, rfl, .inr (.inl (⟨a, _, _, _, rfl, e1, .own _, zm2, ?_⟩))⟩
        refine ⟨L, _, _, rfl, rfl, h1, by show 3 < sizeLine; decide, ?_⟩
        have h2 : upd G4 L (.lst ([V.bl false, V.bl true, V.bl false] ++ [V.bl false])) L = some (.lst ([false, true, false, false].map V.bl)) := upd_same
        replace e1 : upd G4 L (.lst ([V.bl false, V.bl true, V.bl false] ++ [V.bl false])) a = _ := (upd_ne naL).trans e1
        have s5 : Same H (upd G4 L (.lst ([V.bl false, V.bl true, V.bl false] ++ [V.bl false]))) := sameOff s1 hLH
        generalize upd G4 L (.lst ([V.bl false, V.bl true, V.bl false] ++ [V.bl false])) = G5 at *
        refine ⟨_, rfl, .inl ⟨rfl, _, SqL.of h2⟩, ?_⟩
        refine ⟨L, [false, true, false, false], true, rfl, rfl, SqL.of h2, rfl, true, by rw [decide_eq_true (show V.int (countIn (.bool true) ([false, true, false, false].map PyData.bool)) = V.int 1 from by decide)], ?_⟩
        rw [if_pos rfl]
        refine ⟨_, rfl, .inr (.inl (⟨a, _, _, _, rfl, e1, .ty _, zv2, ?_⟩))⟩
        try dsimp only [List.set]
        refine ⟨_, rfl, _, rfl, ?_⟩
        rw [if_pos (by decide)]
        refine ⟨by show 4 ≤ sizeLine; decide, fun q hq => ?_⟩
        have st := same_new (o := .lst [V.str "NoHouse", V.str "NoStanding", V.str "NoCompany", V.str "NoMeeting"]) hq
        have h3 : upd G5 q (.lst [V.str "NoHouse", V.str "NoStanding", V.str "NoCompany", V.str "NoMeeting"]) q = some (.lst [V.str "NoHouse", V.str "NoStanding", V.str "NoCompany", V.str "NoMeeting"]) := upd_same
        replace h2 := st _ _ h2
        replace s5 := s5.trans st
        generalize upd G5 q (.lst [V.str "NoHouse", V.str "NoStanding", V.str "NoCompany", V.str "NoMeeting"]) = G6 at *
        refine ⟨_, rfl, .inl ⟨rfl, _, SqL.of h2⟩, L, _, .bl true, 1, .bl true, rfl, rfl, SqL.of h2, rfl, rfl, rfl, rfl, fun m z hm hz => ?_, ?_⟩
        focus
          match m, hm with
          | 0, _ => cases hz; rfl
        exact ⟨q, _, _, _, rfl, rfl, SqL.of h3, rfl, k _ s5⟩
    · have hway : way = 0 ∨ way = 1 ∨ way = 2 ∨ way = 3 ∨ way = 4 ∨ way = 5 ∨ way = 6 ∨ way = 7 := by omega
      rcases hway with rfl | rfl | rfl | rfl | rfl | rfl | rfl | rfl
      focus
        refine ⟨_, rfl, rfl, _, rfl, ?_⟩
        rw [if_pos (by decide)]
        refine ⟨_, rfl, _, rfl, hv, tv, p, p, hd, td, rfl, hD, tD, .inr ⟨hno, ?_⟩⟩
      rotate_left
      focus
        refine ⟨_, rfl, rfl, _, rfl, ?_⟩
        rw [if_neg (by decide)]
        refine ⟨_, rfl, rfl, _, rfl, ?_⟩
        rw [if_pos (by decide)]
        refine ⟨_, rfl, _, rfl, hv, tv, .non, p, p, hd, td, rfl, hD, tD, .inr ⟨hno, ?_⟩⟩
      rotate_left
      focus
        refine ⟨_, rfl, rfl, _, rfl, ?_⟩
        rw [if_neg (by decide)]
        refine ⟨_, rfl, rfl, _, rfl, ?_⟩
        rw [if_neg (by decide)]
        refine ⟨_, rfl, rfl, _, rfl, ?_⟩
        rw [if_pos (by decide)]
        refine ⟨_, rfl, _, rfl, hv, tv, p, p, hd, td, rfl, hD, tD, .inr ⟨hno, ?_⟩⟩
      rotate_left
      focus
        refine ⟨_, rfl, rfl, _, rfl, ?_⟩
        rw [if_neg (by decide)]
        refine ⟨_, rfl, rfl, _, rfl, ?_⟩
        rw [if_neg (by decide)]
        refine ⟨_, rfl, rfl, _, rfl, ?_⟩
        rw [if_neg (by decide)]
        refine ⟨_, rfl, rfl, _, rfl, ?_⟩
        rw [if_pos (by decide)]
        refine ⟨_, rfl, _, rfl, hv, tv, p, p, hd, td, rfl, hD, tD, .inr ⟨hno, ?_⟩⟩
      rotate_left
      focus
        refine ⟨_, rfl, rfl, _, rfl, ?_⟩
        rw [if_neg (by decide)]
        refine ⟨_, rfl, rfl, _, rfl, ?_⟩
        rw [if_neg (by decide)]
        refine ⟨_, rfl, rfl, _, rfl, ?_⟩
        rw [if_neg (by decide)]
        refine ⟨_, rfl, rfl, _, rfl, ?_⟩
        rw [if_neg (by decide)]
        refine ⟨_, rfl, rfl, _, rfl, ?_⟩
        rw [if_pos (by decide)]
        refine ⟨_, rfl, _, rfl, hv, tv, p, p, hd, td, rfl, hD, tD, .inr ⟨hno, ?_⟩⟩
      rotate_left
      focus
        refine ⟨_, rfl, rfl, _, rfl, ?_⟩
        rw [if_neg (by decide)]
        refine ⟨_, rfl, rfl, _, rfl, ?_⟩
        rw [if_neg (by decide)]
        refine ⟨_, rfl, rfl, _, rfl, ?_⟩
        rw [if_neg (by decide)]
        refine ⟨_, rfl, rfl, _, rfl, ?_⟩
        rw [if_neg (by decide)]
        refine ⟨_, rfl, rfl, _, rfl, ?_⟩
        rw [if_neg (by decide)]
        refine ⟨_, rfl, rfl, _, rfl, ?_⟩
        rw [if_pos (by decide)]
        refine ⟨_, rfl, _, rfl, _, rfl, hv, tv, tv, p, p, p, hd, td, td, rfl, hD, tD, tD, .inr ⟨hno, ?_⟩⟩
      rotate_left
      focus
        refine ⟨_, rfl, rfl, _, rfl, ?_⟩
        rw [if_neg (by decide)]
        refine ⟨_, rfl, rfl, _, rfl, ?_⟩
        rw [if_neg (by decide)]
        refine ⟨_, rfl, rfl, _, rfl, ?_⟩
        rw [if_neg (by decide)]
        refine ⟨_, rfl, rfl, _, rfl, ?_⟩
        rw [if_neg (by decide)]
        refine ⟨_, rfl, rfl, _, rfl, ?_⟩
        rw [if_neg (by decide)]
        refine ⟨_, rfl, rfl, _, rfl, ?_⟩
        rw [if_neg (by decide)]
        refine ⟨_, rfl, rfl, _, rfl, ?_⟩
        rw [if_pos (by decide)]
        refine ⟨_, rfl, _, rfl, hv, tv, p, p, hd, td, u, rfl, hu, hD, tD, fun m n hN => (hno ⟨m, n, hN⟩).elim, fun _ => ?_⟩
      rotate_left
      focus
        refine ⟨_, rfl, rfl, _, rfl, ?_⟩
        rw [if_neg (by decide)]
        refine ⟨_, rfl, rfl, _, rfl, ?_⟩
        rw [if_neg (by decide)]
        refine ⟨_, rfl, rfl, _, rfl, ?_⟩
        rw [if_neg (by decide)]
        refine ⟨_, rfl, rfl, _, rfl, ?_⟩
        rw [if_neg (by decide)]
        refine ⟨_, rfl, rfl, _, rfl, ?_⟩
        rw [if_neg (by decide)]
        refine ⟨_, rfl, rfl, _, rfl, ?_⟩
        rw [if_neg (by decide)]
        refine ⟨_, rfl, rfl, _, rfl, ?_⟩
        rw [if_neg (by decide)]
        refine ⟨_, rfl, rfl, _, rfl, ?_⟩
        rw [if_pos (by decide)]
        refine ⟨_, rfl, _, rfl, hv, tv, p, p, hd, td, rfl, hD, tD, fun m n hN => (hno ⟨m, n, hN⟩).elim, fun _ => ?_⟩
      rotate_left
      all_goals
        have s0 : Same H H := fun _ _ e => e
      all_goals
        refine ⟨EX1.m, fun a ha => ?_⟩
        walk_at "op"
        have e1 : upd H a (ExK (.ref C1) none a) a = some (ExK (.ref C1) none a) := upd_same
        have s1 : Same H (upd H a (ExK (.ref C1) none a)) := s0.trans (same_new ha)
        generalize upd H a (ExK (.ref C1) none a) = G1 at *
        try dsimp only [List.set]
        refine ⟨_, rfl, rfl, false, by rw [decide_eq_false (fun z => by cases z)], ?_⟩
        rw [if_neg (by decide)]
        refine ⟨_, rfl, by show 11 ≤ sizeLine; decide, fun t ht => ?_⟩
        have st := same_new (o := .tup [V.ref a_Full, V.ref a_NoFloor, V.ref a_NoLog, V.ref a_NoName, V.ref a_NoNumber, V.ref a_NoRow, V.ref a_NoSeen, V.ref a_NoState, V.ref a_NoText, V.ref a_NotFair, V.ref a_Nothing]) ht
        refine .inl (⟨a, t, _, _, false, rfl, st _ _ e1, upd_same, .cons (.own _) (.cons (.own _) (.cons (.own _) (.cons (.own _) (.cons (.own _) (.cons (.own _) (.cons (.own _) (.cons (.own _) (.cons (.own _) (.cons (.own _) (.cons (.own _) (.nil))))))))))), za1, ?_⟩)
        refine ⟨false, rfl, ?_⟩
        rw [if_neg (by decide)]
        replace e1 := st _ _ e1
        replace s1 := s1.trans st
        generalize upd G1 t (.tup [V.ref a_Full, V.ref a_NoFloor, V.ref a_NoLog, V.ref a_NoName, V.ref a_NoNumber, V.ref a_NoRow, V.ref a_NoSeen, V.ref a_NoState, V.ref a_NoText, V.ref a_NotFair, V.ref a_Nothing]) = G2 at *
        clear st ht
        refine ⟨_, rfl, by show 4 ≤ sizeLine; decide, fun t ht => ?_⟩
        have st := same_new (o := .tup [V.ref a_NotLike, V.ref a_NotSure, V.ref a_Taken, V.ref a_TooMany]) ht
        refine .inl (⟨a, t, _, _, false, rfl, st _ _ e1, upd_same, .cons (.own _) (.cons (.own _) (.cons (.own _) (.cons (.own _) (.nil)))), zb1, ?_⟩)
        refine ⟨false, rfl, ?_⟩
        rw [if_neg (by decide)]
        replace e1 := st _ _ e1
        replace s1 := s1.trans st
        generalize upd G2 t (.tup [V.ref a_NotLike, V.ref a_NotSure, V.ref a_Taken, V.ref a_TooMany]) = G3 at *
        clear st ht
        refine ⟨_, rfl, .inl (⟨a, _, _, _, rfl, e1, .own _, z11, ?_⟩)⟩
        refine ⟨_, rfl, .inl (⟨a, _, _, _, rfl, e1, .own _, z12, ?_⟩)⟩
        refine ⟨_, rfl, .inl (⟨a, _, _, _, rfl, e1, .own _, z13, ?_⟩)⟩
        refine ⟨by show 3 ≤ sizeLine; decide, fun L hL => ?_⟩
        have st := same_new (o := .lst [V.bl true, V.bl false, V.bl false]) hL
        have h1 : upd G3 L (.lst [V.bl true, V.bl false, V.bl false]) L = some (.lst [V.bl true, V.bl false, V.bl false]) := upd_same
        replace e1 := st _ _ e1
        have naL : a ≠ L := fun z => by rw [z, h1] at e1; cases e1
        have s3 : Same H G3 := s1
        have hLH := sameFree s3 hL
        replace s1 := s1.trans st
        generalize upd G3 L (.lst [V.bl true, V.bl false, V.bl false]) = G4 at *
        try dsimp only [List.set]
        refine ⟨_, rfl, .inl ⟨rfl, _, SqL.of h1⟩, _, rfl, .inl (⟨a, _, _, _, rfl, e1, .own _, zm1, ?_⟩)⟩
        refine ⟨L, _, _, rfl, rfl, h1, by show 3 < sizeLine; decide, ?_⟩
        have h2 : upd G4 L (.lst ([V.bl true, V.bl false, V.bl false] ++ [V.bl false])) L = some (.lst ([true, false, false, false].map V.bl)) := upd_same
        replace e1 : upd G4 L (.lst ([V.bl true, V.bl false, V.bl false] ++ [V.bl false])) a = _ := (upd_ne naL).trans e1
        have s5 : Same H (upd G4 L (.lst ([V.bl true, V.bl false, V.bl false] ++ [V.bl false]))) := sameOff s1 hLH
        generalize upd G4 L (.lst ([V.bl true, V.bl false, V.bl false] ++ [V.bl false])) = G5 at *
        refine ⟨_, rfl, .inl ⟨rfl, _, SqL.of h2⟩, ?_⟩
        refine ⟨L, [true, false, false, false], true, rfl, rfl, SqL.of h2, rfl, true, by rw [decide_eq_true (show V.int (countIn (.bool true) ([true, false, false, false].map PyData.bool)) = V.int 1 from by decide)], ?_⟩
        rw [if_pos rfl]
        refine ⟨_, rfl, .inl (⟨a, _, _, _, rfl, e1, .ty _, zv1, ?_⟩)⟩
        try dsimp only [List.set]
        refine ⟨_, rfl, _, rfl, ?_⟩
        rw [if_pos (by decide)]
        refine ⟨by show 4 ≤ sizeLine; decide, fun q hq => ?_⟩
        have st := same_new (o := .lst [V.str "NoHouse", V.str "NoStanding", V.str "NoCompany", V.str "NoMeeting"]) hq
        have h3 : upd G5 q (.lst [V.str "NoHouse", V.str "NoStanding", V.str "NoCompany", V.str "NoMeeting"]) q = some (.lst [V.str "NoHouse", V.str "NoStanding", V.str "NoCompany", V.str "NoMeeting"]) := upd_same
        replace h2 := st _ _ h2
        replace s5 := s5.trans st
        generalize upd G5 q (.lst [V.str "NoHouse", V.str "NoStanding", V.str "NoCompany", V.str "NoMeeting"]) = G6 at *
        refine ⟨_, rfl, .inl ⟨rfl, _, SqL.of h2⟩, L, _, .bl true, 0, .bl true, rfl, rfl, SqL.of h2, rfl, rfl, rfl, rfl, fun m z hm hz => ?_, ?_⟩
        focus
          exact absurd hm (Nat.not_lt_zero m)
        exact ⟨q, _, _, _, rfl, rfl, SqL.of h3, rfl, k _ s5⟩
    · focus
        refine ⟨_, rfl, rfl, _, rfl, ?_⟩
        rw [if_neg (by decide)]
        refine ⟨_, rfl, rfl, _, rfl, ?_⟩
        rw [if_neg (by decide)]
        refine ⟨_, rfl, rfl, _, rfl, ?_⟩
        rw [if_neg (by decide)]
        refine ⟨_, rfl, rfl, _, rfl, ?_⟩
        rw [if_neg (by decide)]
        refine ⟨_, rfl, rfl, _, rfl, ?_⟩
        rw [if_neg (by decide)]
        refine ⟨_, rfl, rfl, _, rfl, ?_⟩
        rw [if_neg (by decide)]
        refine ⟨_, rfl, rfl, _, rfl, ?_⟩
        rw [if_pos (by decide)]
        refine ⟨_, rfl, _, rfl, hv, tv, p, p, hd, td, u, rfl, hu, hD, tD, fun m' n' hN' => ⟨fun c v H' e hc hx _ _ => (hno (by obtain ⟨rfl, rfl⟩ := houseN_inj hN hN'; rw [e]; exact are_row hc hx)).elim, fun _ G0 s0 => ?_⟩, fun hno' => (hno' ⟨m, n, hN⟩).elim⟩
      all_goals
        refine ⟨EX3.m, fun a ha => ?_⟩
        walk_at "op"
        have e1 : upd G0 a (ExK (.ref C3) none a) a = some (ExK (.ref C3) none a) := upd_same
        have s1 : Same H (upd G0 a (ExK (.ref C3) none a)) := s0.trans (same_new ha)
        generalize upd G0 a (ExK (.ref C3) none a) = G1 at *
        try dsimp only [List.set]
        refine ⟨_, rfl, rfl, false, by rw [decide_eq_false (fun z => by cases z)], ?_⟩
        rw [if_neg (by decide)]
        refine ⟨_, rfl, by show 11 ≤ sizeLine; decide, fun t ht => ?_⟩
        have st := same_new (o := .tup [V.ref a_Full, V.ref a_NoFloor, V.ref a_NoLog, V.ref a_NoName, V.ref a_NoNumber, V.ref a_NoRow, V.ref a_NoSeen, V.ref a_NoState, V.ref a_NoText, V.ref a_NotFair, V.ref a_Nothing]) ht
        refine .inr (.inr (⟨a, t, _, _, false, rfl, st _ _ e1, upd_same, .cons (.own _) (.cons (.own _) (.cons (.own _) (.cons (.own _) (.cons (.own _) (.cons (.own _) (.cons (.own _) (.cons (.own _) (.cons (.own _) (.cons (.own _) (.cons (.own _) (.nil))))))))))), za3, ?_⟩))
        refine ⟨false, rfl, ?_⟩
        rw [if_neg (by decide)]
        replace e1 := st _ _ e1
        replace s1 := s1.trans st
        generalize upd G1 t (.tup [V.ref a_Full, V.ref a_NoFloor, V.ref a_NoLog, V.ref a_NoName, V.ref a_NoNumber, V.ref a_NoRow, V.ref a_NoSeen, V.ref a_NoState, V.ref a_NoText, V.ref a_NotFair, V.ref a_Nothing]) = G2 at *
        clear st ht
        refine ⟨_, rfl, by show 4 ≤ sizeLine; decide, fun t ht => ?_⟩
        have st := same_new (o := .tup [V.ref a_NotLike, V.ref a_NotSure, V.ref a_Taken, V.ref a_TooMany]) ht
        refine .inr (.inr (⟨a, t, _, _, false, rfl, st _ _ e1, upd_same, .cons (.own _) (.cons (.own _) (.cons (.own _) (.cons (.own _) (.nil)))), zb3, ?_⟩))
        refine ⟨false, rfl, ?_⟩
        rw [if_neg (by decide)]
        replace e1 := st _ _ e1
        replace s1 := s1.trans st
        generalize upd G2 t (.tup [V.ref a_NotLike, V.ref a_NotSure, V.ref a_Taken, V.ref a_TooMany]) = G3 at *
        clear st ht
        refine ⟨_, rfl, .inr (.inr (⟨a, _, _, _, rfl, e1, .own _, z31, ?_⟩))⟩
        refine ⟨_, rfl, .inr (.inr (⟨a, _, _, _, rfl, e1, .own _, z32, ?_⟩))⟩
        refine ⟨_, rfl, .inr (.inr (⟨a, _, _, _, rfl, e1, .own _, z33, ?_⟩))⟩
        refine ⟨by show 3 ≤ sizeLine; decide, fun L hL => ?_⟩
        have st := same_new (o := .lst [V.bl false, V.bl false, V.bl true]) hL
        have h1 : upd G3 L (.lst [V.bl false, V.bl false, V.bl true]) L = some (.lst [V.bl false, V.bl false, V.bl true]) := upd_same
        replace e1 := st _ _ e1
        have naL : a ≠ L := fun z => by rw [z, h1] at e1; cases e1
        have s3 : Same H G3 := s1
        have hLH := sameFree s3 hL
        replace s1 := s1.trans st
        generalize upd G3 L (.lst [V.bl false, V.bl false, V.bl true]) = G4 at *
        try dsimp only [List.set]
        refine ⟨_, rfl, .inl ⟨rfl, _, SqL.of h1⟩, _, rfl, .inr (.inr (⟨a, _, _, _, rfl, e1, .own _, zm3, ?_⟩))⟩
        refine ⟨L, _, _, rfl, rfl, h1, by show 3 < sizeLine; decide, ?_⟩
        have h2 : upd G4 L (.lst ([V.bl false, V.bl false, V.bl true] ++ [V.bl false])) L = some (.lst ([false, false, true, false].map V.bl)) := upd_same
        replace e1 : upd G4 L (.lst ([V.bl false, V.bl false, V.bl true] ++ [V.bl false])) a = _ := (upd_ne naL).trans e1
        have s5 : Same H (upd G4 L (.lst ([V.bl false, V.bl false, V.bl true] ++ [V.bl false]))) := sameOff s1 hLH
        generalize upd G4 L (.lst ([V.bl false, V.bl false, V.bl true] ++ [V.bl false])) = G5 at *
        refine ⟨_, rfl, .inl ⟨rfl, _, SqL.of h2⟩, ?_⟩
        refine ⟨L, [false, false, true, false], true, rfl, rfl, SqL.of h2, rfl, true, by rw [decide_eq_true (show V.int (countIn (.bool true) ([false, false, true, false].map PyData.bool)) = V.int 1 from by decide)], ?_⟩
        rw [if_pos rfl]
        refine ⟨_, rfl, .inr (.inr (⟨a, _, _, _, rfl, e1, .ty _, zv3, ?_⟩))⟩
        try dsimp only [List.set]
        refine ⟨_, rfl, _, rfl, ?_⟩
        rw [if_pos (by decide)]
        refine ⟨by show 4 ≤ sizeLine; decide, fun q hq => ?_⟩
        have st := same_new (o := .lst [V.str "NoHouse", V.str "NoStanding", V.str "NoCompany", V.str "NoMeeting"]) hq
        have h3 : upd G5 q (.lst [V.str "NoHouse", V.str "NoStanding", V.str "NoCompany", V.str "NoMeeting"]) q = some (.lst [V.str "NoHouse", V.str "NoStanding", V.str "NoCompany", V.str "NoMeeting"]) := upd_same
        replace h2 := st _ _ h2
        replace s5 := s5.trans st
        generalize upd G5 q (.lst [V.str "NoHouse", V.str "NoStanding", V.str "NoCompany", V.str "NoMeeting"]) = G6 at *
        refine ⟨_, rfl, .inl ⟨rfl, _, SqL.of h2⟩, L, _, .bl true, 2, .bl true, rfl, rfl, SqL.of h2, rfl, rfl, rfl, rfl, fun m z hm hz => ?_, ?_⟩
        focus
          match m, hm with
          | 0, _ => cases hz; rfl
          | 1, _ => cases hz; rfl
        exact ⟨q, _, _, _, rfl, rfl, SqL.of h3, rfl, k _ s5⟩

end
end Fm
end FKI
section FFmZipK
set_option Elab.async false
set_option linter.all false
set_option maxRecDepth 100000
set_option maxHeartbeats 4000000
namespace Fm
open PySem PySem.Spec PyProof.Rows L2
theorem pi_zipAK {X : Cx} {K : PySem.W.Frag} {e e2 : Expr} {ta : TA} {p pos tpos : Pos} {elts : List Expr} {kk : Nat} (eK : X.K = K) (hg : Gl X "zip") (hm : X.mg "zip" = none) (ha : PA X [e, e2] ta)
    (hs : starEach [e, e2] X.env = (false, eval e X.env) :: starEach [e2] X.env := by rfl) (hpl : (backTo pos (starEach [e2] X.env)).any (·.1) = false := by rfl) :
    PI X (.Tuple elts kk tpos) (.Call (.Name "zip" p) [e, e2] [] pos) (RZ.iZipA K ta) := by
  subst eK
  exact RZ.pi_zipA hg hm ha hs hpl
end Fm
end FFmZipK
section FLW2
set_option Elab.async false
set_option linter.all false
set_option maxRecDepth 100000
set_option maxHeartbeats 4000000
local macro_rules | `(tactic| walk_at "ne") => `(tactic| first | assumption | (apply Ne.symm; assumption) | exact L2.ne_of_none (by assumption) (by assumption) | exact Ne.symm (L2.ne_of_none (by assumption) (by assumption)))
local macro_rules | `(tactic| walk_at "hl") => `(tactic| first | assumption | exact L2.upd_same | (refine Eq.trans (L2.upd_ne (by walk_at "ne")) ?_; walk_at "hl"))
local macro_rules | `(tactic| walk_at "sd") => `(tactic| first | (with_reducible show (_ : Int) < _; omega) | (with_reducible show (_ : Int) ≤ _; omega) | assumption | decide | exact ⟨by assumption, by assumption⟩ | exact ⟨by decide, by decide⟩ | exact Or.inr ⟨by decide, by decide⟩ | exact Or.inl ⟨by omega, by omega⟩ | rfl)
local macro_rules | `(tactic| walk_at "st1") => `(tactic| first
  | refine ⟨_, rfl, ?_⟩
  | refine ⟨_, _, rfl, rfl, ?_⟩
  | refine ⟨_, _, rfl, ?_⟩
  | (refine ⟨_, _, _, _, rfl, rfl, L2.SqL.of (by walk_at "hl"), rfl, ?_⟩)
  | (refine ⟨_, _, _, _, rfl, rfl, L2.SqT.of (by walk_at "hl"), rfl, ?_⟩)
  | (refine ⟨_, _, _, _, rfl, rfl, (by walk_at "hl"), rfl, ?_⟩)
  | (refine And.intro (by walk_at "sd") ?_)
  )
local macro_rules | `(tactic| walk_at "st") => `(tactic| repeat walk_at "st1")
local macro_rules | `(tactic| walk_at "op") => `(tactic| try dsimp only [L2.tSeq, L2.tAsg, L2.tOp, L2.tVar, L2.tC, L2.gSub, L2.rI, L2.rI0, L2.rIxL, L2.rIxT, L2.rSetL, L2.tIfS, L2.tTest, L2.tRet, L2.gName, L2.tNext, L2.tAnd, L2.tOr, L2.tNot, L2.tAndV, L2.tOrV, L2.tNotV, L2.tB, L2.tCB, L2.tCons, L2.tNil, L2.tCall, L2.tTup, L2.tLst, L2.tChain, L2.tUn, L2.tPar, L2.tDrop, L2.tIf, L2.tBM, L2.tBM0, L2.rAppend, L2.rCat, L2.rIsi, L2.rIsiT, L2.gTup, L2.gCons, L2.gNil, Fm.tFor_eq, Fm.tLc_eq, Fm.tLc2_eq, L2.iTup, L2.iList, L2.iRng1, L2.iRng2, L2.tSl, L2.tPart, L2.tNoPart, L2.rSlL, L2.rEq, L2.rNe, L2.rU, L2.rEqD, L2.rNeD, Fm.tRevT, Fm.rLenS, Fm.rTupOf, Fm.rLstOf, L2.tDNewK, L2.tCallS, L2.WE, Fm.wKeep, Fm.rIsK, Fm.rIsKT, List.cons_append, List.nil_append, L2.tYes])
namespace Fm
open PySem PySem.Spec PyProof.Rows L2
abbrev s_law : Stmt := top 66
abbrev N_law : List Str := ["script", "cell", "bag", "house", "standing", "thing", "kept", "due", "way", "one", "other", "a", "b", "mine", "its", "m", "company", "odd"]
theorem sc_law : FnScope N_law ["script"] (defScope s_law) := ⟨rfl, rfl, rfl, by decide +kernel, rfl, by decide +kernel, by decide +kernel⟩
section
variable {P : Program} {w : World} {K : PySem.W.Frag} {mg : Str → Option Value} {base : Heap}
/-! ### the law -/
theorem reps_dp {K : PySem.W.Frag} {H : Hp} (x : Str) : ∀ n, DpAll K H (List.replicate n (V.str x)) (List.replicate n (PyData.str x))
  | 0 => .nil
  | n + 1 => .cons (.str x) (reps_dp x n)
theorem good_reps {x : Str} (h : PyData.strOk x = true) (n : Nat) : Good 1 (.list (List.replicate n (.str x))) := Good.lst (k := 0) fun d hd => by
  rw [List.eq_of_mem_replicate hd]
  exact ⟨by simp only [PyData.canLay0, h], by simp only [PyData.depth]; omega, by simp only [PyData.hasDict]⟩
/-- a list of one word against so many of that word -/
theorem same_words {K : PySem.W.Frag} {G : Hp} {D' : Addr} {x : Str} {A B : Hp → Prop} (hx : PyData.strOk x = true) (hD : G D' = some (.lst (List.replicate 8 (V.str x)))) (q : ∀ H2, Same G H2 → B H2) :
    [V.str x].length ≤ sizeLine ∧ ∀ p1 : Addr, G p1 = none → rRep (.ref p1) (.int 8) (upd G p1 (.lst [V.str x])) (fun y H2 => ∃ d e, Dp K H2 (.ref D') d ∧ Dp K H2 y e ∧ SeqAt.shaped d = true ∧ SeqAt.shaped e = true ∧ ∃ k, V.bl (!d.eqv e) = V.bl k ∧ if k = true then A H2 else B H2) := by
  refine ⟨by show 1 ≤ sizeLine; decide, fun p1 h1 => ⟨p1, 8, _, rfl, rfl, upd_same, by decide, by decide, by show 1 * 8 ≤ sizeLine; decide, fun q1 hq1 => ?_⟩⟩
  have s1 := (same_new (o := .lst [V.str x]) h1).trans (same_new (o := .lst (List.replicate (8 : Int).toNat [V.str x]).flatten) hq1)
  have hg := good_reps hx 8
  refine ⟨.list (List.replicate 8 (.str x)), .list (List.replicate 8 (.str x)), .lst (SqL.of (s1 _ _ hD)) (reps_dp x 8), .lst (SqL.of upd_same) (reps_dp x 8), hg.shaped (by decide), hg.shaped (by decide), false, by rw [SeqAt.eqv_refl _ hg.lay]; rfl, ?_⟩
  rw [if_neg (by decide)]
  exact q _ s1
theorem add_small {m : Nat} {R1 R2 : List (List Int)} (hm : m ≤ 6) (h1 : ∀ r ∈ R1, Cnts m r) (h2 : ∀ r ∈ R2, Cnts m r) : ∀ r ∈ addRows R1 R2, r.length ≤ 6 ∧ ∀ c ∈ r, c.natAbs < 10 ^ 40 := fun r hr => by
  obtain ⟨i, hi⟩ := List.getElem?_of_mem hr
  unfold addRows at hi
  rw [List.getElem?_zipWith] at hi
  cases e1 : R1[i]? with
  | none => rw [e1] at hi; cases hi
  | some r1 =>
    cases e2 : R2[i]? with
    | none => rw [e1, e2] at hi; cases hi
    | some r2 =>
      rw [e1, e2] at hi
      cases hi
      have k1 := h1 r1 (List.mem_of_getElem? e1)
      have k2 := h2 r2 (List.mem_of_getElem? e2)
      refine ⟨by rw [List.length_zipWith, k1.1, k2.1]; omega, fun c hc => ?_⟩
      obtain ⟨j, hj⟩ := List.getElem?_of_mem hc
      rw [List.getElem?_zipWith] at hj
      cases f1 : r1[j]? with
      | none => rw [f1] at hj; cases hj
      | some c1 =>
        cases f2 : r2[j]? with
        | none => rw [f1, f2] at hj; cases hj
        | some c2 =>
          rw [f1, f2] at hj
          cases hj
          have q1 := k1.2 c1 (List.mem_of_getElem? f1)
          have q2 := k2.2 c2 (List.mem_of_getElem? f2)
          exact Nat.lt_of_le_of_lt (show (c1 + c2).natAbs ≤ 2000000000000000000 by omega) (by decide)
theorem ints_inj : ∀ {a b : List Int}, a.map PyData.int = b.map PyData.int → a = b
  | [], [], _ => rfl
  | [], _ :: _, h => by cases h
  | _ :: _, [], h => by cases h
  | x :: a, y :: b, h => by
    rw [List.map_cons, List.map_cons] at h
    injection h with h1 h2
    injection h1 with h1
    rw [h1, ints_inj h2]
theorem rowD_inj {a b : List Int} (h : rowD a = rowD b) : a = b := by
  injection h with h
  exact ints_inj h
theorem not_len {mv : V} {m : Nat} {ds : List PyData} (h : ds.length ≠ m) : ¬ AreD mv m (.tuple ds) := fun ⟨es, e, hl, _⟩ => by
  cases e
  omega
theorem not_mem {mv : V} {m : Nat} {ds : List PyData} {d : PyData} (hd : d ∈ ds) (h : ¬ UpTo mv d) : ¬ AreD mv m (.tuple ds) := fun ⟨es, e, _, hu⟩ => by
  cases e
  exact h (hu d hd)
/-- a standing that the law draws -/
def Std (m n : Nat) (G : Hp) (p : Addr) (x : V) : Prop := ∃ (rows : List (List Int)) (out : Int), Dat G p x (stD rows out) ∧ rows.length = n ∧ (∀ r ∈ rows, Cnts m r) ∧ 0 ≤ out ∧ out ≤ 1000000000000000000
theorem Std.same {m n : Nat} {G G' : Hp} {p : Addr} {x : V} (h : Std m n G p x) (s : Same G G') : Std m n G' p x := by
  obtain ⟨rows, out, h1, h2⟩ := h
  exact ⟨rows, out, h1.same s, h2⟩
theorem Std.ext {m n : Nat} {G G' : Hp} {p : Addr} {x : V} (h : Std m n G p x) (s : Ext p G G') : Std m n G' p x := by
  obtain ⟨rows, out, h1, h2⟩ := h
  exact ⟨rows, out, h1.ext s, h2⟩
theorem std_th {m n : Nat} {rows : List (List Int)} {out : Int} (hm : m ≤ 6) (hn : n ≤ 4) (hl : rows.length = n) (hc : ∀ r ∈ rows, Cnts m r) (h0 : 0 ≤ out) (h1 : out ≤ 1000000000000000000) : Th (stD rows out) :=
  th_tup (fun d hd => by
    rcases List.mem_append.mp hd with hd | hd
    · obtain ⟨c, hcm, rfl⟩ := List.mem_map.mp hd
      exact (el_row hm (hc c hcm)).1
    · rw [List.mem_singleton.mp hd]
      exact (odd_int (by unfold M1; omega) (by omega)).2.1) (by rw [List.length_append, List.length_map, hl]; show n + 1 ≤ 12; omega)
theorem std_ok {m : Nat} {rows : List (List Int)} {out : Int} (hc : ∀ r ∈ rows, Cnts m r) (h0 : 0 ≤ out) : StOk m rows out := ⟨fun r hr => (hc r hr).1, fun r hr c hcm => ((hc r hr).2 c hcm).1, h0⟩
theorem sum_le_tot : ∀ {rows : List (List Int)}, (∀ c ∈ rows, ∀ x ∈ c, 0 ≤ x) → ∀ c ∈ rows, c.sum ≤ (rows.map List.sum).sum := fun {rows} h c hc => le_sum (fun x hx => by
  obtain ⟨d, hd, rfl⟩ := List.mem_map.mp hx
  exact sum_pos (h d hd)) (List.mem_map_of_mem hc)
def spLaw (K : PySem.W.Frag) : Sp := fun vs H Q _ => ∃ (a : Addr) (ns : List Int), vs = [.ref a] ∧ ns.length + 1 ≤ sizeLine ∧ SqL K H a (ns.map V.int) ∧ ∀ H', Q (.bl true) H'
theorem ok_law {f : Addr} {fd : FuncData} (F : Fun K "law" "law" s_law f fd) (T : Nms mg) {C1 C3 : Addr} (c_law_bag : CallOk P w K mg base CX0 1 "_law_bag" ["cell"] spBag) (c_law_pick : CallOk P w K mg base CX0 1 "_law_pick" ["bag", "many"] spPick) (c_law_house : CallOk P w K mg base CX0 3 "_law_house" ["bag"] spMkHouse)
    (c_law_standing : CallOk P w K mg base CX0 2 "_law_standing" ["bag", "house", "many"] spStanding) (c_law_great : CallOk P w K mg base CX0 3 "_law_great" ["bag", "house"] spGreat) (c_law_others : CallOk P w K mg base CX0 2 "_law_others" ["bag", "house", "standing"] spOthers) (c_law_due : CallOk P w K mg base CX0 2 "_law_due" ["house", "thing"] spDueB)
    (c_law_counts : CallOk P w K mg base CX0 2 "_law_counts" ["bag", "m"] spCounts) (c_law_kind : CallOk P w K mg base CX0 9 "_law_kind" ["way", "house", "thing"] spKind3) (c_is_standing : CallOk P w K mg base (L2.CX P w) 7 "is_standing" ["house", "thing"] (spIsSt C1)) (c_together : CallOk P w K mg base (L2.CX P w) 7 "together" ["house", "one", "other"] spTogether)
    (c_standing_of : CallOk P w K mg base (L2.CX P w) 7 "standing_of" ["house", "company"] (spStOf C1 C3)) :
    RunG P w K mg base 10 f fd ["script"] (spLaw K) := by
    refine run_g F sc_law fun cdv A outer s H vs Q hg hr h => ?_
    obtain ⟨a, ns, rfl, hn, hS, k⟩ := h
    have nd := sc_law.nd
    refine ⟨_, (pss_cons (ps_for PassesOwn.never rfl (pi_list (pe_op op_cat (pe_slice (r := rSlL K) sl_list (pv 0) po_none (po_some pe_int)) (pe_lst (pa_cons pe_int pa_nil)))) (pg_name (i := 1) nd rfl (Or.inl rfl)) (pss_cons (ps_set (i := 2) nd rfl (Or.inr rfl) (pe_cc c_law_bag (hr.mono (by omega)) (pa_cons (pv 1) pa_nil)))
      (pss_cons (ps_set (i := 3) nd rfl (Or.inr rfl) (pe_cc c_law_house (hr.mono (by omega)) (pa_cons (pv 2) pa_nil)))
      (pss_cons (ps_for PassesOwn.never rfl (pi_list (pe_lst (pa_cons (pe_cc c_law_standing (hr.mono (by omega)) (pa_cons (pv 2) (pa_cons (pv 3) (pa_cons pe_int pa_nil)))) (pa_cons (pe_cc c_law_great (hr.mono (by omega)) (pa_cons (pv 2) (pa_cons (pv 3) pa_nil))) pa_nil)))) (pg_name (i := 4) nd rfl (Or.inr rfl)) (pss_cons (ps_for PassesOwn.never rfl (pi_list (pe_op op_cat (pe_lst (pa_cons (pv 4) pa_nil)) (pe_cc c_law_others (hr.mono (by omega)) (pa_cons (pv 2) (pa_cons (pv 3) (pa_cons (pv 4) pa_nil)))))) (pg_name (i := 5) nd rfl (Or.inr rfl)) (pss_cons (ps_set (i := 6) nd rfl (Or.inl rfl) (pe_callB (call_repr hg hr.units) (by rfl) T.n_repr (by decide +kernel) (pa_cons (pv 5) pa_nil)))
      (pss_cons (ps_set (i := 7) nd rfl (Or.inl rfl) (pe_cc c_law_due (hr.mono (by omega)) (pa_cons (pv 3) (pa_cons (pv 5) pa_nil))))
      (pss_cons (ps_if (PW.pt (pw_or (pt_cmpR op_ne (pe_callB (call_repr hg hr.units) (by rfl) T.n_repr (by decide +kernel) (pa_cons (pe_cx c_is_standing (hr.mono (by omega)) (pa_cons (pv 3) (pa_cons (pv 5) pa_nil))) pa_nil)) (pe_callB (call_repr hg hr.units) (by rfl) T.n_repr (by decide +kernel) (pa_cons (pv 7) pa_nil)) (nomark _)) (pw_or1 (pt_cmpR op_ne (pe_callB (call_repr hg hr.units) (by rfl) T.n_repr (by decide +kernel) (pa_cons (pv 5) pa_nil)) (pv 6) (nomark _))))) (pss_one (ps_ret pe_bl)) pss_nil)
      (pss_one (ps_if (PW.pt (pw_and (pt_not (pt_val (pv 7))) (pw_and1 (pt_cmpR op_notin_str (pe_callTy call_str_int (by rfl) T.n_str (by decide +kernel) (pa_cons (pe_op op_add (pe_op op_pow pe_int pe_int) pe_int) pa_nil)) (pe_callB (call_repr hg hr.units) (by rfl) T.n_repr (by decide +kernel) (pa_cons (pv 5) pa_nil)) (by rfl))))) (pss_one (ps_if (pt_cmpR (r := rNeD K) (op_neD hr.units) (pe_lc (own := [("way", 8)]) (g := (gName 8)) (tt := tYes) (by rfl) nd (pi_tup (pe_tup (pa_cons pe_int (pa_cons pe_int (pa_cons pe_int (pa_cons pe_int (pa_cons pe_int (pa_cons pe_int (pa_cons pe_int (pa_cons pe_int pa_nil)))))))))) (blkOk_by (own := [("way", 8)]) (N := N_law) (sc := defScope s_law) (by decide +kernel)) (fun _ _ _ _ _ => (pg_name (i := 8) nd rfl (Or.inl rfl))) (fun _ _ _ _ _ => pts_nil) (fun _ _ _ _ _ => (pe_cc c_law_kind (hr.mono (by omega)) (pa_cons (pv 8) (pa_cons (pv 3) (pa_cons (pv 5) pa_nil)))))) (pe_op op_rep (pe_lst (pa_cons pe_str pa_nil)) pe_int) (nomark _)) (pss_one (ps_ret pe_bl)) pss_nil)) pss_nil))))))
      (pss_one (ps_if (pt_cmpR (r := rNeD K) (op_neD hr.units) (pe_lc (own := [("way", 8)]) (g := (gName 8)) (tt := tYes) (by rfl) nd (pi_range1 rfl T.n_range (pa_cons pe_int pa_nil)) (blkOk_by (own := [("way", 8)]) (N := N_law) (sc := defScope s_law) (by decide +kernel)) (fun _ _ _ _ _ => (pg_name (i := 8) nd rfl (Or.inl rfl))) (fun _ _ _ _ _ => pts_nil) (fun _ _ _ _ _ => (pe_cc c_law_kind (hr.mono (by omega)) (pa_cons (pv 8) (pa_cons (pe_ix (r := rIxL K) ix_list (pe_lst (pa_cons pe_non (pa_cons (pe_tup pa_nil) (pa_cons pe_int pa_nil)))) (pe_cc c_law_pick (hr.mono (by omega)) (pa_cons (pv 2) (pa_cons pe_int pa_nil))) (fun _ _ => rfl)) (pa_cons (pv 4) pa_nil)))))) (pe_op op_rep (pe_lst (pa_cons pe_str pa_nil)) pe_int) (nomark _)) (pss_one (ps_ret pe_bl)) pss_nil))))
      (pss_cons (ps_par (i := 9) (j := 10) (by rfl) nd rfl rfl (by decide) rfl rfl (pa_cons (pe_cc c_law_great (hr.mono (by omega)) (pa_cons (pv 2) (pa_cons (pv 3) pa_nil))) (pa_cons (pe_cc c_law_great (hr.mono (by omega)) (pa_cons (pv 2) (pa_cons (pv 3) pa_nil))) pa_nil)) (by rfl))
      (pss_cons (ps_setLc (i := 7) (own := [("mine", 13), ("its", 14)]) (g := (gTup K 2 (gCons (gName 13) (gCons (gName 14) gNil)))) (tt := tYes) (by rfl) nd rfl rfl (sw_true rfl rfl rfl (by decide +kernel)) (RZ.pi_zipA (by rfl) T.n_zip (pa_cons (pe_slice (r := rSlA K) sl_tupA (pv 9) po_none (po_some (pe_un un_neg pe_int))) (pa_cons (pe_slice (r := rSlA K) sl_tupA (pv 10) po_none (po_some (pe_un un_neg pe_int))) pa_nil))) (blkOk_by (own := [("mine", 13), ("its", 14)]) (N := N_law) (sc := defScope s_law) (by decide +kernel)) (fun _ _ _ _ _ => (pg_tup rfl (pgs_cons (pg_name (i := 13) nd rfl (Or.inl rfl)) (pgs_cons (pg_name (i := 14) nd rfl (Or.inl rfl)) pgs_nil)))) (fun _ _ _ _ _ => pts_nil) (fun _ _ _ _ _ => (pe_callTy (r := rTupOf K) call_tupOf (by rfl) T.n_tuple (by decide +kernel) (pa_cons (pe_lc (own := [("a", 11), ("b", 12)]) (g := (gTup K 2 (gCons (gName 11) (gCons (gName 12) gNil)))) (tt := tYes) (by rfl) nd (pi_zipAK (K := K) rfl (by rfl) T.n_zip (pa_cons (pv 13) (pa_cons (pv 14) pa_nil))) (blkOk_by (own := [("a", 11), ("b", 12)]) (N := N_law) (sc := relS _ (defScope s_law)) (by decide +kernel)) (fun _ _ _ _ _ => (pg_tup rfl (pgs_cons (pg_name (i := 11) nd rfl (Or.inl rfl)) (pgs_cons (pg_name (i := 12) nd rfl (Or.inl rfl)) pgs_nil)))) (fun _ _ _ _ _ => pts_nil) (fun _ _ _ _ _ => (pe_op op_add (pv 11) (pv 12)))) pa_nil))))
      (pss_cons (ps_if (pt_cmpR op_ne (pe_callB (call_repr hg hr.units) (by rfl) T.n_repr (by decide +kernel) (pa_cons (pe_cx c_together (hr.mono (by omega)) (pa_cons (pv 3) (pa_cons (pv 9) (pa_cons (pv 10) pa_nil)))) pa_nil)) (pe_callB (call_repr hg hr.units) (by rfl) T.n_repr (by decide +kernel) (pa_cons (pe_op (r := rCatA K) op_catA (pe_callTy (r := rTupOf K) call_tupOf (by rfl) T.n_tuple (by decide +kernel) (pa_cons (pv 7) pa_nil)) (pe_tup (pa_cons (pe_op op_add (pe_ix (r := rIxT K) ix_tup (pv 9) (pe_un un_neg pe_int) (fun _ _ => rfl)) (pe_ix (r := rIxT K) ix_tup (pv 10) (pe_un un_neg pe_int) (fun _ _ => rfl))) pa_nil))) pa_nil)) (nomark _)) (pss_one (ps_ret pe_bl)) pss_nil)
      (pss_cons (ps_set (i := 15) nd rfl (Or.inl rfl) (pe_callB (r := rLenS K) call_lenS (by rfl) T.n_len (by decide +kernel) (pa_cons (pe_ix (r := rIxT K) ix_tup (pe_ix (r := rIxT K) ix_tup (pv 3) pe_int (fun _ _ => rfl)) pe_int (fun _ _ => rfl)) pa_nil)))
      (pss_cons (ps_set (i := 16) nd rfl (Or.inl rfl) (pe_cc c_law_counts (hr.mono (by omega)) (pa_cons (pv 2) (pa_cons (pv 15) pa_nil))))
      (pss_cons (ps_if (pt_cmpR op_ne (pe_callB (call_repr hg hr.units) (by rfl) T.n_repr (by decide +kernel) (pa_cons (pe_cx c_standing_of (hr.mono (by omega)) (pa_cons (pv 3) (pa_cons (pv 16) pa_nil))) pa_nil)) (pe_callB (call_repr hg hr.units) (by rfl) T.n_repr (by decide +kernel) (pa_cons (pe_op (r := rCatA K) op_catA (pe_op (r := rCatA K) op_catA (pe_tup (pa_cons (pv 16) pa_nil)) (pe_op (r := rTimesZ K) op_timesZ (pe_tup (pa_cons (pe_op (r := rTimesZ K) op_timesZ (pe_tup (pa_cons pe_int pa_nil)) (pv 15)) pa_nil)) (pe_op op_sub (pe_callB (r := rLenS K) call_lenS (by rfl) T.n_len (by decide +kernel) (pa_cons (pv 3) pa_nil)) pe_int))) (pe_tup (pa_cons pe_int pa_nil))) pa_nil)) (nomark _)) (pss_one (ps_ret pe_bl)) pss_nil)
      (pss_cons (ps_set (i := 17) nd rfl (Or.inl rfl) (pe_lst (pa_cons (pe_op (r := rCatA K) op_catA (pv 16) (pe_tup (pa_cons pe_int pa_nil))) (pa_cons (pe_slice (r := rSlA K) sl_tupA (pv 16) (po_some pe_int) po_none) (pa_cons (pe_callTy (r := rLstOf K) call_lstOf (by rfl) T.n_list (by decide +kernel) (pa_cons (pv 16) pa_nil)) (pa_cons pe_non (pa_cons (pe_op (r := rCatA K) op_catA (pe_tup (pa_cons (pe_un un_neg pe_int) pa_nil)) (pe_slice (r := rSlA K) sl_tupA (pv 16) (po_some pe_int) po_none)) (pa_cons (pe_op (r := rCatA K) op_catA (pe_tup (pa_cons pe_bl pa_nil)) (pe_slice (r := rSlA K) sl_tupA (pv 16) (po_some pe_int) po_none)) pa_nil))))))))
      (pss_one (ps_for PassesOwn.never rfl (pi_list (pe_op op_cat (pv 17) (pe_lst (pa_cons (pe_op (r := rCatA K) op_catA (pe_tup (pa_cons (pe_op op_add (pe_op op_pow pe_int pe_int) pe_int) pa_nil)) (pe_slice (r := rSlA K) sl_tupA (pv 16) (po_some pe_int) po_none)) pa_nil)))) (pg_name (i := 5) nd rfl (Or.inr rfl)) (pss_one (ps_if (pt_cmpR op_ne (pe_cc c_law_kind (hr.mono (by omega)) (pa_cons pe_int (pa_cons (pv 3) (pa_cons (pv 5) pa_nil)))) pe_str (nomark _)) (pss_one (ps_ret pe_bl)) pss_nil)))))))))))))))
      (pss_one (ps_ret pe_bl))), ?_⟩
    walk_at "op"
    have e18 : (10 : Int) ^ (18 : Int).toNat = 1000000000000000000 := by decide
    refine ⟨_, rfl, _, rfl, a, _, rfl, hS, fun S1 h1 => ?_⟩
    refine ⟨by show 1 ≤ sizeLine; decide, fun S2 h2 => ?_⟩
    have S12 : S1 ≠ S2 := ne_of_none upd_same h2
    have lz : (cutV (ns.map V.int) none (some 20)).length + [V.int 0].length ≤ sizeLine := by
      unfold cutV
      rw [List.length_take, List.length_drop, List.length_map]
      show _ + 1 ≤ _
      omega
    have cells : ∀ x ∈ cutV (ns.map V.int) none (some 20) ++ [V.int 0], ∃ c, x = V.int c := fun x hx => by
      rcases List.mem_append.mp hx with hx | hx
      · obtain ⟨c, _, rfl⟩ := List.mem_map.mp (List.mem_of_mem_drop (List.mem_of_mem_take hx))
        exact ⟨c, rfl⟩
      · exact ⟨0, List.mem_singleton.mp hx⟩
    refine ⟨_, _, _, _, rfl, rfl, by rw [upd_ne S12]; exact upd_same, upd_same, lz, fun S h3 => ?_⟩
    generalize cutV (ns.map V.int) none (some 20) ++ [V.int 0] = zs at cells ⊢
    have hS3 : upd (upd (upd H S1 (.lst (cutV (ns.map V.int) none (some 20)))) S2 (.lst [.int 0])) S (.lst zs) S = some (.lst zs) := upd_same
    generalize upd (upd (upd H S1 (.lst (cutV (ns.map V.int) none (some 20)))) S2 (.lst [.int 0])) S (.lst zs) = H3 at hS3 ⊢
    refine ⟨S, rfl, ⟨_, SqL.of hS3⟩, ?_⟩
    clear h1 h2 h3 lz
    refine fL (fun i σ H4 => H4 S = some (.lst zs) ∧ ∃ u1 u2 u3 u4 u5 u6 u7 u8 u9 u10 u11 u12 u13 u14 u15 u16 u17, σ = [some (.ref a), u1, u2, u3, u4, u5, u6, u7, u8, u9, u10, u11, u12, u13, u14, u15, u16, u17]) ⟨hS3, _, _, _, _, _, _, _, _, _, _, _, _, _, _, _, _, _, rfl⟩ (fun i σ H4 _ hp => SqL.of hp.1) ?_ ?_
    rotate_left
    · rintro σ G ⟨_, u1, u2, u3, u4, u5, u6, u7, u8, u9, u10, u11, u12, u13, u14, u15, u16, u17, rfl⟩
      walk_at "op"
      exact k G
    rintro i x σ H4 hi ⟨hS4, u1, u2, u3, u4, u5, u6, u7, u8, u9, u10, u11, u12, u13, u14, u15, u16, u17, rfl⟩
    obtain ⟨c, rfl⟩ := cells x (List.mem_of_getElem? hi)
    clear hi
    walk_at "op"
    try dsimp only [List.set]
    refine ⟨_, rfl, c, rfl, fun p H5 hp hB5 s5 => ?_⟩
    have Sp0 : S ≠ p := ne_of_none hS4 hp
    have hS5 := s5 _ _ hS4
    try dsimp only [List.set]
    refine ⟨_, rfl, p, rfl, hB5, fun hv hd m n H6 hB6 x6 hD6 hN => ?_⟩
    obtain ⟨fs, rfl, hfl, hn1, hn4, hm1, hm6, hFl⟩ := id hN
    have hS6 := x6 _ _ hS5 Sp0
    try dsimp only [List.set]
    refine ⟨_, rfl, _, rfl, p, hv, _, m, n, 9, rfl, hB6, hD6, hN, by decide, fun sv1 H7 rows1 out1 hB7 x7 hT7 hrl1 ok1 htot1 hout1 => ?_⟩
    have hsm1 := sum_le_tot ok1.pos
    have st1 : Std m n H7 p sv1 := ⟨rows1, out1, hT7, hrl1, fun r hr => ⟨ok1.len r hr, fun x hx => by
      have a1 := ok1.pos r hr x hx
      have a2 : x ≤ r.sum := le_sum (ok1.pos r hr) hx
      have a3 := hsm1 r hr
      have a4 : (rows1.map List.sum).sum ≤ 9 := htot1
      omega⟩, ok1.out, by omega⟩
    have hS7 := x7 _ _ hS6 Sp0
    have hD7 := hD6.ext x7
    refine ⟨_, rfl, _, rfl, p, hv, fs, m, n, rfl, hB7, hD7, hN, fun sv2 H8 rows2 out2 hB8 x8 hT8 hrl2 hc2 ho20 ho21 => ?_⟩
    have st2 : Std m n H8 p sv2 := ⟨rows2, out2, hT8, hrl2, hc2, ho20, ho21⟩
    replace st1 := st1.ext x8
    have hS8 := x8 _ _ hS7 Sp0
    have hD8 := hD7.ext x8
    refine ⟨by show 2 ≤ sizeLine; decide, fun W0 hW0 => ?_⟩
    have eW : upd H8 W0 (.lst [sv1, sv2]) W0 = some (.lst [sv1, sv2]) := upd_same
    have st := same_new (o := .lst [sv1, sv2]) hW0
    have hWp : W0 ≠ p := by
      obtain ⟨b1, b2, b3, e⟩ := hB8
      exact ne_of_none' hW0 e
    have hS9 := st _ _ hS8
    have hD9 := hD8.same st
    have hB9 := hB8.smm st
    have htwo : ∀ x ∈ [sv1, sv2], Std m n (upd H8 W0 (.lst [sv1, sv2])) p x := fun x hx => by
      simp only [List.mem_cons, List.not_mem_nil, or_false] at hx
      rcases hx with rfl | rfl
      · exact st1.same st
      · exact st2.same st
    generalize upd H8 W0 (.lst [sv1, sv2]) = H9 at *
    generalize [sv1, sv2] = two at *
    clear st st1 st2 hT7 hT8 hS4 hS5 hS6 hS7 hS8 hB5 hB6 hB7 hB8 hD6 hD7 hD8 x6 x7 x8 s5 hp hrl1 ok1 htot1 hout1 hsm1 hrl2 hc2 ho20 ho21
    refine ⟨W0, rfl, ⟨_, SqL.of eW⟩, ?_⟩
    refine fL (fun i σ G => G W0 = some (.lst two) ∧ G S = some (.lst zs) ∧ Bag G p ∧ Dat G p hv (.tuple fs) ∧ (∀ x ∈ two, Std m n G p x) ∧ ∃ v4 v5 v6 v7 v8 v9 v10 v11 v12 v13 v14 v15 v16 v17, σ = [some (.ref a), some (.int c), some (.ref p), some hv, v4, v5, v6, v7, v8, v9, v10, v11, v12, v13, v14, v15, v16, v17]) ⟨eW, hS9, hB9, hD9, htwo, _, _, _, _, _, _, _, _, _, _, _, _, _, _, rfl⟩ (fun i σ G _ hp => SqL.of hp.1) ?_ ?_
    · rintro i x σ G0 hi ⟨eW, hS, hB, hD, htwo, v4, v5, v6, v7, v8, v9, v10, v11, v12, v13, v14, v15, v16, v17, rfl⟩
      have hx0 := htwo x (List.mem_of_getElem? hi)
      clear hi hS9 hB9 hD9
      have eWx := eW
      walk_at "op"
      try dsimp only [List.set]
      obtain ⟨rows, out, hT, hrl, hcn, ho0, ho1⟩ := hx0
      obtain ⟨u0, hu⟩ : ∃ u, G0 p = some u := by
        obtain ⟨b1, b2, b3, e⟩ := hB
        exact ⟨_, e⟩
      refine ⟨_, rfl, by show 1 ≤ sizeLine; decide, fun L1 hL1 => ?_⟩
      have e1 : upd G0 L1 (.lst [x]) L1 = some (.lst [x]) := upd_same
      have hL1p := ne_of_none' hL1 hu
      have st := same_new (o := .lst [x]) hL1
      replace hS := st _ _ hS
      replace hB := hB.smm st
      replace hD := hD.same st
      replace hT := hT.same st
      have htwo := fun y hy => (htwo y hy).same st
      have eW1 := st _ _ eWx
      generalize upd G0 L1 (.lst [x]) = G1 at *
      clear st hL1 hu
      refine ⟨_, rfl, _, rfl, _, rfl, p, hv, x, m, n, rows, out, rfl, hB, hm6, hm1, hn4, hT, hrl, hcn, ho0, ho1, fun L ws ds G2 hB2 x2 hL hLp eL hds hths hdl => ?_⟩
      have hTL := Dat.bothE x2 hT (hT.fresh2 hL)
      have hDL := Dat.bothE x2 hD (hD.fresh2 hL)
      replace hT := hT.ext x2
      replace hD := hD.ext x2
      replace hS := x2 _ _ hS Sp0
      replace eW1 := x2 _ _ eW1 hWp
      replace e1 := x2 _ _ e1 hL1p
      replace htwo := fun y hy => (htwo y hy).ext x2
      clear x2 hB hL
      have thS := std_th hm6 hn4 hrl hcn ho0 ho1
      refine ⟨L1, L, _, _, rfl, rfl, e1, eL, Nat.le_trans (show _ ≤ 1000 by rw [hds.1]; show 1 + ds.length ≤ _; omega) (by decide), fun Z hZ => ?_⟩
      have st := same_new (o := .lst ([x] ++ ws)) hZ
      have eZ : upd G2 Z (.lst ([x] ++ ws)) Z = some (.lst ([x] ++ ws)) := upd_same
      have hz : Dats (upd G2 Z (.lst ([x] ++ ws))) L ([x] ++ ws) (stD rows out :: ds) := (Dats.cons hTL hds).same st
      have hzt : ∀ d ∈ stD rows out :: ds, Th d := fun d hd => by
        rcases List.mem_cons.mp hd with rfl | hd
        · exact thS
        · exact hths d hd
      replace hDL := hDL.same st
      replace hT := hT.same st
      replace hD := hD.same st
      replace hS := st _ _ hS
      replace eW1 := st _ _ eW1
      replace eL := st _ _ eL
      replace hB2 := hB2.smm st
      replace htwo := fun y hy => (htwo y hy).same st
      generalize upd G2 Z (.lst ([x] ++ ws)) = G3 at *
      generalize [x] ++ ws = zs2 at *
      generalize stD rows out :: ds = dz at *
      clear st hZ hds hths hdl e1 hTL
      refine ⟨Z, rfl, ⟨_, SqL.of eZ⟩, ?_⟩
      refine fL (fun j σ G => Same G3 G ∧ ∃ t5 t6 t7 t8 t9 t10 t11 t12 t13 t14 t15 t16 t17, σ = [some (.ref a), some (.int c), some (.ref p), some hv, some x, t5, t6, t7, t8, t9, t10, t11, t12, t13, t14, t15, t16, t17]) ⟨fun _ _ e => e, _, _, _, _, _, _, _, _, _, _, _, _, _, rfl⟩ (fun j σ G _ hp => SqL.of (hp.1 _ _ eZ)) ?_ ?_
      · rintro j y σ G hj ⟨sG, t5, t6, t7, t8, t9, t10, t11, t12, t13, t14, t15, t16, t17, rfl⟩
        obtain ⟨d, hdz, hd⟩ := hz.at hj
        have hth := hzt d (List.mem_of_getElem? hdz)
        clear hj
        walk_at "op"
        try dsimp only [List.set]
        refine ⟨_, rfl, y, L, d, 30000, 5, rfl, hd.same sG, hth.fit, by decide, by decide, ?_⟩
        try dsimp only [List.set]
        refine ⟨_, rfl, _, rfl, hv, y, L, _, fs, m, n, d, rfl, sG _ _ eL, hDL.same sG, hN, hd.same sG, hth.good.mono (by decide), fun b Ga hb sa => ?_⟩
        have sGa := sG.trans sa
        try dsimp only [List.set]
        refine ⟨_, rfl, _, rfl, hv, y, L, L, _, d, rfl, hDL.same sGa, hd.same sGa, fun m' n' hN' b' Gb hb' sb => ?_, fun no => (no ⟨m, n, hN⟩).elim⟩
        obtain ⟨rfl, rfl⟩ := houseN_inj hN hN'
        have sGb := sGa.trans sb
        have ebb : b' = b := by
          cases b
          · cases b'
            · rfl
            · exact Bool.noConfusion (hb.mpr (hb'.mp rfl))
          · cases b'
            · exact Bool.noConfusion (hb'.mpr (hb.mp rfl))
            · rfl
        subst ebb
        refine ⟨_, L, .bool _, 5, 0, rfl, .bl _, fit_bool _, by decide, by decide, _, rfl, _, L, .bool _, 5, 0, rfl, .bl _, fit_bool _, by decide, by decide, ?_⟩
        refine ⟨rfl, false, by rw [decide_eq_true rfl]; rfl, ?_⟩
        rw [if_neg (by decide)]
        refine ⟨_, rfl, y, L, d, 30000, 5, rfl, hd.same sGb, hth.fit, by decide, by decide, _, rfl, rfl, false, by rw [decide_eq_true rfl]; rfl, ?_⟩
        rw [if_neg (by decide)]
        cases b' with
        | true =>
          refine ⟨_, rfl, true, rfl, ?_⟩
          rw [if_neg (by decide), if_neg (by decide)]
          exact ⟨sGb, _, _, _, _, _, _, _, _, _, _, _, _, _, rfl⟩
        | false =>
        have hnoF : ¬ FormD (.int 1000000000000000000) m n d := fun z => Bool.noConfusion (hb.mpr z)
        refine ⟨_, rfl, false, rfl, ?_⟩
        rw [if_pos (by decide)]
        refine ⟨10, 18, rfl, rfl, ⟨by decide, by decide, by decide⟩, ?_⟩
        rw [e18]
        refine ⟨_, _, rfl, rfl, 1000000000000000000 + 1, rfl, by decide, _, rfl, y, L, d, 30000, 5, rfl, hd.same sGb, hth.fit, by decide, by decide, _, _, rfl, rfl, ?_⟩
        by_cases hF : FormD .non m n d
        · have hfound := found_within (tells_great hth hF hnoF)
          have e1 : (PyData.int M1).shown = Str.ofString (toString (1000000000000000000 + 1 : Int)) := by
            simp only [PyData.shown]
            rfl
          rw [e1] at hfound
          refine ⟨false, by rw [hfound]; rfl, ?_⟩
          rw [if_neg (by decide)]
          exact ⟨sGb, _, _, _, _, _, _, _, _, _, _, _, _, _, rfl⟩
        generalize (!(!(Builtin.Str.occurrences d.shown (Str.ofString (toString (1000000000000000000 + 1 : Int))) 0 d.shown.length 1).isEmpty)) = kk
        refine ⟨kk, rfl, ?_⟩
        cases kk with
        | false =>
          rw [if_neg (by decide)]
          exact ⟨sGb, _, _, _, _, _, _, _, _, _, _, _, _, _, rfl⟩
        | true =>
        rw [if_pos rfl]
        refine ⟨by show 8 ≤ sizeLine; decide, fun tw htw => ?_⟩
        have st := same_new (o := .tup [V.int 0, V.int 1, V.int 2, V.int 3, V.int 4, V.int 5, V.int 8, V.int 9]) htw
        have etw : upd Gb tw (.tup [V.int 0, V.int 1, V.int 2, V.int 3, V.int 4, V.int 5, V.int 8, V.int 9]) tw = some (.tup [V.int 0, V.int 1, V.int 2, V.int 3, V.int 4, V.int 5, V.int 8, V.int 9]) := upd_same
        have sGc := sGb.trans st
        generalize upd Gb tw (.tup [V.int 0, V.int 1, V.int 2, V.int 3, V.int 4, V.int 5, V.int 8, V.int 9]) = Gc at *
        refine ⟨tw, rfl, ⟨_, SqT.of etw⟩, fun D' hD' => ?_⟩
        refine lI walk_tup (fun j G => Same Gc G ∧ G D' = some (.lst (List.replicate j (V.str "NoStanding")))) ⟨same_new hD', upd_same⟩ (fun _ _ _ ⟨e, _⟩ => SqT.of (e _ _ etw)) ?_ ?_
        · rintro j z _ Gd hj ⟨sGd, hDl⟩ ⟨rfl, hzj⟩
          obtain ⟨w, rfl, hw⟩ : ∃ w : Nat, z = .int (w : Nat) ∧ (w < 6 ∨ w = 8 ∨ w = 9) := by
            have hj8 : j < 8 := (List.getElem?_eq_some_iff.mp hzj).1
            rcases (by omega : j = 0 ∨ j = 1 ∨ j = 2 ∨ j = 3 ∨ j = 4 ∨ j = 5 ∨ j = 6 ∨ j = 7) with rfl | rfl | rfl | rfl | rfl | rfl | rfl | rfl <;> cases hzj
            · exact ⟨0, rfl, by decide⟩
            · exact ⟨1, rfl, by decide⟩
            · exact ⟨2, rfl, by decide⟩
            · exact ⟨3, rfl, by decide⟩
            · exact ⟨4, rfl, by decide⟩
            · exact ⟨5, rfl, by decide⟩
            · exact ⟨8, rfl, by decide⟩
            · exact ⟨9, rfl, by decide⟩
          walk_at "op"
          refine ⟨rfl, ?_⟩
          refine iteT ?_
          have s3 := sGc.trans sGd
          refine ⟨_, rfl, _, rfl, _, rfl, w, hv, y, L, _, _, d, rfl, s3 _ _ eL, hDL.same s3, hd.same s3, .inl ⟨m, n, hN, hw, hF, fun Gk sk => ?_⟩⟩
          have hj8 : j < 8 := (List.getElem?_eq_some_iff.mp hzj).1
          refine ⟨_, sk _ _ hDl, Nat.lt_of_le_of_lt (show _ ≤ 8 by rw [List.length_replicate]; omega) (by decide), sameOff (sGd.trans sk) hD', ?_⟩
          rw [upd_same, List.replicate_succ']
        · rintro Gd ⟨sGd, hDl⟩
          exact same_words (by decide +kernel) hDl fun H2 s2 => ⟨(sGc.trans sGd).trans s2, _, _, _, _, _, _, _, _, _, _, _, _, _, rfl⟩
      · rintro σ G ⟨sG, t5, t6, t7, t8, t9, t10, t11, t12, t13, t14, t15, t16, t17, rfl⟩
        walk_at "op"
        try dsimp only [List.set]
        replace hB2 := hB2.smm sG
        replace hT := hT.same sG
        replace hD := hD.same sG
        replace hS := sG _ _ hS
        replace eW1 := sG _ _ eW1
        replace htwo := fun y hy => (htwo y hy).same sG
        clear sG eZ hz hzt hDL eL
        refine ⟨8, rfl, by decide, by decide, fun D' hD' => ?_⟩
        have hDp : D' ≠ p := by
          obtain ⟨b1, b2, b3, e⟩ := hB2
          exact ne_of_none' hD' e
        refine lR (fun j Gx => Bag Gx p ∧ Ext p G Gx ∧ Gx D' = some (.lst (List.replicate j (V.str "NoHouse")))) ⟨hB2.up hDp.symm, ext_new hD', upd_same⟩ ?_ ?_
        · rintro j Gx hj ⟨hBx, xx, hDl⟩
          walk_at "op"
          refine ⟨rfl, ?_⟩
          refine iteT ?_
          rw [Int.zero_add]
          obtain ⟨u1, hux⟩ : ∃ u, Gx p = some u := by
            obtain ⟨b1, b2, b3, e⟩ := hBx
            exact ⟨_, e⟩
          refine ⟨_, rfl, by show 0 ≤ sizeLine; decide, fun t0 ht0 => ?_⟩
          have d0 := Dat.new ht0 (ne_of_none' ht0 hux) (Dats.nil (H := Gx) (p := p))
          have st := same_new (o := .tup []) ht0
          replace hux := st _ _ hux
          have hBy := hBx.smm st
          have hDy := st _ _ hDl
          generalize upd Gx t0 (.tup []) = Gy at *
          refine ⟨by show 3 ≤ sizeLine; decide, fun q hq => ?_⟩
          have eq : upd Gy q (.lst [V.non, V.ref t0, V.int 5]) q = some (.lst [V.non, V.ref t0, V.int 5]) := upd_same
          have nq := ne_of_none' hq hux
          have st2 := same_new (o := .lst [V.non, V.ref t0, V.int 5]) hq
          replace hux := st2 _ _ hux
          replace hBy := hBy.smm st2
          replace hDy := st2 _ _ hDy
          replace d0 := d0.same st2
          have xxy := xx.trans (Same.ext (st.trans st2) p)
          generalize upd Gy q (.lst [V.non, V.ref t0, V.int 5]) = Gq at *
          refine ⟨_, rfl, p, 3, rfl, by decide, by decide, hBy, fun i Gz i0 i1 hBz xz => ?_⟩
          replace d0 := d0.ext xz
          replace eq := xz _ _ eq nq
          replace hDy := xz _ _ hDy hDp
          have xz2 := xxy.trans xz
          obtain ⟨u2, huz⟩ : ∃ u, Gz p = some u := by
            obtain ⟨b1, b2, b3, e⟩ := hBz
            exact ⟨_, e⟩
          obtain ⟨ov, od, hov, hO, hno⟩ : ∃ ov od, atI [V.non, V.ref t0, V.int 5] i = some ov ∧ Dat Gz p ov od ∧ ¬ HouseD od := by
            rcases (by omega : i = 0 ∨ i = 1 ∨ i = 2) with rfl | rfl | rfl
            · exact ⟨_, _, rfl, .non, fun ⟨m, n, fs, e, _⟩ => by cases e⟩
            · exact ⟨_, _, rfl, d0, fun ⟨m, n, fs, e, hl, h1, _⟩ => by cases e; exact absurd hl (by show ¬ (0 = n); omega)⟩
            · exact ⟨_, _, rfl, .int 5, fun ⟨m, n, fs, e, _⟩ => by cases e⟩
          refine ⟨q, _, i, ov, rfl, rfl, SqL.of eq, hov, ?_⟩
          refine ⟨_, rfl, j, ov, x, p, u2, od, stD rows out, rfl, huz, hO, hT.ext xz2, .inr (.inl ⟨hno, by omega, fun Gk sk => ?_⟩)⟩
          refine ⟨_, sk _ _ hDy, Nat.lt_of_le_of_lt (show _ ≤ 8 by rw [List.length_replicate]; omega) (by decide), (hBz.smm sk).up hDp.symm, (xz2.trans (Same.ext sk p)).off hD', ?_⟩
          rw [upd_same, List.replicate_succ']
        · rintro Gx ⟨hBx, xx, hDl⟩
          exact same_words (by decide +kernel) hDl fun H2 s2 => ⟨s2 _ _ (xx _ _ eW1 hWp), s2 _ _ (xx _ _ hS Sp0), hBx.smm s2, (hD.ext xx).same s2, fun y hy => ((htwo y hy).ext xx).same s2, _, _, _, _, _, _, _, _, _, _, _, _, _, _, rfl⟩
    · rintro σ G0 ⟨_, hS, hB, hD, _, v4, v5, v6, v7, v8, v9, v10, v11, v12, v13, v14, v15, v16, v17, rfl⟩
      walk_at "op"
      try dsimp only [List.set]
      refine ⟨_, rfl, _, rfl, p, hv, fs, m, n, rfl, hB, hD, hN, fun g1v G1 R1 o1 hB1 x1 hT1 hl1 hc1 p1 q1 => ?_⟩
      refine ⟨_, rfl, _, rfl, p, hv, fs, m, n, rfl, hB1, hD.ext x1, hN, fun g2v G2 R2 o2 hB2 x2 hT2 hl2 hc2 p2 q2 => ?_⟩
      replace hT1 := hT1.ext x2
      replace hD := hD.ext (x1.trans x2)
      replace hS := x2 _ _ (x1 _ _ hS Sp0) Sp0
      clear hB hB1 x1 x2
      obtain ⟨u0, hu⟩ : ∃ u, G2 p = some u := by
        obtain ⟨b1, b2, b3, e⟩ := hB2
        exact ⟨_, e⟩
      try dsimp only [List.set]
      refine ⟨_, _, rfl, ?_⟩
      replace hT1 : Dat G2 p g1v (.tuple (R1.map rowD ++ [.int o1])) := hT1
      replace hT2 : Dat G2 p g2v (.tuple (R2.map rowD ++ [.int o2])) := hT2
      refine ⟨_, rfl, 1, rfl, (-1), rfl, sl_dat hu hT1 (cut_init _ _) fun w1 G3 st dw1 => ?_⟩
      replace hu := st _ _ hu
      replace hS := st _ _ hS
      replace hB2 := hB2.smm st
      replace hD := hD.same st
      replace hT1 := hT1.same st
      replace hT2 := hT2.same st
      clear st
      refine ⟨_, rfl, 1, rfl, (-1), rfl, sl_dat hu hT2 (cut_init _ _) fun w2 G4 st dw2 => ?_⟩
      replace hu := st _ _ hu
      replace hS := st _ _ hS
      replace hB2 := hB2.smm st
      replace hD := hD.same st
      replace hT1 := hT1.same st
      replace hT2 := hT2.same st
      replace dw1 := dw1.same st
      clear st
      obtain ⟨aw1, xs1, rfl, ha1, _, hxs1⟩ := dw1.isTup
      obtain ⟨aw2, xs2, rfl, ha2, _, hxs2⟩ := dw2.isTup
      refine ⟨_, _, _, _, rfl, .inr ⟨SqT.of ha1, SqT.of ha2, fun D' hD' => ?_⟩⟩
      have hlx : xs1.length = xs2.length := by rw [hxs1.1, hxs2.1, List.length_map, List.length_map, hl1, hl2]
      have hadl : (addRows R1 R2).length = n := by
        unfold addRows
        rw [List.length_zipWith, hl1, hl2]
        omega
      have nl : ∀ (l : List (List Int)), ∀ d ∈ l.map rowD, noList d = true := fun l d hd => by
        obtain ⟨r, _, rfl⟩ := List.mem_map.mp hd
        exact noList_ints _ _
      have hDp := ne_of_none' hD' hu
      refine lI (walk_zipT hlx) (fun i G => Same G4 G ∧ ∃ ws, G D' = some (.lst ws) ∧ Dats G p ws (((addRows R1 R2).take i).map rowD)) ⟨same_new hD', [], upd_same, Dats.nil⟩ (fun i G _ ⟨e, _⟩ => ⟨SqT.of (e _ _ ha1), SqT.of (e _ _ ha2)⟩) ?_ ?_
      · rintro i v G _ hi ⟨sG, ws, hws, hW⟩ ⟨t, y1, y2, rfl, ht, rfl, hy1, hy2⟩
        dsimp only at hy1 hy2
        obtain ⟨e1, he1, hd1⟩ := hxs1.at hy1
        obtain ⟨e2, he2, hd2⟩ := hxs2.at hy2
        rw [List.getElem?_map] at he1 he2
        have hi1 : i < R1.length := by rw [hl1, ← hl1, ← List.length_map (f := rowD), ← hxs1.1]; exact hi
        have hi2 : i < R2.length := by omega
        rw [List.getElem?_eq_getElem hi1] at he1
        rw [List.getElem?_eq_getElem hi2] at he2
        cases he1
        cases he2
        have m1 := (hc1 _ (List.getElem_mem hi1)).1
        have m2 := (hc2 _ (List.getElem_mem hi2)).1
        have e9 : ((addRows R1 R2).take (i + 1)).map rowD = ((addRows R1 R2).take i).map rowD ++ [rowD (List.zipWith (· + ·) R1[i] R2[i])] := by
          have e8 : (addRows R1 R2)[i]? = some (List.zipWith (· + ·) R1[i] R2[i]) := by
            unfold addRows
            rw [List.getElem?_zipWith, List.getElem?_eq_getElem hi1, List.getElem?_eq_getElem hi2]
          rw [List.take_add_one, e8, List.map_append]
          rfl
        have st := same_new (o := .tup [y1, y2]) ht
        have htt : upd G t (.tup [y1, y2]) t = some (.tup [y1, y2]) := upd_same
        replace sG := sG.trans st
        replace hws := st _ _ hws
        replace hW := hW.same st
        replace hd1 := hd1.same sG
        replace hd2 := hd2.same sG
        generalize upd G t (.tup [y1, y2]) = Gt at *
        generalize R1[i] = r1 at *
        generalize R2[i] = r2 at *
        obtain ⟨b1, rfl, hb1, _⟩ := row_parts hd1
        obtain ⟨b2, rfl, hb2, _⟩ := row_parts hd2
        walk_at "op"
        refine ⟨t, _, rfl, SqT.of htt, rfl, _, _, rfl, _, _, rfl, rfl, ?_⟩
        refine ⟨rfl, ?_⟩
        refine iteT ?_
        refine ⟨_, rfl, _, rfl, _, _, _, _, rfl, .inr ⟨SqT.of hb1, SqT.of hb2, fun D2 hD2 => ?_⟩⟩
        have nDD : D' ≠ D2 := ne_of_none hws hD2
        have hlm : (r1.map V.int).length = (r2.map V.int).length := by rw [List.length_map, List.length_map, m1, m2]
        refine lI (walk_zipT hlm) (fun j G2 => Same Gt G2 ∧ G2 D2 = some (.lst (((List.zipWith (· + ·) r1 r2).take j).map V.int)))
          ⟨same_new hD2, upd_same⟩ (fun j G2 _ ⟨e, _⟩ => ⟨SqT.of (e _ _ hb1), SqT.of (e _ _ hb2)⟩) ?_ ?_
        · rintro j v Gu _ hj ⟨sm2, hT2'⟩ ⟨t2, z1, z2, rfl, ht2, rfl, hz1, hz2⟩
          rw [List.length_map] at hj
          dsimp only at hz1 hz2
          rw [List.getElem?_map, List.getElem?_eq_getElem hj] at hz1
          rw [List.getElem?_map, List.getElem?_eq_getElem (by omega)] at hz2
          cases hz1
          cases hz2
          have nDt : D2 ≠ t2 := ne_of_none hT2' ht2
          walk_at "op"
          refine ⟨t2, _, rfl, SqT.of upd_same, rfl, _, _, rfl, _, _, rfl, rfl, ?_⟩
          refine ⟨rfl, ?_⟩
          refine iteT ?_
          have hlen2 : ((List.zipWith (· + ·) r1 r2).take j).length ≤ 6 := by
            rw [List.length_take, List.length_zipWith]
            omega
          refine ⟨_, rfl, _, rfl, _, _, rfl, rfl, _, by rw [upd_ne nDt]; exact hT2', by rw [List.length_map]; exact small1000 (by omega), sameOff (sameOff sm2 (sameFree sm2 ht2)) hD2, ?_⟩
          rw [upd_same, List.take_add_one, List.getElem?_zipWith, List.getElem?_eq_getElem hj, List.getElem?_eq_getElem (show j < r2.length by omega), List.map_append]
          rfl
        · rintro Gu ⟨sm2, hT2'⟩
          have e10 : (r1.map V.int).length = (List.zipWith (· + ·) r1 r2).length := by rw [List.length_map, List.length_zipWith]; omega
          rw [e10, List.take_length] at hT2'
          refine ⟨D2, _, rfl, .inl ⟨SqL.of hT2', fun l hl => ?_⟩⟩
          have sl := same_new (o := .tup ((List.zipWith (· + ·) r1 r2).map V.int)) hl
          have s3 := sm2.trans sl
          have hws3 := s3 _ _ hws
          have hu3 := s3 _ _ (sG _ _ hu)
          have hdl3 : Dat (upd Gu l (.tup ((List.zipWith (· + ·) r1 r2).map V.int))) p (.ref l) (rowD (List.zipWith (· + ·) r1 r2)) := .tup upd_same (ne_of_none' hl (sm2 _ _ (sG _ _ hu))) (by rw [List.length_map, List.length_map]) fun i x d a b => (Dats.ints (p := p) (List.zipWith (· + ·) r1 r2)).2 i x d a b
          replace hW := hW.same s3
          generalize upd Gu l (.tup ((List.zipWith (· + ·) r1 r2).map V.int)) = Gl at *
          refine ⟨_, hws3, small1000 (by rw [hW.1, List.length_map, List.length_take]; omega), sameOff (sG.trans s3) hD', _, upd_same, ?_⟩
          rw [e9]
          exact (hW.setL hws3 (nl _)).snoc (Dat.setL hws3 hdl3 (noList_ints _ _))
      · rintro G ⟨sG, ws, hws, hW⟩
        have hxn : xs1.length = (addRows R1 R2).length := by rw [hadl, hxs1.1, List.length_map, hl1]
        rw [hxn, List.take_length] at hW
        replace hu := sG _ _ hu
        replace hS := sG _ _ hS
        replace hB2 := hB2.smm sG
        replace hD := hD.same sG
        replace hT1 := hT1.same sG
        replace hT2 := hT2.same sG
        clear sG ha1 ha2 hxs1 hxs2 dw1 dw2 hlx hxn
        have hfit : Fit 1400 2 (stD (addRows R1 R2) (o1 + o2)) := fit_std (by omega) (add_small hm6 hc1 hc2) (Nat.lt_of_le_of_lt (show (o1 + o2).natAbs ≤ 2000000000000000000 by omega) (by decide))
        refine ⟨_, rfl, _, rfl, _, rfl, hv, g1v, g2v, p, p, .tuple fs, m, n, R1, R2, o1, o2, u0, rfl, hu, hD, hN, hT1, hT2, hl1, hl2, std_ok hc1 p1, std_ok hc2 p2, fun vt Ga htt st => ?_⟩
        replace hu := st _ _ hu
        replace hS := st _ _ hS
        replace hB2 := hB2.smm st
        replace hD := hD.same st
        replace hT1 := hT1.same st
        replace hT2 := hT2.same st
        replace hW := hW.same st
        replace hws := st _ _ hws
        refine ⟨vt, p, _, 1400, 2, rfl, htt, hfit, by decide, by decide, _, rfl, D', ws, rfl, .inl ⟨SqL.of hws, fun l hl => ?_⟩⟩
        have dl := Dat.new hl (ne_of_none' hl hu) hW
        have st := same_new (o := .tup ws) hl
        replace hu := st _ _ hu
        replace hS := st _ _ hS
        replace hB2 := hB2.smm st
        replace hD := hD.same st
        replace hT1 := hT1.same st
        replace hT2 := hT2.same st
        generalize upd Ga l (.tup ws) = G50 at *
        clear st hl hW hws htt
        obtain ⟨a1, ys1, rfl, ha1, _, hy1⟩ := hT1.isTup
        obtain ⟨z1, y1, rfl, hz1, hyy1⟩ := dats_snoc hy1
        obtain rfl := hyy1.isInt
        obtain ⟨a2, ys2, rfl, ha2, _, hy2⟩ := hT2.isTup
        obtain ⟨z2, y2, rfl, hz2, hyy2⟩ := dats_snoc hy2
        obtain rfl := hyy2.isInt
        have hz1l : z1.length = n := by rw [hz1.1, List.length_map, hl1]
        have hz2l : z2.length = n := by rw [hz2.1, List.length_map, hl2]
        refine ⟨_, rfl, 1, rfl, a1, _, -1, _, rfl, rfl, SqT.of ha1, atI_last (by omega), _, rfl, 1, rfl, a2, _, -1, _, rfl, rfl, SqT.of ha2, atI_last (by omega), _, _, rfl, rfl, by show 1 ≤ sizeLine; decide, fun t ht => ?_⟩
        clear ha1 ha2 hy1 hy2 hz1 hz2 hT1 hT2
        have dt := one_tup hu ht (.int (o1 + o2))
        have st := same_new (o := .tup [V.int (o1 + o2)]) ht
        replace hu := st _ _ hu
        replace hS := st _ _ hS
        replace hB2 := hB2.smm st
        replace hD := hD.same st
        replace dl := dl.same st
        generalize upd G50 t (.tup [V.int (o1 + o2)]) = G51 at *
        clear st ht
        refine cat_dat hu dl dt (by simp; omega) fun xv G52 st dx => ?_
        replace hu := st _ _ hu
        replace hS := st _ _ hS
        replace hB2 := hB2.smm st
        replace hD := hD.same st
        replace dl := dl.same st
        clear st
        clear dl dt
        refine ⟨xv, p, stD (addRows R1 R2) (o1 + o2), 1400, 2, rfl, dx, hfit, by decide, by decide, rfl, false, by rw [decide_eq_true rfl]; rfl, ?_⟩
        rw [if_neg (by decide)]
        clear dx hfit
        obtain ⟨ah, a0, af, hs, y0, ys, rfl, g1, g2, g3, g4, g5, g6, g7⟩ := house_m hD hN
        refine ⟨_, rfl, ah, hs, 0, _, rfl, rfl, SqT.of g1, atI_nat (j := 0) g3, a0, y0, 0, _, rfl, rfl, SqT.of g4, atI_nat (j := 0) g5, af, ys, rfl, .inr (SqT.of g6), ?_⟩
        rw [g7]
        try dsimp only [List.set]
        clear g1 g3 g4 g5 g6 g7 g2
        refine ⟨_, rfl, _, rfl, p, m, rfl, hB2, hm6, fun cv G53 cc hB3 x3 hC hcc => ?_⟩
        replace hS := x3 _ _ hS Sp0
        replace hD := hD.ext x3
        clear x3 hB2 hu
        obtain ⟨u2, hu⟩ : ∃ u, G53 p = some u := by
          obtain ⟨b1, b2, b3, e⟩ := hB3
          exact ⟨_, e⟩
        try dsimp only [List.set]
        refine ⟨_, rfl, _, rfl, .ref ah, cv, p, p, .tuple fs, rowD cc, u2, rfl, hu, hD, hC, fun m' n' hN' => ⟨fun c' vt Gs e hc' hx' hvt st => ?_, fun hno => absurd (by obtain ⟨rfl, rfl⟩ := houseN_inj hN hN'; exact are_row hcc.1 hcc.2) hno⟩, fun no => (no ⟨m, n, hN⟩).elim⟩
        obtain ⟨rfl, rfl⟩ := houseN_inj hN hN'
        obtain rfl := rowD_inj e
        have hfit : Fit 1400 2 (stD (cc :: List.replicate (n - 1) (List.replicate m 0)) 0) := fit_std (by rw [List.length_cons, List.length_replicate]; omega) (fun r hr => by
          rcases List.mem_cons.mp hr with rfl | hr
          · exact ⟨by rw [hcc.1]; exact hm6, fun x hx => Nat.lt_of_le_of_lt (show x.natAbs ≤ 1000000000000000000 by have := hcc.2 x hx; omega) (by decide)⟩
          · rw [List.eq_of_mem_replicate hr]
            exact ⟨by rw [List.length_replicate]; exact hm6, fun x hx => by rw [List.eq_of_mem_replicate hx]; decide⟩) (by decide)
        refine ⟨vt, p, _, 1400, 2, rfl, hvt, hfit, by decide, by decide, ?_⟩
        replace hu := st _ _ hu
        replace hS := st _ _ hS
        replace hB3 := hB3.smm st
        replace hD := hD.same st
        replace hC := hC.same st
        clear st hvt e hc' hx' hN'
        obtain ⟨_, _, _, hs, _, _, e0, g1, g2, _⟩ := house_m hD hN
        cases e0
        refine ⟨_, rfl, by show 1 ≤ sizeLine; decide, fun t1 ht1 => ?_⟩
        have d1 := one_tup hu ht1 hC
        have st := same_new (o := .tup [cv]) ht1
        replace hu := st _ _ hu
        replace hS := st _ _ hS
        replace hB3 := hB3.smm st
        replace hD := hD.same st
        replace hC := hC.same st
        replace g1 := st _ _ g1
        generalize upd Gs t1 (.tup [cv]) = G60 at *
        clear st ht1
        refine ⟨by show 1 ≤ sizeLine; decide, fun t2 ht2 => ?_⟩
        have d2 : Dat (upd G60 t2 (.tup [V.int 0])) p (.ref t2) (rowD [0]) := one_tup hu ht2 (.int 0)
        have st := same_new (o := .tup [V.int 0]) ht2
        replace hu := st _ _ hu
        replace hS := st _ _ hS
        replace hB3 := hB3.smm st
        replace hD := hD.same st
        replace hC := hC.same st
        replace g1 := st _ _ g1
        replace d1 := d1.same st
        generalize upd G60 t2 (.tup [V.int 0]) = G61 at *
        clear st ht2
        refine ⟨_, rfl, zeros_dat hu d2 (by omega) (by omega) fun z G62 st dz => ?_⟩
        replace hu := st _ _ hu
        replace hS := st _ _ hS
        replace hB3 := hB3.smm st
        replace hD := hD.same st
        replace hC := hC.same st
        replace g1 := st _ _ g1
        replace d1 := d1.same st
        clear st
        rw [Int.toNat_natCast] at dz
        clear d2
        refine ⟨by show 1 ≤ sizeLine; decide, fun t3 ht3 => ?_⟩
        have d3 := one_tup hu ht3 dz
        clear dz
        have st := same_new (o := .tup [z]) ht3
        replace hu := st _ _ hu
        replace hS := st _ _ hS
        replace hB3 := hB3.smm st
        replace hD := hD.same st
        replace hC := hC.same st
        replace g1 := st _ _ g1
        replace d1 := d1.same st
        generalize upd G62 t3 (.tup [z]) = G63 at *
        clear st ht3
        refine ⟨_, rfl, ah, hs, rfl, .inr (SqT.of g1), _, _, rfl, rfl, ?_⟩
        rw [g2]
        refine times_dat hu d3 (by omega) (by omega) fun y G64 st dy => ?_
        replace hu := st _ _ hu
        replace hS := st _ _ hS
        replace hB3 := hB3.smm st
        replace hD := hD.same st
        replace hC := hC.same st
        replace g1 := st _ _ g1
        replace d1 := d1.same st
        clear st
        rw [show ((n : Int) - 1).toNat = n - 1 by omega] at dy
        clear d3
        refine cat_dat hu d1 dy (by simp; omega) fun y2 G65 st dy2 => ?_
        replace hu := st _ _ hu
        replace hS := st _ _ hS
        replace hB3 := hB3.smm st
        replace hD := hD.same st
        replace hC := hC.same st
        replace g1 := st _ _ g1
        replace d1 := d1.same st
        clear st
        clear d1 dy
        refine ⟨by show 1 ≤ sizeLine; decide, fun t4 ht4 => ?_⟩
        have d4 := one_tup hu ht4 (.int 0)
        have st := same_new (o := .tup [V.int 0]) ht4
        replace hu := st _ _ hu
        replace hS := st _ _ hS
        replace hB3 := hB3.smm st
        replace hD := hD.same st
        replace hC := hC.same st
        replace g1 := st _ _ g1
        replace dy2 := dy2.same st
        generalize upd G65 t4 (.tup [V.int 0]) = G66 at *
        clear st ht4
        refine cat_dat hu dy2 d4 (by simp; omega) fun y3 G67 st dy3 => ?_
        replace hu := st _ _ hu
        replace hS := st _ _ hS
        replace hB3 := hB3.smm st
        replace hD := hD.same st
        replace hC := hC.same st
        replace g1 := st _ _ g1
        replace dy2 := dy2.same st
        replace d4 := d4.same st
        clear st
        clear dy2 d4
        have dy4 : Dat G67 p y3 (stD (cc :: List.replicate (n - 1) (List.replicate m 0)) 0) := by
          unfold stD
          rw [List.map_cons, List.map_replicate]
          exact dy3
        refine ⟨y3, p, _, 1400, 2, rfl, dy4, hfit, by decide, by decide, rfl, false, by rw [decide_eq_true rfl]; rfl, ?_⟩
        rw [if_neg (by decide)]
        clear dy3 dy4 hfit g1 g2
        obtain ⟨c0, ctl, rfl⟩ : ∃ a b, cc = a :: b := by
          cases cc with
          | nil => exact absurd hcc.1 (by show ¬ (0 = m); omega)
          | cons a b => exact ⟨_, _, rfl⟩
        have hcl : ctl.length + 1 = m := hcc.1
        replace hC : Dat G67 p cv (.tuple (PyData.int c0 :: ctl.map PyData.int)) := hC
        refine ⟨_, rfl, by show 1 ≤ sizeLine; decide, fun t5 ht5 => ?_⟩
        have d5 := one_tup hu ht5 (.int 0)
        have st := same_new (o := .tup [V.int 0]) ht5
        replace hu := st _ _ hu
        replace hS := st _ _ hS
        replace hB3 := hB3.smm st
        replace hD := hD.same st
        replace hC := hC.same st
        generalize upd G67 t5 (.tup [V.int 0]) = G68 at *
        clear st ht5
        refine cat_dat hu hC d5 (by simp; omega) fun i1 G69 st e1 => ?_
        replace hu := st _ _ hu
        replace hS := st _ _ hS
        replace hB3 := hB3.smm st
        replace hD := hD.same st
        replace hC := hC.same st
        clear st
        clear d5
        refine ⟨_, rfl, 1, rfl, sl_dat hu hC (cut_tail _ _) fun i2 G70 st e2 => ?_⟩
        replace hu := st _ _ hu
        replace hS := st _ _ hS
        replace hB3 := hB3.smm st
        replace hD := hD.same st
        replace hC := hC.same st
        replace e1 := e1.same st
        clear st
        obtain ⟨ca, xs, e0, hca, nca, hxs⟩ := hC.isTup
        subst e0
        refine ⟨_, rfl, ca, xs, rfl, .inr (SqT.of hca), fun i3 hi3 => ?_⟩
        have e3 : Dat (upd G70 i3 (.lst xs)) p (.ref i3) (.list (PyData.int c0 :: ctl.map PyData.int)) := .lst upd_same (ne_of_none' hi3 hu) (hxs.off (o := .lst xs) hi3).1 (hxs.off (o := .lst xs) hi3).2
        clear hca hxs nca
        have st := same_new (o := .lst xs) hi3
        replace hu := st _ _ hu
        replace hS := st _ _ hS
        replace hB3 := hB3.smm st
        replace hD := hD.same st
        replace hC := hC.same st
        replace e1 := e1.same st
        replace e2 := e2.same st
        generalize upd G70 i3 (.lst xs) = G71 at *
        clear st hi3
        clear xs
        refine ⟨1, rfl, by show 1 ≤ sizeLine; decide, fun t ht => ?_⟩
        have dt := one_tup hu ht (.int (-1))
        have st := same_new (o := .tup [V.int (-1)]) ht
        replace hu := st _ _ hu
        replace hS := st _ _ hS
        replace hB3 := hB3.smm st
        replace hD := hD.same st
        replace hC := hC.same st
        replace e1 := e1.same st
        replace e2 := e2.same st
        replace e3 := e3.same st
        generalize upd G71 t (.tup [V.int (-1)]) = G72 at *
        clear st ht
        refine ⟨_, rfl, 1, rfl, sl_dat hu hC (cut_tail _ _) fun wt G73 st dw => ?_⟩
        replace hu := st _ _ hu
        replace hS := st _ _ hS
        replace hB3 := hB3.smm st
        replace hD := hD.same st
        replace hC := hC.same st
        replace e1 := e1.same st
        replace e2 := e2.same st
        replace e3 := e3.same st
        replace dt := dt.same st
        clear st
        refine cat_dat hu dt dw (by simp; omega) fun i5 G74 st e5 => ?_
        replace hu := st _ _ hu
        replace hS := st _ _ hS
        replace hB3 := hB3.smm st
        replace hD := hD.same st
        replace hC := hC.same st
        replace e1 := e1.same st
        replace e2 := e2.same st
        replace e3 := e3.same st
        replace dt := dt.same st
        replace dw := dw.same st
        clear st
        clear dt dw
        refine ⟨by show 1 ≤ sizeLine; decide, fun t ht => ?_⟩
        have dt := one_tup hu ht (.bl true)
        have st := same_new (o := .tup [V.bl true]) ht
        replace hu := st _ _ hu
        replace hS := st _ _ hS
        replace hB3 := hB3.smm st
        replace hD := hD.same st
        replace hC := hC.same st
        replace e1 := e1.same st
        replace e2 := e2.same st
        replace e3 := e3.same st
        replace e5 := e5.same st
        generalize upd G74 t (.tup [V.bl true]) = G75 at *
        clear st ht
        refine ⟨_, rfl, 1, rfl, sl_dat hu hC (cut_tail _ _) fun wt G76 st dw => ?_⟩
        replace hu := st _ _ hu
        replace hS := st _ _ hS
        replace hB3 := hB3.smm st
        replace hD := hD.same st
        replace hC := hC.same st
        replace e1 := e1.same st
        replace e2 := e2.same st
        replace e3 := e3.same st
        replace e5 := e5.same st
        replace dt := dt.same st
        clear st
        refine cat_dat hu dt dw (by simp; omega) fun i6 G77 st e6 => ?_
        replace hu := st _ _ hu
        replace hS := st _ _ hS
        replace hB3 := hB3.smm st
        replace hD := hD.same st
        replace hC := hC.same st
        replace e1 := e1.same st
        replace e2 := e2.same st
        replace e3 := e3.same st
        replace e5 := e5.same st
        replace dt := dt.same st
        replace dw := dw.same st
        clear st
        clear dt dw
        refine ⟨by show 6 ≤ sizeLine; decide, fun Lo hLo => ?_⟩
        have eLo : upd G77 Lo (.lst [i1, i2, V.ref i3, V.non, i5, i6]) Lo = some (.lst [i1, i2, V.ref i3, V.non, i5, i6]) := upd_same
        have st := same_new (o := .lst [i1, i2, V.ref i3, V.non, i5, i6]) hLo
        replace hu := st _ _ hu
        replace hS := st _ _ hS
        replace hB3 := hB3.smm st
        replace hD := hD.same st
        replace hC := hC.same st
        replace e1 := e1.same st
        replace e2 := e2.same st
        replace e3 := e3.same st
        replace e5 := e5.same st
        replace e6 := e6.same st
        generalize upd G77 Lo (.lst [i1, i2, V.ref i3, V.non, i5, i6]) = G78 at *
        clear st hLo
        try dsimp only [List.set]
        refine ⟨_, rfl, 10, 18, rfl, rfl, ⟨by decide, by decide, by decide⟩, ?_⟩
        rw [e18]
        refine ⟨_, _, rfl, rfl, by show 1 ≤ sizeLine; decide, fun t ht => ?_⟩
        have dt := one_tup hu ht (.int (1000000000000000000 + 1))
        have st := same_new (o := .tup [V.int (1000000000000000000 + 1)]) ht
        replace hu := st _ _ hu
        replace hS := st _ _ hS
        replace hB3 := hB3.smm st
        replace hD := hD.same st
        replace hC := hC.same st
        replace e1 := e1.same st
        replace e2 := e2.same st
        replace e3 := e3.same st
        replace e5 := e5.same st
        replace e6 := e6.same st
        replace eLo := st _ _ eLo
        generalize upd G78 t (.tup [V.int (1000000000000000000 + 1)]) = G79 at *
        clear st ht
        refine ⟨_, rfl, 1, rfl, sl_dat hu hC (cut_tail _ _) fun wt G80 st dw => ?_⟩
        replace hu := st _ _ hu
        replace hS := st _ _ hS
        replace hB3 := hB3.smm st
        replace hD := hD.same st
        replace hC := hC.same st
        replace e1 := e1.same st
        replace e2 := e2.same st
        replace e3 := e3.same st
        replace e5 := e5.same st
        replace e6 := e6.same st
        replace eLo := st _ _ eLo
        replace dt := dt.same st
        clear st
        refine cat_dat hu dt dw (by simp; omega) fun i7 G81 st e7 => ?_
        replace hu := st _ _ hu
        replace hS := st _ _ hS
        replace hB3 := hB3.smm st
        replace hD := hD.same st
        replace hC := hC.same st
        replace e1 := e1.same st
        replace e2 := e2.same st
        replace e3 := e3.same st
        replace e5 := e5.same st
        replace e6 := e6.same st
        replace eLo := st _ _ eLo
        replace dt := dt.same st
        replace dw := dw.same st
        clear st
        clear dt dw
        refine ⟨by show 1 ≤ sizeLine; decide, fun Lp hLp => ?_⟩
        have eLp : upd G81 Lp (.lst [i7]) Lp = some (.lst [i7]) := upd_same
        have st := same_new (o := .lst [i7]) hLp
        replace hu := st _ _ hu
        replace hS := st _ _ hS
        replace hB3 := hB3.smm st
        replace hD := hD.same st
        replace hC := hC.same st
        replace e1 := e1.same st
        replace e2 := e2.same st
        replace e3 := e3.same st
        replace e5 := e5.same st
        replace e6 := e6.same st
        replace eLo := st _ _ eLo
        replace e7 := e7.same st
        generalize upd G81 Lp (.lst [i7]) = G82 at *
        clear st hLp
        refine ⟨Lo, Lp, _, _, rfl, rfl, eLo, eLp, by show 7 ≤ sizeLine; decide, fun Z hZ => ?_⟩
        have eZ : upd G82 Z (.lst ([i1, i2, V.ref i3, V.non, i5, i6] ++ [i7])) Z = some (.lst ([i1, i2, V.ref i3, V.non, i5, i6] ++ [i7])) := upd_same
        have st := same_new (o := .lst ([i1, i2, V.ref i3, V.non, i5, i6] ++ [i7])) hZ
        replace hu := st _ _ hu
        replace hS := st _ _ hS
        replace hB3 := hB3.smm st
        replace hD := hD.same st
        replace hC := hC.same st
        replace e1 := e1.same st
        replace e2 := e2.same st
        replace e3 := e3.same st
        replace e5 := e5.same st
        replace e6 := e6.same st
        replace eLo := st _ _ eLo
        replace e7 := e7.same st
        replace eLp := st _ _ eLp
        generalize upd G82 Z (.lst ([i1, i2, V.ref i3, V.non, i5, i6] ++ [i7])) = G83 at *
        clear st hZ
        have h7 : ∀ x ∈ [i1, i2, V.ref i3, V.non, i5, i6] ++ [i7], ∃ d, Dat G83 p x d ∧ ¬ AreD (.int 1000000000000000000) m d := fun x hx => by
          simp only [List.cons_append, List.nil_append, List.mem_cons, List.not_mem_nil, or_false] at hx
          rcases hx with rfl | rfl | rfl | rfl | rfl | rfl | rfl
          · exact ⟨_, e1, not_len (by simp; omega)⟩
          · exact ⟨_, e2, not_len (by rw [List.length_map]; omega)⟩
          · exact ⟨_, e3, fun ⟨es, e, _⟩ => by cases e⟩
          · exact ⟨_, .non, fun ⟨es, e, _⟩ => by cases e⟩
          · exact ⟨_, e5, not_mem (d := .int (-1)) (by simp) fun ⟨i, e, h0, _⟩ => by
              cases e
              exact absurd h0 (by decide)⟩
          · exact ⟨_, e6, not_mem (d := .bool true) (by simp) fun ⟨i, e, _⟩ => by cases e⟩
          · exact ⟨_, e7, not_mem (d := .int (1000000000000000000 + 1)) (by simp) fun ⟨i, e, _, h1⟩ => by
              cases e
              exact absurd (h1 _ rfl) (by decide)⟩
        generalize [i1, i2, V.ref i3, V.non, i5, i6] ++ [i7] = seven at *
        clear e1 e2 e3 e5 e6 e7 eLo eLp
        refine ⟨Z, rfl, ⟨_, SqL.of eZ⟩, ?_⟩
        refine fL (fun j σ G => Same G83 G ∧ ∃ t5, σ = [some (.ref a), some (.int c), some (.ref p), some (.ref ah), v4, t5, v6, some (.ref D'), v8, some (.ref a1), some (.ref a2), v11, v12, v13, v14, some (.int (m : Nat)), some (.ref ca), some (.ref Lo)]) ⟨fun _ _ e => e, _, rfl⟩ (fun j σ G _ hp => SqL.of (hp.1 _ _ eZ)) ?_ ?_
        · rintro j y σ G hj ⟨sG, t5, rfl⟩
          obtain ⟨d, hd, hno⟩ := h7 y (List.mem_of_getElem? hj)
          walk_at "op"
          try dsimp only [List.set]
          refine ⟨_, rfl, _, rfl, 6, .ref ah, y, p, _, .tuple fs, d, rfl, sG _ _ hu, hD.same sG, hd.same sG, .inr (.inr ⟨m, n, hN, rfl, hno, fun Gk sk => ?_⟩)⟩
          refine ⟨rfl, false, by rw [decide_eq_true rfl]; rfl, ?_⟩
          rw [if_neg (by decide)]
          exact ⟨sG.trans sk, _, rfl⟩
        · rintro σ G ⟨sG, t5, rfl⟩
          exact ⟨sG _ _ hS, _, _, _, _, _, _, _, _, _, _, _, _, _, _, _, _, _, rfl⟩

end
end Fm
end FLW2
section FFmAll02
set_option Elab.async false
set_option linter.all false
set_option maxRecDepth 100000
set_option maxHeartbeats 4000000
namespace Fm
open PySem PySem.Spec PyProof.Rows L2
theorem df_mk {K : PySem.W.Frag} {mg : Str → Option Value} {h : Heap} {x : Str} {st : Stmt} {ps : List Str} {f : Addr} (X : K.In h) (G : h.Ns mainGlobals mg) {oc : Value} {od an : Option Addr} {osl : Array (Option Value)} {kV doc pm cdv ct : Value}
    (a : PySem.W.nsIn K mainGlobals x = some (some (.ref f))) (l : K.lookup f = some ⟨oc, od, .func (PySem.W.fnOf x x (defArgs st) (defBody st) (defScope st) .none kV doc pm an cdv ct), osl⟩)
    (c : PySem.W.codeIn K cdv x = true) (k : PySem.W.keepIn K (.ref f) = true)
    (b : ∀ (kV doc pm : Value) (an : Option Addr) (cdv ct : Value) (us : List Value), us.length = ps.length → bindArgs (PySem.W.fnOf x x (defArgs st) (defBody st) (defScope st) .none kV doc pm an cdv ct) ⟨us, []⟩ = pure (ps.zip us)) : Df K mg x st ps :=
  ⟨f, _, fun_mk l c k, PySem.W.mg_of X G a, (fun_mk l c k).binds b⟩
abbrev DfOf {K : PySem.W.Frag} {h : Heap} (_ : K.In h) (mg : Str → Option Value) (x : Str) (st : Stmt) (ps : List Str) : Prop := Df K mg x st ps
theorem law_mk {P : Program} {w : World} {K : PySem.W.Frag} {h : Heap} {mg : Str → Option Value} {fa f : Addr} (X : K.In h) (G : h.Ns mainGlobals mg) (hfa : mg "law" = some (.ref fa)) {oc : Value} {od an : Option Addr} {osl : Array (Option Value)} {kV doc pm cdv ct : Value}
    (a : PySem.W.nsIn K mainGlobals "law" = some (some (.ref f))) (l : K.lookup f = some ⟨oc, od, .func (PySem.W.fnOf "law" "law" (defArgs s_law) (defBody s_law) (defScope s_law) .none kV doc pm an cdv ct), osl⟩)
    (c : PySem.W.codeIn K cdv "law" = true) (k : PySem.W.keepIn K (.ref f) = true) (T : Nms mg) (n_ValueError : mg "ValueError" = none)
    (Ds_is_whole : Df K mg "is_whole" s_is_whole ["thing"])
    (Ds_is_up_to : Df K mg "is_up_to" s_is_up_to ["thing", "most"])
    (Ds_is_tuple_of : Df K mg "is_tuple_of" s_is_tuple_of ["thing", "many"])
    (Ds_are_up_to : Df K mg "are_up_to" s_are_up_to ["thing", "many", "most"])
    (Ds_is_table : Df K mg "is_table" s_is_table ["thing", "m"])
    (Ds_is_house : Df K mg "is_house" s_is_house ["thing"])
    (Ds_size : Df K mg "size" s_size ["house"])
    (Ds_has_form : Df K mg "has_form" s_has_form ["thing", "m", "floors", "most"])
    (Ds_check_standing : Df K mg "check_standing" s_check_standing ["house", "standing"])
    (Ds_meetings : Df K mg "meetings" s_meetings ["house", "standing"])
    (Ds_behind : Df K mg "behind" s_behind ["house", "standing", "meeting"])
    (Ds_is_rest : Df K mg "is_rest" s_is_rest ["house", "standing"])
    (Ds_how_long : Df K mg "how_long" s_how_long ["house", "standing"])
    (Ds_who_rests : Df K mg "who_rests" s_who_rests ["house", "standing"])
    (Ds_added : Df K mg "added" s_added ["counts", "more"])
    (Ds_together : Df K mg "together" s_together ["house", "one", "other"])
    (Ds_standing_of : Df K mg "standing_of" s_standing_of ["house", "company"])
    (Ds_is_standing : Df K mg "is_standing" s_is_standing ["house", "thing"])
    (Ds_law_bag : Df K mg "_law_bag" s_law_bag ["cell"])
    (Ds_law_pick : Df K mg "_law_pick" s_law_pick ["bag", "many"])
    (Ds_law_table : Df K mg "_law_table" s_law_table ["bag", "m"])
    (Ds_law_up : Df K mg "_law_up" s_law_up ["bag", "m", "stay"])
    (Ds_law_house : Df K mg "_law_house" s_law_house ["bag"])
    (Ds_law_standing : Df K mg "_law_standing" s_law_standing ["bag", "house", "many"])
    (Ds_law_counts : Df K mg "_law_counts" s_law_counts ["bag", "m"])
    (Ds_law_great : Df K mg "_law_great" s_law_great ["bag", "house"])
    (Ds_law_others : Df K mg "_law_others" s_law_others ["bag", "house", "standing"])
    (Ds_law_is_count : Df K mg "_law_is_count" s_law_is_count ["thing"])
    (Ds_law_due : Df K mg "_law_due" s_law_due ["house", "thing"])
    (Ds_law_nobody : Df K mg "_law_nobody" s_law_nobody ["house"])
    (Ds_law_kind : Df K mg "_law_kind" s_law_kind ["way", "house", "thing"])
    {tF tN t18 : Tok} (c_MOST_FLOORS : mg "MOST_FLOORS" = some (.int 4 tF)) (c_MOST_NUMBERS : mg "MOST_NUMBERS" = some (.int 6 tN)) (c_MOST_COUNT : mg "MOST_COUNT" = some (.int 1000000000000000000 t18)) {C1 C2 C3 M : Addr} (EX1 : Exn K mg "NoHouse" C1 M) (EX2 : Exn K mg "NoStanding" C2 M) (EX3 : Exn K mg "NoCompany" C3 M) (g_MeetError : mg "MeetError" = some (.ref M))
    {a_Full a_NoFloor a_NoLog a_NoName a_NoNumber a_NoRow a_NoSeen a_NoState a_NoText a_NotFair a_Nothing a_NotLike a_NotSure a_Taken a_TooMany a_NoMeeting : Addr} (g_Full : mg "Full" = some (.ref a_Full)) (g_NoFloor : mg "NoFloor" = some (.ref a_NoFloor)) (g_NoLog : mg "NoLog" = some (.ref a_NoLog)) (g_NoName : mg "NoName" = some (.ref a_NoName)) (g_NoNumber : mg "NoNumber" = some (.ref a_NoNumber)) (g_NoRow : mg "NoRow" = some (.ref a_NoRow)) (g_NoSeen : mg "NoSeen" = some (.ref a_NoSeen)) (g_NoState : mg "NoState" = some (.ref a_NoState)) (g_NoText : mg "NoText" = some (.ref a_NoText)) (g_NotFair : mg "NotFair" = some (.ref a_NotFair)) (g_Nothing : mg "Nothing" = some (.ref a_Nothing)) (g_NotLike : mg "NotLike" = some (.ref a_NotLike)) (g_NotSure : mg "NotSure" = some (.ref a_NotSure)) (g_Taken : mg "Taken" = some (.ref a_Taken)) (g_TooMany : mg "TooMany" = some (.ref a_TooMany)) (g_NoMeeting : mg "NoMeeting" = some (.ref a_NoMeeting))
    (za1 : PySem.W.kitAny K (.ref C1) [.ref a_Full, .ref a_NoFloor, .ref a_NoLog, .ref a_NoName, .ref a_NoNumber, .ref a_NoRow, .ref a_NoSeen, .ref a_NoState, .ref a_NoText, .ref a_NotFair, .ref a_Nothing] = some false) (zb1 : PySem.W.kitAny K (.ref C1) [.ref a_NotLike, .ref a_NotSure, .ref a_Taken, .ref a_TooMany] = some false) (z11 : PySem.W.kitOne K (.ref C1) (.ref C1) = some true) (z12 : PySem.W.kitOne K (.ref C1) (.ref C2) = some false) (z13 : PySem.W.kitOne K (.ref C1) (.ref C3) = some false) (zm1 : PySem.W.kitOne K (.ref C1) (.ref a_NoMeeting) = some false) (zv1 : PySem.W.kitOne K (.ref C1) (.type "ValueError") = some true) (za2 : PySem.W.kitAny K (.ref C2) [.ref a_Full, .ref a_NoFloor, .ref a_NoLog, .ref a_NoName, .ref a_NoNumber, .ref a_NoRow, .ref a_NoSeen, .ref a_NoState, .ref a_NoText, .ref a_NotFair, .ref a_Nothing] = some false) (zb2 : PySem.W.kitAny K (.ref C2) [.ref a_NotLike, .ref a_NotSure, .ref a_Taken, .ref a_TooMany] = some false) (z21 : PySem.W.kitOne K (.ref C2) (.ref C1) = some false) (z22 : PySem.W.kitOne K (.ref C2) (.ref C2) = some true) (z23 : PySem.W.kitOne K (.ref C2) (.ref C3) = some false) (zm2 : PySem.W.kitOne K (.ref C2) (.ref a_NoMeeting) = some false) (zv2 : PySem.W.kitOne K (.ref C2) (.type "ValueError") = some true) (za3 : PySem.W.kitAny K (.ref C3) [.ref a_Full, .ref a_NoFloor, .ref a_NoLog, .ref a_NoName, .ref a_NoNumber, .ref a_NoRow, .ref a_NoSeen, .ref a_NoState, .ref a_NoText, .ref a_NotFair, .ref a_Nothing] = some false) (zb3 : PySem.W.kitAny K (.ref C3) [.ref a_NotLike, .ref a_NotSure, .ref a_Taken, .ref a_TooMany] = some false) (z31 : PySem.W.kitOne K (.ref C3) (.ref C1) = some false) (z32 : PySem.W.kitOne K (.ref C3) (.ref C2) = some false) (z33 : PySem.W.kitOne K (.ref C3) (.ref C3) = some true) (zm3 : PySem.W.kitOne K (.ref C3) (.ref a_NoMeeting) = some false) (zv3 : PySem.W.kitOne K (.ref C3) (.type "ValueError") = some true) :
    ∃ fd : FuncData, (∀ (s : Shared) (u : Value), BindsTo s fd ⟨[u], []⟩ [("script", u)]) ∧ ∀ base : Heap, K.In base → base.Ns mainGlobals mg → RunG P w K mg base 10 fa fd ["script"] (spLaw K) := by
  have e := hfa.symm.trans (PySem.W.mg_of X G a)
  cases e
  refine ⟨PySem.W.fnOf "law" "law" (defArgs s_law) (defBody s_law) (defScope s_law) .none kV doc pm an cdv ct, fun s v => .of_eq rfl, fun base _ _ => ?_⟩
  have c_is_whole := ok_is_whole (P := P) (w := w) (base := base) Ds_is_whole T
  have c_is_up_to := ok_is_up_to (P := P) (w := w) (base := base) Ds_is_up_to T c_is_whole
  have c_is_tuple_of := ok_is_tuple_of (P := P) (w := w) (base := base) Ds_is_tuple_of T
  have c_are_up_to := ok_are_up_to (P := P) (w := w) (base := base) Ds_are_up_to T c_is_tuple_of c_is_up_to
  have c_is_table := ok_is_table (P := P) (w := w) (base := base) Ds_is_table T c_is_tuple_of c_are_up_to
  have c_is_house := ok_is_house (P := P) (w := w) (base := base) Ds_is_house T c_MOST_FLOORS c_MOST_NUMBERS c_is_tuple_of c_is_table
  have c_size := ok_size (P := P) (w := w) (base := base) Ds_size T EX1 c_is_house
  have c_has_form := ok_has_form (P := P) (w := w) (base := base) Ds_has_form T c_is_tuple_of c_is_up_to c_are_up_to
  have cD_has_form := okD_has_form (P := P) (w := w) (base := base) Ds_has_form T c_is_tuple_of c_is_up_to c_are_up_to
  have cD_check_standing := okD_check_standing (P := P) (w := w) (base := base) Ds_check_standing T EX2 c_size cD_has_form
  have cD_meetings := okD_meetings (P := P) (w := w) (base := base) Ds_meetings cD_check_standing
  have cD_behind := okD_behind (P := P) (w := w) (base := base) Ds_behind cD_check_standing
  have cD_is_rest := okD_is_rest (P := P) (w := w) (base := base) Ds_is_rest cD_check_standing
  have cD_how_long := okD_how_long (P := P) (w := w) (base := base) Ds_how_long cD_check_standing
  have cD_who_rests := okD_who_rests (P := P) (w := w) (base := base) Ds_who_rests cD_check_standing
  have c_added := ok_added (P := P) (w := w) (base := base) Ds_added T
  have c_together := ok_together (P := P) (w := w) (base := base) Ds_together T EX2 c_size c_has_form c_added
  have cD_together := okD_together (P := P) (w := w) (base := base) Ds_together T EX2 c_size cD_has_form
  have cD_standing_of := okD_standing_of (P := P) (w := w) (base := base) Ds_standing_of T c_MOST_COUNT EX3 c_size c_are_up_to
  have cD_is_standing := okD_is_standing (P := P) (w := w) (base := base) Ds_is_standing c_MOST_COUNT c_size cD_has_form
  have c_law_bag := ok_law_bag (P := P) (w := w) (base := base) Ds_law_bag T
  have c_law_pick := ok_law_pick (P := P) (w := w) (base := base) Ds_law_pick T
  have c_law_table := ok_law_table (P := P) (w := w) (base := base) Ds_law_table T c_law_pick
  have c_law_up := ok_law_up (P := P) (w := w) (base := base) Ds_law_up T c_law_pick
  have c_law_house := ok_law_house (P := P) (w := w) (base := base) Ds_law_house T c_law_pick c_law_table c_law_up
  have c_law_standing := ok_law_standing (P := P) (w := w) (base := base) Ds_law_standing T c_law_pick
  have c_law_counts := ok_law_counts (P := P) (w := w) (base := base) Ds_law_counts T c_law_pick
  have c_law_great := ok_law_great (P := P) (w := w) (base := base) Ds_law_great T c_law_pick c_law_counts
  have c_law_others := ok_law_others (P := P) (w := w) (base := base) Ds_law_others T c_law_pick
  have c_law_is_count := ok_law_is_count (P := P) (w := w) (base := base) Ds_law_is_count T
  have c_law_due := ok_law_due (P := P) (w := w) (base := base) Ds_law_due T c_law_is_count
  have c_law_nobody := ok_law_nobody (P := P) (w := w) (base := base) Ds_law_nobody T
  have c_law_kind := ok_law_kind (P := P) (w := w) (base := base) Ds_law_kind T n_ValueError EX1 EX2 EX3 g_MeetError g_Full g_NoFloor g_NoLog g_NoName g_NoNumber g_NoRow g_NoSeen g_NoState g_NoText g_NotFair g_Nothing g_NotLike g_NotSure g_Taken g_TooMany g_NoMeeting za1 zb1 z11 z12 z13 zm1 zv1 za2 zb2 z21 z22 z23 zm2 zv2 za3 zb3 z31 z32 z33 zm3 zv3 cD_meetings cD_behind cD_is_rest cD_how_long cD_who_rests cD_together cD_standing_of cD_is_standing c_law_nobody
  exact ok_law (fun_mk l c k) T c_law_bag c_law_pick c_law_house c_law_standing c_law_great c_law_others c_law_due c_law_counts c_law_kind cD_is_standing c_together cD_standing_of
end Fm
end FFmAll02
open PySem PySem.W PyProof.Rows
set_option maxRecDepth 100000 in
set_option maxHeartbeats 0 in
theorem PySem.Challenge.cw_floormeet_k02_what_a_standing_is_holds : PySem.Challenge.rw_floormeet_k02_what_a_standing_is.Holds := by
  w_on; o_law; k_head; (case hw => w_witness2)
  k_fill
  refine Fm.walk_g (l := PySem.Challenge.rw_floormeet_k02_what_a_standing_is) (n := 63) (k := 10) (x := "script") (sp := Fm.spLaw) rfl (by decide) rfl ⟨rfl, by decide, by decide⟩ (fun w h Y => PySem.W.kIn_of Y) ?F ?S
  case S =>
    exact fun K H a ns hl hS _ => ⟨a, ns, rfl, Nat.le_trans (Nat.succ_le_succ hl) (by decide), hS, fun _ => rfl⟩
  case F =>
    intro w mg fa h KX G hmg
    have n_len : mg "len" = none := by
      refine PySem.W.mg_none_of KX G ?z
      (case z => k_is)
    have n_range : mg "range" = none := by
      refine PySem.W.mg_none_of KX G ?z
      (case z => k_is)
    have n_min : mg "min" = none := by
      refine PySem.W.mg_none_of KX G ?z
      (case z => k_is)
    have n_max : mg "max" = none := by
      refine PySem.W.mg_none_of KX G ?z
      (case z => k_is)
    have n_tuple : mg "tuple" = none := by
      refine PySem.W.mg_none_of KX G ?z
      (case z => k_is)
    have n_list : mg "list" = none := by
      refine PySem.W.mg_none_of KX G ?z
      (case z => k_is)
    have n_isinstance : mg "isinstance" = none := by
      refine PySem.W.mg_none_of KX G ?z
      (case z => k_is)
    have n_repr : mg "repr" = none := by
      refine PySem.W.mg_none_of KX G ?z
      (case z => k_is)
    have n_int : mg "int" = none := by
      refine PySem.W.mg_none_of KX G ?z
      (case z => k_is)
    have n_bool : mg "bool" = none := by
      refine PySem.W.mg_none_of KX G ?z
      (case z => k_is)
    have n_sum : mg "sum" = none := by
      refine PySem.W.mg_none_of KX G ?z
      (case z => k_is)
    have n_str : mg "str" = none := by
      refine PySem.W.mg_none_of KX G ?z
      (case z => k_is)
    have n_enumerate : mg "enumerate" = none := by
      refine PySem.W.mg_none_of KX G ?z
      (case z => k_is)
    have n_zip : mg "zip" = none := by
      refine PySem.W.mg_none_of KX G ?z
      (case z => k_is)
    have n_ValueError : mg "ValueError" = none := by
      refine PySem.W.mg_none_of KX G ?z
      (case z => k_is)
    have T : Fm.Nms mg := ⟨n_len, n_range, n_min, n_max, n_tuple, n_list, n_isinstance, n_repr, n_int, n_bool, n_sum, n_str, n_enumerate, n_zip⟩
    have Ds_is_whole : Fm.DfOf KX mg "is_whole" Fm.s_is_whole ["thing"] := by
      refine' Fm.df_mk KX G ?a ?l ?c ?k (fun _ _ _ _ _ _ us hl => match us, hl with | [_], _ => rfl)
      (case a => k_is); (case l => k_is); (case c => k_is); (case k => k_is)
    have Ds_is_up_to : Fm.DfOf KX mg "is_up_to" Fm.s_is_up_to ["thing", "most"] := by
      refine' Fm.df_mk KX G ?a ?l ?c ?k (fun _ _ _ _ _ _ us hl => match us, hl with | [_, _], _ => rfl)
      (case a => k_is); (case l => k_is); (case c => k_is); (case k => k_is)
    have Ds_is_tuple_of : Fm.DfOf KX mg "is_tuple_of" Fm.s_is_tuple_of ["thing", "many"] := by
      refine' Fm.df_mk KX G ?a ?l ?c ?k (fun _ _ _ _ _ _ us hl => match us, hl with | [_, _], _ => rfl)
      (case a => k_is); (case l => k_is); (case c => k_is); (case k => k_is)
    have Ds_are_up_to : Fm.DfOf KX mg "are_up_to" Fm.s_are_up_to ["thing", "many", "most"] := by
      refine' Fm.df_mk KX G ?a ?l ?c ?k (fun _ _ _ _ _ _ us hl => match us, hl with | [_, _, _], _ => rfl)
      (case a => k_is); (case l => k_is); (case c => k_is); (case k => k_is)
    have Ds_is_table : Fm.DfOf KX mg "is_table" Fm.s_is_table ["thing", "m"] := by
      refine' Fm.df_mk KX G ?a ?l ?c ?k (fun _ _ _ _ _ _ us hl => match us, hl with | [_, _], _ => rfl)
      (case a => k_is); (case l => k_is); (case c => k_is); (case k => k_is)
    have Ds_is_house : Fm.DfOf KX mg "is_house" Fm.s_is_house ["thing"] := by
      refine' Fm.df_mk KX G ?a ?l ?c ?k (fun _ _ _ _ _ _ us hl => match us, hl with | [_], _ => rfl)
      (case a => k_is); (case l => k_is); (case c => k_is); (case k => k_is)
    have Ds_size : Fm.DfOf KX mg "size" Fm.s_size ["house"] := by
      refine' Fm.df_mk KX G ?a ?l ?c ?k (fun _ _ _ _ _ _ us hl => match us, hl with | [_], _ => rfl)
      (case a => k_is); (case l => k_is); (case c => k_is); (case k => k_is)
    have Ds_has_form : Fm.DfOf KX mg "has_form" Fm.s_has_form ["thing", "m", "floors", "most"] := by
      refine' Fm.df_mk KX G ?a ?l ?c ?k (fun _ _ _ _ _ _ us hl => match us, hl with | [_, _, _, _], _ => rfl)
      (case a => k_is); (case l => k_is); (case c => k_is); (case k => k_is)
    have Ds_check_standing : Fm.DfOf KX mg "check_standing" Fm.s_check_standing ["house", "standing"] := by
      refine' Fm.df_mk KX G ?a ?l ?c ?k (fun _ _ _ _ _ _ us hl => match us, hl with | [_, _], _ => rfl)
      (case a => k_is); (case l => k_is); (case c => k_is); (case k => k_is)
    have Ds_meetings : Fm.DfOf KX mg "meetings" Fm.s_meetings ["house", "standing"] := by
      refine' Fm.df_mk KX G ?a ?l ?c ?k (fun _ _ _ _ _ _ us hl => match us, hl with | [_, _], _ => rfl)
      (case a => k_is); (case l => k_is); (case c => k_is); (case k => k_is)
    have Ds_behind : Fm.DfOf KX mg "behind" Fm.s_behind ["house", "standing", "meeting"] := by
      refine' Fm.df_mk KX G ?a ?l ?c ?k (fun _ _ _ _ _ _ us hl => match us, hl with | [_, _, _], _ => rfl)
      (case a => k_is); (case l => k_is); (case c => k_is); (case k => k_is)
    have Ds_is_rest : Fm.DfOf KX mg "is_rest" Fm.s_is_rest ["house", "standing"] := by
      refine' Fm.df_mk KX G ?a ?l ?c ?k (fun _ _ _ _ _ _ us hl => match us, hl with | [_, _], _ => rfl)
      (case a => k_is); (case l => k_is); (case c => k_is); (case k => k_is)
    have Ds_how_long : Fm.DfOf KX mg "how_long" Fm.s_how_long ["house", "standing"] := by
      refine' Fm.df_mk KX G ?a ?l ?c ?k (fun _ _ _ _ _ _ us hl => match us, hl with | [_, _], _ => rfl)
      (case a => k_is); (case l => k_is); (case c => k_is); (case k => k_is)
    have Ds_who_rests : Fm.DfOf KX mg "who_rests" Fm.s_who_rests ["house", "standing"] := by
      refine' Fm.df_mk KX G ?a ?l ?c ?k (fun _ _ _ _ _ _ us hl => match us, hl with | [_, _], _ => rfl)
      (case a => k_is); (case l => k_is); (case c => k_is); (case k => k_is)
    have Ds_added : Fm.DfOf KX mg "added" Fm.s_added ["counts", "more"] := by
      refine' Fm.df_mk KX G ?a ?l ?c ?k (fun _ _ _ _ _ _ us hl => match us, hl with | [_, _], _ => rfl)
      (case a => k_is); (case l => k_is); (case c => k_is); (case k => k_is)
    have Ds_together : Fm.DfOf KX mg "together" Fm.s_together ["house", "one", "other"] := by
      refine' Fm.df_mk KX G ?a ?l ?c ?k (fun _ _ _ _ _ _ us hl => match us, hl with | [_, _, _], _ => rfl)
      (case a => k_is); (case l => k_is); (case c => k_is); (case k => k_is)
    have Ds_standing_of : Fm.DfOf KX mg "standing_of" Fm.s_standing_of ["house", "company"] := by
      refine' Fm.df_mk KX G ?a ?l ?c ?k (fun _ _ _ _ _ _ us hl => match us, hl with | [_, _], _ => rfl)
      (case a => k_is); (case l => k_is); (case c => k_is); (case k => k_is)
    have Ds_is_standing : Fm.DfOf KX mg "is_standing" Fm.s_is_standing ["house", "thing"] := by
      refine' Fm.df_mk KX G ?a ?l ?c ?k (fun _ _ _ _ _ _ us hl => match us, hl with | [_, _], _ => rfl)
      (case a => k_is); (case l => k_is); (case c => k_is); (case k => k_is)
    have Ds_law_bag : Fm.DfOf KX mg "_law_bag" Fm.s_law_bag ["cell"] := by
      refine' Fm.df_mk KX G ?a ?l ?c ?k (fun _ _ _ _ _ _ us hl => match us, hl with | [_], _ => rfl)
      (case a => k_is); (case l => k_is); (case c => k_is); (case k => k_is)
    have Ds_law_pick : Fm.DfOf KX mg "_law_pick" Fm.s_law_pick ["bag", "many"] := by
      refine' Fm.df_mk KX G ?a ?l ?c ?k (fun _ _ _ _ _ _ us hl => match us, hl with | [_, _], _ => rfl)
      (case a => k_is); (case l => k_is); (case c => k_is); (case k => k_is)
    have Ds_law_table : Fm.DfOf KX mg "_law_table" Fm.s_law_table ["bag", "m"] := by
      refine' Fm.df_mk KX G ?a ?l ?c ?k (fun _ _ _ _ _ _ us hl => match us, hl with | [_, _], _ => rfl)
      (case a => k_is); (case l => k_is); (case c => k_is); (case k => k_is)
    have Ds_law_up : Fm.DfOf KX mg "_law_up" Fm.s_law_up ["bag", "m", "stay"] := by
      refine' Fm.df_mk KX G ?a ?l ?c ?k (fun _ _ _ _ _ _ us hl => match us, hl with | [_, _, _], _ => rfl)
      (case a => k_is); (case l => k_is); (case c => k_is); (case k => k_is)
    have Ds_law_house : Fm.DfOf KX mg "_law_house" Fm.s_law_house ["bag"] := by
      refine' Fm.df_mk KX G ?a ?l ?c ?k (fun _ _ _ _ _ _ us hl => match us, hl with | [_], _ => rfl)
      (case a => k_is); (case l => k_is); (case c => k_is); (case k => k_is)
    have Ds_law_standing : Fm.DfOf KX mg "_law_standing" Fm.s_law_standing ["bag", "house", "many"] := by
      refine' Fm.df_mk KX G ?a ?l ?c ?k (fun _ _ _ _ _ _ us hl => match us, hl with | [_, _, _], _ => rfl)
      (case a => k_is); (case l => k_is); (case c => k_is); (case k => k_is)
    have Ds_law_counts : Fm.DfOf KX mg "_law_counts" Fm.s_law_counts ["bag", "m"] := by
      refine' Fm.df_mk KX G ?a ?l ?c ?k (fun _ _ _ _ _ _ us hl => match us, hl with | [_, _], _ => rfl)
      (case a => k_is); (case l => k_is); (case c => k_is); (case k => k_is)
    have Ds_law_great : Fm.DfOf KX mg "_law_great" Fm.s_law_great ["bag", "house"] := by
      refine' Fm.df_mk KX G ?a ?l ?c ?k (fun _ _ _ _ _ _ us hl => match us, hl with | [_, _], _ => rfl)
      (case a => k_is); (case l => k_is); (case c => k_is); (case k => k_is)
    have Ds_law_others : Fm.DfOf KX mg "_law_others" Fm.s_law_others ["bag", "house", "standing"] := by
      refine' Fm.df_mk KX G ?a ?l ?c ?k (fun _ _ _ _ _ _ us hl => match us, hl with | [_, _, _], _ => rfl)
      (case a => k_is); (case l => k_is); (case c => k_is); (case k => k_is)
    have Ds_law_is_count : Fm.DfOf KX mg "_law_is_count" Fm.s_law_is_count ["thing"] := by
      refine' Fm.df_mk KX G ?a ?l ?c ?k (fun _ _ _ _ _ _ us hl => match us, hl with | [_], _ => rfl)
      (case a => k_is); (case l => k_is); (case c => k_is); (case k => k_is)
    have Ds_law_due : Fm.DfOf KX mg "_law_due" Fm.s_law_due ["house", "thing"] := by
      refine' Fm.df_mk KX G ?a ?l ?c ?k (fun _ _ _ _ _ _ us hl => match us, hl with | [_, _], _ => rfl)
      (case a => k_is); (case l => k_is); (case c => k_is); (case k => k_is)
    have Ds_law_nobody : Fm.DfOf KX mg "_law_nobody" Fm.s_law_nobody ["house"] := by
      refine' Fm.df_mk KX G ?a ?l ?c ?k (fun _ _ _ _ _ _ us hl => match us, hl with | [_], _ => rfl)
      (case a => k_is); (case l => k_is); (case c => k_is); (case k => k_is)
    have Ds_law_kind : Fm.DfOf KX mg "_law_kind" Fm.s_law_kind ["way", "house", "thing"] := by
      refine' Fm.df_mk KX G ?a ?l ?c ?k (fun _ _ _ _ _ _ us hl => match us, hl with | [_, _, _], _ => rfl)
      (case a => k_is); (case l => k_is); (case c => k_is); (case k => k_is)
    refine' Fm.law_mk KX G hmg ?a ?l ?c ?k T n_ValueError Ds_is_whole Ds_is_up_to Ds_is_tuple_of Ds_are_up_to Ds_is_table Ds_is_house Ds_size Ds_has_form Ds_check_standing Ds_meetings Ds_behind Ds_is_rest Ds_how_long Ds_who_rests Ds_added Ds_together Ds_standing_of Ds_is_standing Ds_law_bag Ds_law_pick Ds_law_table Ds_law_up Ds_law_house Ds_law_standing Ds_law_counts Ds_law_great Ds_law_others Ds_law_is_count Ds_law_due Ds_law_nobody Ds_law_kind (PySem.W.mg_of KX G ?mf) (PySem.W.mg_of KX G ?mn) (PySem.W.mg_of KX G ?mc) ⟨PySem.W.mg_of KX G ?xg, ?xe, ?xk, ?xb, ?xt, ⟨?xc1, ?xc2, ?xc3, ?xc4, ?xc5, ?xc6, ?xc7, ?xc8⟩, ?xm⟩ ⟨PySem.W.mg_of KX G ?yg, ?ye, ?yk, ?yb, ?yt, ⟨?yc1, ?yc2, ?yc3, ?yc4, ?yc5, ?yc6, ?yc7, ?yc8⟩, ?ym⟩ ⟨PySem.W.mg_of KX G ?ug, ?ue, ?uk, ?ub, ?ut, ⟨?uc1, ?uc2, ?uc3, ?uc4, ?uc5, ?uc6, ?uc7, ?uc8⟩, ?um⟩ (PySem.W.mg_of KX G ?me) (PySem.W.mg_of KX G ?ng0) (PySem.W.mg_of KX G ?ng1) (PySem.W.mg_of KX G ?ng2) (PySem.W.mg_of KX G ?ng3) (PySem.W.mg_of KX G ?ng4) (PySem.W.mg_of KX G ?ng5) (PySem.W.mg_of KX G ?ng6) (PySem.W.mg_of KX G ?ng7) (PySem.W.mg_of KX G ?ng8) (PySem.W.mg_of KX G ?ng9) (PySem.W.mg_of KX G ?ng10) (PySem.W.mg_of KX G ?ng11) (PySem.W.mg_of KX G ?ng12) (PySem.W.mg_of KX G ?ng13) (PySem.W.mg_of KX G ?ng14) (PySem.W.mg_of KX G ?ng15) ?q0 ?q1 ?q2 ?q3 ?q4 ?q5 ?q6 ?q7 ?q8 ?q9 ?q10 ?q11 ?q12 ?q13 ?q14 ?q15 ?q16 ?q17 ?q18 ?q19 ?q20
    (case a => k_is); (case l => k_is); (case c => k_is); (case k => k_is)
    (case mf => k_is); (case mn => k_is); (case mc => k_is); (case me => k_is)
    (case xg => k_is); (case xe => k_exc); (case xk => k_is); (case xb => k_is); (case xt => k_is)
    (case xc1 => k_is); (case xc2 => k_is); (case xc3 => k_is); (case xc4 => k_is); (case xc5 => k_is); (case xc6 => k_is); (case xc7 => k_is); (case xc8 => k_is)
    (case xm => first | rfl | k_is)
    (case yg => k_is); (case ye => k_exc); (case yk => k_is); (case yb => k_is); (case yt => k_is)
    (case yc1 => k_is); (case yc2 => k_is); (case yc3 => k_is); (case yc4 => k_is); (case yc5 => k_is); (case yc6 => k_is); (case yc7 => k_is); (case yc8 => k_is)
    (case ym => first | rfl | k_is)
    (case ug => k_is); (case ue => k_exc); (case uk => k_is); (case ub => k_is); (case ut => k_is)
    (case uc1 => k_is); (case uc2 => k_is); (case uc3 => k_is); (case uc4 => k_is); (case uc5 => k_is); (case uc6 => k_is); (case uc7 => k_is); (case uc8 => k_is)
    (case um => first | rfl | k_is)
    (case ng0 => k_is); (case ng1 => k_is); (case ng2 => k_is); (case ng3 => k_is); (case ng4 => k_is); (case ng5 => k_is); (case ng6 => k_is); (case ng7 => k_is); (case ng8 => k_is); (case ng9 => k_is); (case ng10 => k_is); (case ng11 => k_is); (case ng12 => k_is); (case ng13 => k_is); (case ng14 => k_is); (case ng15 => k_is)
    (case q0 => first | rfl | k_is); (case q1 => first | rfl | k_is); (case q2 => first | rfl | k_is); (case q3 => first | rfl | k_is); (case q4 => first | rfl | k_is); (case q5 => first | rfl | k_is); (case q6 => first | rfl | k_is); (case q7 => first | rfl | k_is); (case q8 => first | rfl | k_is); (case q9 => first | rfl | k_is); (case q10 => first | rfl | k_is); (case q11 => first | rfl | k_is); (case q12 => first | rfl | k_is); (case q13 => first | rfl | k_is); (case q14 => first | rfl | k_is); (case q15 => first | rfl | k_is); (case q16 => first | rfl | k_is); (case q17 => first | rfl | k_is); (case q18 => first | rfl | k_is); (case q19 => first | rfl | k_is); (case q20 => first | rfl | k_is)
