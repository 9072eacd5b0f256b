import PyProof.Rows.All
import Wide.All
import OpenK.AllK
import Wide.FinOn
import HandS.ForMost
import HandS.Wide
import HandS.IsInst
import HandS.TupAny
import HandS.TupMul
import HandS.TryOnly
import HandS.ExcOwn
import HandS.WordsExc
import HandS.RaiseMore
import HandS.Style
import PyProof.ReprRoads
import HandS.ExcValue
import HandS.ExcIs
import HandS.Ends
import PyProof.FactsAll.tuple_2
import KE.KRevSl
import KE.KTupSum
import KE.GoesEnum
import HandS.Zip
import HandS.Walk
import KE.GoesZip
import PyProof.Rows.RuleB_pow
import HandS.Conv
import PyProof.Rows.SeqMore
import HandS.More
import KE.KDictZip
import KE.KIndexOf
import HandS.Text
import PyProof.StrOps2
import PySem.Challenge.RW_floormeet_k21_far_ends
section FFmBase
set_option Elab.async false
set_option maxRecDepth 100000
namespace Fm
open PySem PySem.Spec PyProof.Rows L2
/-- a def of the top, by its name -/
structure Df (K : PySem.W.Frag) (mg : Str → Option Value) (x : Str) (st : Stmt) (ps : List Str) : Prop where
  ex : ∃ f fd, Fun K x x st f fd ∧ mg x = some (.ref f) ∧ Binds K fd ps []
/-- a def that keeps a promise, as whoever calls it wants it -/
def CallOk (P : Program) (w : World) (K : PySem.W.Frag) (mg : Str → Option Value) (base : Heap) (CX : CXT) (k : Nat) (x : Str) (ps : List Str) (sp : Sp) : Prop :=
  ∃ f fd, FnOk P w K mg base CX k f fd ps sp ∧ mg x = some (.ref f) ∧ PySem.W.keepIn K (.ref f) = true ∧ Binds K fd ps []
/-- the built-in names that stand for themselves -/
structure Nms (mg : Str → Option Value) : Prop where
  n_len : mg "len" = none
  n_range : mg "range" = none
  n_min : mg "min" = none
  n_max : mg "max" = none
  n_tuple : mg "tuple" = none
  n_list : mg "list" = none
  n_isinstance : mg "isinstance" = none
  n_repr : mg "repr" = none
  n_int : mg "int" = none
  n_bool : mg "bool" = none
  n_sum : mg "sum" = none
  n_str : mg "str" = none
  n_enumerate : mg "enumerate" = none
  n_zip : mg "zip" = none
section
variable {P : Program} {w : World} {K : PySem.W.Frag} {mg : Str → Option Value} {base : Heap}
theorem df_ok {x : Str} {st : Stmt} {N ps : List Str} {k : Nat} {sp : Sp} (D : Df K mg x st ps) (S : FnScope N ps (defScope st)) (hl : ∀ vs H Q E, sp vs H Q E → vs.length = ps.length)
    (b : ∀ (f : Addr) (cdv : Value) (A : Around) (outer : List Env) (s : Shared) (H : Hp) (vs : List V) (Q : VK) (E : XK), Room k (A.deeper (envOfC x (defScope st) s.heap.objs.size f cdv)) → sp vs H Q E →
      ∃ t, PSs (cxOf CX0 P w K mg base N x (defScope st) f cdv A outer s H E).nox (defBody st) t ∧ t { nx := fun _ H' => Q .non H', rt := Q } (start N vs) H) :
    CallOk P w K mg base CX0 (k + 1) x ps sp := by
  obtain ⟨f, fd, F, hm, hb⟩ := D.ex
  exact ⟨f, fd, F.ok S hl (b f), hm, F.kp, hb⟩
theorem df_okX {x : Str} {st : Stmt} {N ps : List Str} {k : Nat} {sp : Sp} (D : Df K mg x st ps) (S : FnScope N ps (defScope st)) (hl : ∀ vs H Q E, sp vs H Q E → vs.length = ps.length)
    (b : ∀ (f : Addr) (cdv : Value) (A : Around) (outer : List Env) (s : Shared) (H : Hp) (vs : List V) (Q : VK) (E : XK), Room k (A.deeper (envOfC x (defScope st) s.heap.objs.size f cdv)) → sp vs H Q E →
      ∃ t, PSs (cxOf (L2.CX P w) P w K mg base N x (defScope st) f cdv A outer s H E) (defBody st) t ∧ t { nx := fun _ H' => Q .non H', rt := Q } (start N vs) H) :
    CallOk P w K mg base (L2.CX P w) (k + 1) x ps sp := by
  obtain ⟨f, fd, F, hm, hb⟩ := D.ex
  exact ⟨f, fd, F.okX S hl (b f), hm, F.kp, hb⟩
theorem CallOk.mono {CX : CXT} {i k : Nat} {x : Str} {ps : List Str} {sp : Sp} (c : CallOk P w K mg base CX i x ps sp) (h : i ≤ k) : CallOk P w K mg base CX k x ps sp := by
  obtain ⟨f, fd, F, r⟩ := c
  exact ⟨f, fd, F.mono h, r⟩
theorem CallOk.imp {CX : CXT} {k : Nat} {x : Str} {ps : List Str} {sp sq : Sp} (c : CallOk P w K mg base CX k x ps sp) (h : ∀ vs H Q E, sq vs H Q E → sp vs H Q E) : CallOk P w K mg base CX k x ps sq := by
  obtain ⟨f, fd, F, r⟩ := c
  exact ⟨f, fd, F.imp h, r⟩
end
section
variable {X : Cx} {k : Nat} {x : Str} {ps : List Str} {sp : Sp} {p pos : Pos} {e : Expr} {es : List Expr} {t : TA} {E : XK}
theorem pe_cc (c : CallOk X.prog X.w X.K X.mg X.base CX0 k x ps sp) (hr : Room k X.A) (ha : PA X (e :: es) t) (hg : Gl X x := by rfl) (hd : (x == ("__debug__" : Str)) = false := by decide)
    (he : starEach (e :: es) X.env = (false, eval e X.env) :: starEach es X.env := by rfl) (hp : (backTo pos (starEach es X.env)).any (·.1) = false := by rfl) :
    PE X (.Call (.Name x p) (e :: es) [] pos) (tCall sp [] E0 t) := by
  obtain ⟨f, fd, F, hm, hk, hb⟩ := c
  exact pe_call F hr hg hm hk hb .nil pass0 ha hd he hp
/-- of a def that may raise, where it doesn't -/
theorem pe_cx (c : CallOk X.prog X.w X.K X.mg X.base (L2.CX X.prog X.w) k x ps sp) (hr : Room k X.A) (ha : PA X (e :: es) t) (hg : Gl X x := by rfl) (hd : (x == ("__debug__" : Str)) = false := by decide)
    (he : starEach (e :: es) X.env = (false, eval e X.env) :: starEach es X.env := by rfl) (hp : (backTo pos (starEach es X.env)).any (·.1) = false := by rfl) :
    PE X (.Call (.Name x p) (e :: es) [] pos) (tCall sp [] E0 t) := by
  obtain ⟨f, fd, F, hm, hk, hb⟩ := c
  exact pe_call F hr hg hm hk hb .nil passL ha hd he hp
/-- a call that may raise, under a wish -/
theorem pe_cs {W : WX} (c : CallOk X.prog X.w X.K X.mg X.base (L2.CX X.prog X.w) k x ps sp) (tk : Takes X W) (hr : Room k X.A) (ha : PA X (e :: es) t) (hg : Gl X x := by rfl) (hd : (x == ("__debug__" : Str)) = false := by decide)
    (he : starEach (e :: es) X.env = (false, eval e X.env) :: starEach es X.env := by rfl) (hp : (backTo pos (starEach es X.env)).any (·.1) = false := by rfl) :
    PE X (.Call (.Name x p) (e :: es) [] pos) (tCallS sp (fun σ => WE W σ) t) := by
  obtain ⟨f, fd, F, hm, hk, hb⟩ := c
  exact pe_callS F hr hg hm hk hb (fun σ => passAt tk σ) ha hd he hp
end
/-- all that was tracked but p is as it was -/
def Ext (p : Addr) (H H' : Hp) : Prop := ∀ b o, H b = some o → b ≠ p → H' b = some o
theorem Ext.refl (p : Addr) (H : Hp) : Ext p H H := fun _ _ h _ => h
theorem Ext.trans {p : Addr} {H H1 H2 : Hp} (a : Ext p H H1) (b : Ext p H1 H2) : Ext p H H2 := fun c o h n => b c o (a c o h n) n
theorem Same.ext {H H' : Hp} (s : Same H H') (p : Addr) : Ext p H H' := fun b o h _ => s b o h
theorem same_new {H : Hp} {q : Addr} {o : HO} (h : H q = none) : Same H (upd H q o) := fun b u e => by
  rw [upd_ne (ne_of_none e h)]
  exact e
theorem ext_at {H : Hp} {p : Addr} {o : HO} : Ext p H (upd H p o) := fun b u e n => by
  rw [upd_ne n]
  exact e
/-- the bag of draws at p -/
def Bag (H : Hp) (p : Addr) : Prop := ∃ x y c : Int, H p = some (.lst [.int x, .int y, .int c])
def spPick : Sp := fun vs H Q _ => ∃ (p : Addr) (m : Int), vs = [.ref p, .int m] ∧ 0 < m ∧ m.natAbs.log2 < 9000 ∧ Bag H p ∧ ∀ (k : Int) (H' : Hp), 0 ≤ k → k < m → Bag H' p → Ext p H H' → Q (.int k) H'
def spBag : Sp := fun vs H Q _ => ∃ c : Int, vs = [.int c] ∧ ∀ (p : Addr) (H' : Hp), H p = none → Bag H' p → Same H H' → Q (.ref p) H'
end Fm
end FFmBase
section FFmDat
set_option Elab.async false
set_option maxRecDepth 100000
namespace Fm
open PySem PySem.Spec PyProof.Rows L2
/-- the data that a value stands for: tuples, lists, the empty dict, flat things; no list or dict of it stands at p -/
inductive Dat (H : Hp) (p : Addr) : V → PyData → Prop
  | non : Dat H p .non .none
  | bl (b : Bool) : Dat H p (.bl b) (.bool b)
  | int (i : Int) : Dat H p (.int i) (.int i)
  | str (x : Str) : Dat H p (.str x) (.str x)
  | tup {a : Addr} {xs : List V} {ds : List PyData} : H a = some (.tup xs) → a ≠ p → xs.length = ds.length → (∀ (i : Nat) (x : V) (d : PyData), xs[i]? = some x → ds[i]? = some d → Dat H p x d) → Dat H p (.ref a) (.tuple ds)
  | lst {a : Addr} {xs : List V} {ds : List PyData} : H a = some (.lst xs) → a ≠ p → xs.length = ds.length → (∀ (i : Nat) (x : V) (d : PyData), xs[i]? = some x → ds[i]? = some d → Dat H p x d) → Dat H p (.ref a) (.list ds)
  | dct {a : Addr} : H a = some (.dK []) → a ≠ p → Dat H p (.ref a) (.dict [])
theorem Dat.ext {H H' : Hp} {p : Addr} {v : V} {d : PyData} (e : Ext p H H') (h : Dat H p v d) : Dat H' p v d := by
  induction h with
  | non => exact .non
  | bl b => exact .bl b
  | int i => exact .int i
  | str x => exact .str x
  | tup h1 h2 h3 _ ih => exact .tup (e _ _ h1 h2) h2 h3 ih
  | lst h1 h2 h3 _ ih => exact .lst (e _ _ h1 h2) h2 h3 ih
  | dct h1 h2 => exact .dct (e _ _ h1 h2) h2
theorem Dat.same {H H' : Hp} {p : Addr} {v : V} {d : PyData} (e : Same H H') (h : Dat H p v d) : Dat H' p v d := h.ext (Same.ext e p)
/-- rows of data -/
abbrev Dats (H : Hp) (p : Addr) (xs : List V) (ds : List PyData) : Prop := xs.length = ds.length ∧ ∀ (i : Nat) (x : V) (d : PyData), xs[i]? = some x → ds[i]? = some d → Dat H p x d
theorem Dats.ext {H H' : Hp} {p : Addr} {xs : List V} {ds : List PyData} (e : Ext p H H') (h : Dats H p xs ds) : Dats H' p xs ds := ⟨h.1, fun i x d a b => (h.2 i x d a b).ext e⟩
theorem Dats.nil {H : Hp} {p : Addr} : Dats H p [] [] := ⟨rfl, fun _ _ _ a _ => by simp at a⟩
theorem Dats.snoc {H : Hp} {p : Addr} {xs : List V} {ds : List PyData} {v : V} {d : PyData} (h : Dats H p xs ds) (k : Dat H p v d) : Dats H p (xs ++ [v]) (ds ++ [d]) := by
  refine ⟨by simp [h.1], fun i x e a b => ?_⟩
  by_cases hi : i < xs.length
  · rw [List.getElem?_append_left hi] at a
    rw [List.getElem?_append_left (by rw [← h.1]; exact hi)] at b
    exact h.2 i x e a b
  · rw [List.getElem?_append_right (by omega)] at a
    rw [List.getElem?_append_right (by rw [← h.1]; omega)] at b
    rw [h.1] at a
    cases e0 : i - ds.length with
    | zero =>
      rw [e0] at a b
      simp at a b
      subst a b
      exact k
    | succ j =>
      rw [e0] at a
      simp at a
theorem Dats.cons {H : Hp} {p : Addr} {xs : List V} {ds : List PyData} {v : V} {d : PyData} (k : Dat H p v d) (h : Dats H p xs ds) : Dats H p (v :: xs) (d :: ds) := by
  refine ⟨by simp [h.1], fun i x e a b => ?_⟩
  cases i with
  | zero =>
    simp at a b
    subst a b
    exact k
  | succ j =>
    simp at a b
    exact h.2 j x e a b
theorem Dats.ints {H : Hp} {p : Addr} (ns : List Int) : Dats H p (ns.map V.int) (ns.map PyData.int) := by
  refine ⟨by simp, fun i x d a b => ?_⟩
  rw [List.getElem?_map] at a b
  cases e : ns[i]? with
  | none => rw [e] at a; cases a
  | some n =>
    rw [e] at a b
    simp at a b
    subst a b
    exact .int n
theorem Dats.at {H : Hp} {p : Addr} {xs : List V} {ds : List PyData} (h : Dats H p xs ds) {i : Nat} {x : V} (e : xs[i]? = some x) : ∃ d, ds[i]? = some d ∧ Dat H p x d := by
  have hi : i < xs.length := (List.getElem?_eq_some_iff.mp e).1
  have hj : i < ds.length := by rw [← h.1]; exact hi
  exact ⟨ds[i], List.getElem?_eq_getElem hj, h.2 i x _ e (List.getElem?_eq_getElem hj)⟩
theorem Dats.back {H : Hp} {p : Addr} {xs : List V} {ds : List PyData} (h : Dats H p xs ds) {i : Nat} {d : PyData} (e : ds[i]? = some d) : ∃ x, xs[i]? = some x ∧ Dat H p x d := by
  have hi : i < ds.length := (List.getElem?_eq_some_iff.mp e).1
  have hj : i < xs.length := by rw [h.1]; exact hi
  exact ⟨xs[i], List.getElem?_eq_getElem hj, h.2 i _ d (List.getElem?_eq_getElem hj) e⟩
/-- a new tuple of data -/
theorem Dat.new {H : Hp} {p q : Addr} {xs : List V} {ds : List PyData} (hq : H q = none) (hp : q ≠ p) (h : Dats H p xs ds) : Dat (upd H q (.tup xs)) p (.ref q) (.tuple ds) :=
  .tup upd_same hp h.1 fun i x d a b => (h.2 i x d a b).same (same_new hq)
theorem Dat.newL {H : Hp} {p q : Addr} {xs : List V} {ds : List PyData} (hq : H q = none) (hp : q ≠ p) (h : Dats H p xs ds) : Dat (upd H q (.lst xs)) p (.ref q) (.list ds) :=
  .lst upd_same hp h.1 fun i x d a b => (h.2 i x d a b).same (same_new hq)
theorem Dat.isTup {H : Hp} {p : Addr} {v : V} {ds : List PyData} (h : Dat H p v (.tuple ds)) : ∃ a xs, v = .ref a ∧ H a = some (.tup xs) ∧ a ≠ p ∧ Dats H p xs ds := by
  cases h with
  | tup h1 h2 h3 h4 => exact ⟨_, _, rfl, h1, h2, h3, h4⟩
theorem Dat.isInt {H : Hp} {p : Addr} {v : V} {i : Int} (h : Dat H p v (.int i)) : v = .int i := by
  cases h with
  | int i => rfl
/-! ### types -/
def tyName : PyData → String
  | .none => "NoneType"
  | .bool _ => "bool"
  | .int _ => "int"
  | .str _ => "str"
  | .list _ => "list"
  | .tuple _ => "tuple"
  | .dict _ => "dict"
theorem Dat.ty {K : PySem.W.Frag} {H : Hp} {p : Addr} {v : V} {d : PyData} (h : Dat H p v d) : TyX K H v (.type (tyName d)) := by
  cases h with
  | non => exact .base .non
  | bl b => exact .base (.bl b)
  | int i => exact .base (.int i)
  | str x => exact .base (.str x)
  | tup h1 => exact .base (.tup h1)
  | lst h1 => exact .base (.lst h1)
  | dct h1 => exact .base (.dK h1)
def isI : PyData → Bool
  | .int _ => true
  | .bool _ => true
  | _ => false
def isB : PyData → Bool
  | .bool _ => true
  | _ => false
def isTu : PyData → Bool
  | .tuple _ => true
  | _ => false
theorem kit_int : ∀ d : PyData, kitB (tyName d) "int" = some (isI d)
  | .none => (by decide +kernel : kitB "NoneType" "int" = some false)
  | .bool _ => (by decide +kernel : kitB "bool" "int" = some true)
  | .int _ => (by decide +kernel : kitB "int" "int" = some true)
  | .str _ => (by decide +kernel : kitB "str" "int" = some false)
  | .list _ => (by decide +kernel : kitB "list" "int" = some false)
  | .tuple _ => (by decide +kernel : kitB "tuple" "int" = some false)
  | .dict _ => (by decide +kernel : kitB "dict" "int" = some false)
theorem kit_bool : ∀ d : PyData, kitB (tyName d) "bool" = some (isB d)
  | .none => (by decide +kernel : kitB "NoneType" "bool" = some false)
  | .bool _ => (by decide +kernel : kitB "bool" "bool" = some true)
  | .int _ => (by decide +kernel : kitB "int" "bool" = some false)
  | .str _ => (by decide +kernel : kitB "str" "bool" = some false)
  | .list _ => (by decide +kernel : kitB "list" "bool" = some false)
  | .tuple _ => (by decide +kernel : kitB "tuple" "bool" = some false)
  | .dict _ => (by decide +kernel : kitB "dict" "bool" = some false)
theorem kit_tuple : ∀ d : PyData, kitB (tyName d) "tuple" = some (isTu d)
  | .none => (by decide +kernel : kitB "NoneType" "tuple" = some false)
  | .bool _ => (by decide +kernel : kitB "bool" "tuple" = some false)
  | .int _ => (by decide +kernel : kitB "int" "tuple" = some false)
  | .str _ => (by decide +kernel : kitB "str" "tuple" = some false)
  | .list _ => (by decide +kernel : kitB "list" "tuple" = some false)
  | .tuple _ => (by decide +kernel : kitB "tuple" "tuple" = some true)
  | .dict _ => (by decide +kernel : kitB "dict" "tuple" = some false)
theorem isTu_iff {d : PyData} : isTu d = true ↔ ∃ ds, d = .tuple ds := by
  cases d <;> simp [isTu]
/-! ### texts -/
def noList : PyData → Bool
  | .list _ => false
  | .tuple xs => xs.attach.all fun ⟨x, _⟩ => noList x
  | _ => true
theorem noList_tup {ds : List PyData} (h : noList (.tuple ds) = true) : ∀ d ∈ ds, noList d = true := by
  intro d hd
  unfold noList at h
  rw [List.all_eq_true] at h
  exact h ⟨d, hd⟩ (List.mem_attach _ _)
theorem noList_of {ds : List PyData} (h : ∀ d ∈ ds, noList d = true) : noList (.tuple ds) = true := by
  unfold noList
  rw [List.all_eq_true]
  exact fun ⟨d, hd⟩ _ => h d hd
theorem readsAll_of {h : Heap} : ∀ {xs : List V} {us : List Value} {ds : List PyData}, Vals xs us → xs.length = ds.length →
    (∀ (i : Nat) (x : V) (d : PyData), xs[i]? = some x → ds[i]? = some d → ∀ u, RelV x u → ∃ as, Reads h u d as ∧ (noList d = true → sysModules ∉ as)) →
    ∃ as, ReadsAll h us ds as ∧ ((∀ d ∈ ds, noList d = true) → sysModules ∉ as)
  | [], _, ds, r, hl, _ => by
    cases r
    cases ds with
    | nil => exact ⟨[], .nil, fun _ => by simp⟩
    | cons d r => simp at hl
  | x :: xs, _, ds, r, hl, hr => by
    cases r with
    | cons r1 r2 =>
      cases ds with
      | nil => simp at hl
      | cons d ds =>
        obtain ⟨a1, h1, n1⟩ := hr 0 x d rfl rfl _ r1
        obtain ⟨a2, h2, n2⟩ := readsAll_of r2 (by simpa using hl) fun i y e q1 q2 => hr (i + 1) y e (by simpa using q1) (by simpa using q2)
        exact ⟨a1 ++ a2, .cons h1 h2, fun hn hm => by
          rcases List.mem_append.mp hm with hm | hm
          · exact n1 (hn d List.mem_cons_self) hm
          · exact n2 (fun e he => hn e (List.mem_cons_of_mem _ he)) hm⟩
theorem Dat.reads {X : Cx} {pins : List (Addr × Obj)} {σ : L2.St} {H : Hp} {s : Shared} {p : Addr} {v : V} {d : PyData} (I : Inv X pins σ H s) (h : Dat H p v d) :
    ∀ u, RelV v u → ∃ as, Reads s.heap u d as ∧ (noList d = true → sysModules ∉ as) := by
  induction h with
  | non => intro u r; cases r; exact ⟨[], .none, fun _ => by simp⟩
  | bl b => intro u r; cases r; exact ⟨[], .bool b, fun _ => by simp⟩
  | int i => intro u r; obtain ⟨t, rfl⟩ := r; exact ⟨[], .int i t, fun _ => by simp⟩
  | str x => intro u r; obtain ⟨t, rfl⟩ := r; exact ⟨[], .str x t, fun _ => by simp⟩
  | tup h1 h2 h3 _ ih =>
    intro u r
    cases r
    obtain ⟨its, rv, ⟨o, e, hc, n, hd⟩, _⟩ := I.tuple (SqT.of h1)
    obtain ⟨as, ha, hn⟩ := readsAll_of rv h3 ih
    exact ⟨as, .tuple e hc hd (by simpa using ha), fun z => hn (noList_tup z)⟩
  | lst h1 h2 h3 _ ih =>
    intro u r
    cases r
    obtain ⟨its, rv, ⟨o, n, e, hc, _, hd⟩, _⟩ := I.list (SqL.of h1)
    obtain ⟨as, ha, hn⟩ := readsAll_of rv h3 ih
    exact ⟨_, .list e hc hd (by simpa using ha), fun z => by unfold noList at z; cases z⟩
  | @dct a h1 h2 =>
    intro u r
    cases r
    obtain ⟨_, hs, vs, kv, o, es, ep, e, hx, hd, he⟩ := (show ObjOk X.prog X.w H s.heap a (.dK []) from I.hok a _ h1)
    cases kv
    have e0 : es.toList = [] := by
      have q := he.2.1
      cases z : es.toList with
      | nil => rfl
      | cons x r =>
        rw [z] at q
        exact absurd q (by intro w; cases w)
    refine ⟨_, .dict (as := []) (bs := []) e hx.1 hd (by rw [e0]; exact .nil) (by rw [e0]; exact .nil), fun _ hm => ?_⟩
    simp at hm
    rw [hm] at hs
    simp at hs
/-- a bound of what is shown -/
structure Fit (n k : Nat) (d : PyData) : Prop where
  len : d.shown.length ≤ n
  dep : d.depth ≤ k
  sh : d.showable = true
  ok : d.hasDict = false ∨ noList d = true
theorem fit_int {i : Int} (h : i.natAbs < 10 ^ 40) : Fit 41 0 (.int i) := by
  refine ⟨?_, ?_, ?_, ?_⟩
  · have q := int_text_length_le10 (a := i) (k := 40) (by decide) h
    simp only [PyData.shown]
    show (Str.ofString (toString i)).length ≤ 41
    rw [PySem.ofString_length]
    omega
  · simp only [PyData.depth]; omega
  · simp only [PyData.showable]
    have l : i.natAbs < 2 ^ 133 := Nat.lt_of_lt_of_le h (by decide)
    have l2 := PySem.Flt.log2_lt_of (by decide : 0 < 133) l
    exact decide_eq_true (by omega)
  · exact .inl (by simp only [PyData.hasDict])
theorem fit_bool (b : Bool) : Fit 5 0 (.bool b) := by
  refine ⟨?_, ?_, ?_, ?_⟩
  · simp only [PyData.shown]
    cases b <;> decide
  · simp only [PyData.depth]; omega
  · simp only [PyData.showable]
  · exact .inl (by simp only [PyData.hasDict])
theorem fit_none : Fit 5 0 .none := by
  refine ⟨?_, ?_, ?_, ?_⟩
  · simp only [PyData.shown]
    decide
  · simp only [PyData.depth]; omega
  · simp only [PyData.showable]
  · exact .inl (by simp only [PyData.hasDict])
theorem fit_str {x : Str} (h : (reprText x).length ≤ 41) : Fit 41 0 (.str x) := by
  refine ⟨?_, ?_, ?_, ?_⟩
  · simpa only [PyData.shown] using h
  · simp only [PyData.depth]; omega
  · simp only [PyData.showable]
  · exact .inl (by simp only [PyData.hasDict])
theorem Fit.mono {n k n' k' : Nat} {d : PyData} (F : Fit n k d) (h : n ≤ n') (h' : k ≤ k') : Fit n' k' d := ⟨Nat.le_trans F.len h, Nat.le_trans F.dep h', F.sh, F.ok⟩
theorem all_fit {n k : Nat} : ∀ {ds : List PyData}, (∀ d ∈ ds, Fit n k d) → piled (PyData.shownAll ds) ≤ (n + 2) * ds.length ∧ PyData.depthAll ds ≤ k ∧ PyData.showableAll ds = true ∧ (PyData.shownAll ds).length = ds.length
  | [], _ => by simp [PyData.shownAll, PyData.depthAll, PyData.showableAll, piled]
  | d :: r, h => by
    obtain ⟨h1, h2, h3, h4⟩ := all_fit fun e he => h e (List.mem_cons_of_mem _ he)
    have F := h d List.mem_cons_self
    have l := F.len
    have e := F.dep
    refine ⟨?_, ?_, ?_, ?_⟩
    · simp only [PyData.shownAll, piled_cons, List.length_cons]
      rw [Nat.mul_add]
      omega
    · simp only [PyData.depthAll]
      omega
    · simp only [PyData.showableAll, F.sh, h3, Bool.and_self]
    · simp only [PyData.shownAll, List.length_cons, h4]
theorem hasDict_all : ∀ {ds : List PyData}, (∀ d ∈ ds, d.hasDict = false) → PyData.hasDictAll ds = false
  | [], _ => by simp only [PyData.hasDictAll]
  | d :: r, h => by
    simp only [PyData.hasDictAll, h d List.mem_cons_self, hasDict_all fun e he => h e (List.mem_cons_of_mem _ he), Bool.or_self]
theorem tupleText_len (ts : List Str) : (tupleText ts).length ≤ piled ts + 3 := by
  unfold tupleText
  rw [strLen_append, strLen_append]
  have e : (Str.ofString (if ts.length == 1 then ",)" else ")" : String)).length ≤ 2 := by split <;> decide
  have e1 : ("(" : Str).length = 1 := rfl
  by_cases h : ts = []
  · subst h
    have : (Str.join ", " []).length = 0 := rfl
    omega
  · have := join_length_add ts h
    omega
theorem listText_len (ts : List Str) : (listText ts).length ≤ piled ts + 3 := by
  cases ts with
  | nil => decide
  | cons t r =>
    have h := textFrom_length_pos r 1 (("[" : Str) ++ (if (0 : Nat) > 0 then ", " else "" : String) ++ t) (Nat.succ_pos 0)
    have e : (("[" : Str) ++ (if (0 : Nat) > 0 then ", " else "" : String) ++ t).length = 1 + t.length := by rw [strLen_append, strLen_append]; rfl
    show (textFrom 1 (("[" : Str) ++ (if (0 : Nat) > 0 then ", " else "" : String) ++ t) r ++ "]").length ≤ _
    rw [strLen_append, h, e, piled_cons]
    have e2 : ("]" : Str).length = 1 := rfl
    omega
theorem fit_tup {n k : Nat} {ds : List PyData} (h : ∀ d ∈ ds, Fit n k d) (hn : ∀ d ∈ ds, noList d = true) : Fit ((n + 2) * ds.length + 3) (k + 1) (.tuple ds) := by
  obtain ⟨h1, h2, h3, h4⟩ := all_fit h
  refine ⟨?_, ?_, ?_, ?_⟩
  · simp only [PyData.shown]
    exact Nat.le_trans (tupleText_len _) (by omega)
  · simp only [PyData.depth]; omega
  · simpa only [PyData.showable] using h3
  · exact .inr (noList_of hn)
/-- tuples and lists without a dict -/
theorem fit_tupD {n k : Nat} {ds : List PyData} (h : ∀ d ∈ ds, Fit n k d) (hn : ∀ d ∈ ds, d.hasDict = false) : Fit ((n + 2) * ds.length + 3) (k + 1) (.tuple ds) := by
  obtain ⟨h1, h2, h3, h4⟩ := all_fit h
  refine ⟨?_, ?_, ?_, ?_⟩
  · simp only [PyData.shown]
    exact Nat.le_trans (tupleText_len _) (by omega)
  · simp only [PyData.depth]; omega
  · simpa only [PyData.showable] using h3
  · exact .inl (by simp only [PyData.hasDict]; exact hasDict_all hn)
theorem fit_lst {n k : Nat} {ds : List PyData} (h : ∀ d ∈ ds, Fit n k d) (hn : ∀ d ∈ ds, d.hasDict = false) : Fit ((n + 2) * ds.length + 3) (k + 1) (.list ds) := by
  obtain ⟨h1, h2, h3, h4⟩ := all_fit h
  refine ⟨?_, ?_, ?_, ?_⟩
  · simp only [PyData.shown]
    exact Nat.le_trans (listText_len _) (by omega)
  · simp only [PyData.depth]; omega
  · simpa only [PyData.showable] using h3
  · exact .inl (by simp only [PyData.hasDict]; exact hasDict_all hn)
theorem call_repr {X : Cx} (hg : X.A.guards = some []) (hu : X.A.units + 64 < cLine) : CallR X (.builtin "repr") (fun xs H Q => ∃ (v : V) (p : Addr) (d : PyData) (n k : Nat), xs = [v] ∧ Dat H p v d ∧ Fit n k d ∧ n ≤ sizeLine ∧ k ≤ 60 ∧ Q (.str d.shown) H) := by
  intro pins s σ H xs us Q I r h
  obtain ⟨v, p, d, n, k, rfl, hd, F, hn, hk, q⟩ := h
  obtain ⟨u, rfl, ru⟩ := vals1 r
  obtain ⟨as, R, hm⟩ := hd.reads I u ru
  have hz : d.shown.length ≤ sizeLine := Nat.le_trans F.len hn
  have fin : ∀ tk t, EP X pins σ Q (.str d.shown t) { s with toks := tk } := fun tk t => ⟨.str d.shown, H, I.tok tk, ⟨t, rfl⟩, q⟩
  cases hd with
  | non => cases ru; exact PySem.P.repr_of_none (by simpa only [PyData.shown] using fin _ _)
  | bl b => cases ru; exact PySem.P.repr_of_bool (by simpa only [PyData.shown] using fin _ _)
  | int i => obtain ⟨t, rfl⟩ := ru; exact PySem.P.repr_of_int (by simpa only [PyData.showable, decide_eq_true_eq] using F.sh) (by simpa only [PyData.shown] using fin _ _)
  | str x => obtain ⟨t, rfl⟩ := ru; exact PySem.P.repr_of_str (by simpa only [PyData.shown] using fin _ _) (by simpa only [PyData.shown] using hz)
  | tup h1 h2 h3 h4 =>
    cases ru
    exact repr_of_reads' R F.sh (fun hd => hm (F.ok.resolve_left (by rw [hd]; exact Bool.noConfusion))) hg (by have := F.dep; omega) (fun _ _ e => e) (fun h' u tk hk' => ⟨.str _, H, I.kept (t' := tk) hk', ⟨u, rfl⟩, q⟩) hz
  | lst h1 h2 h3 h4 =>
    cases ru
    exact repr_of_reads' R F.sh (fun hd => hm (F.ok.resolve_left (by rw [hd]; exact Bool.noConfusion))) hg (by have := F.dep; omega) (fun _ _ e => e) (fun h' u tk hk' => ⟨.str _, H, I.kept (t' := tk) hk', ⟨u, rfl⟩, q⟩) hz
  | dct h1 h2 =>
    cases ru
    exact repr_of_reads' R F.sh (fun hd => hm (F.ok.resolve_left (by rw [hd]; exact Bool.noConfusion))) hg (by have := F.dep; omega) (fun _ _ e => e) (fun h' u tk hk' => ⟨.str _, H, I.kept (t' := tk) hk', ⟨u, rfl⟩, q⟩) hz
end Fm
end FFmDat
section FFmLoop
set_option Elab.async false
set_option maxRecDepth 100000
namespace Fm
open PySem PySem.Spec PyProof.Rows L2
/-- a loop over what J yields -/
def ForB (J : It) (g : TG) (tb : TS) (D : Ends) (σ : L2.St) (H : Hp) : Prop := ∃ W : Nat → Nat → L2.St → Hp → Prop, (∃ m, W 0 m σ H) ∧ ∀ i m σ H, W i m σ H →
  (J.stop i H ∧ D.nx σ H) ∨ (J.go i H ∧ ∃ N : L2.St → Hp → Prop, (∀ σ' H', N σ' H' → ∃ m', m' < m ∧ W (i + 1) m' σ' H') ∧ ∀ x H', J.yld i H x H' → g x σ H' fun σ2 H2 => tb { D with nx := N, ct := N, bk := D.nx } σ2 H2)
theorem tFor_eq {wi : TI} {g : TG} {tb : TS} {D : Ends} {σ : L2.St} {H : Hp} : tFor wi g tb D σ H = wi σ H fun J H1 => ForB J g tb D σ H1 := rfl
/-- a comprehension over what J yields, its list at D -/
def LcB (J : It) (g : TG) (tt : TT) (te : TE) (vs : List Nat) (σ : L2.St) (H1 : Hp) (D : Addr) (Qd : Hp → Prop) : Prop := ∃ W : Nat → Nat → Hp → Prop, (∃ m, W 0 m (upd H1 D (.lst []))) ∧ ∀ i m H, W i m H →
  (J.stop i H ∧ Qd H) ∨ (J.go i H ∧ ∃ Nx : Hp → Prop, (∀ H', Nx H' → ∃ m', m' < m ∧ W (i + 1) m' H') ∧ ∀ x H', J.yld i H x H' → g x (wipe σ vs) H' fun σ2 H2 => wipe σ2 vs = wipe σ vs ∧ tt σ2 H2 fun b H3 =>
    if b = true then te σ2 H3 fun y H4 => ∃ acc, H4 D = some (.lst acc) ∧ acc.length < sizeLine ∧ Nx (upd H4 D (.lst (acc ++ [y]))) else Nx H3)
theorem tLc_eq {wi : TI} {g : TG} {tt : TT} {te : TE} {vs : List Nat} {σ : L2.St} {H : Hp} {Q : VK} : tLc wi g tt te vs σ H Q = wi σ H fun J H1 => ∀ A, H1 A = none → LcB J g tt te vs σ H1 A (fun H => Q (.ref A) H) := rfl
section
variable {K : PySem.W.Frag} {a : Addr} {xs : List V} {g : TG} {tb : TS} {D : Ends} {σ : L2.St} {H : Hp}
theorem fT (Pv : Nat → L2.St → Hp → Prop) (h0 : Pv 0 σ H) (hl : ∀ i σ H, i ≤ xs.length → Pv i σ H → SqT K H a xs)
    (hs : ∀ i x σ H, xs[i]? = some x → Pv i σ H → g x σ H fun σ2 H2 => tb { D with nx := Pv (i + 1), ct := Pv (i + 1), bk := D.nx } σ2 H2) (hd : ∀ σ H, Pv xs.length σ H → D.nx σ H) : ForB (Itt K a) g tb D σ H := for_tup Pv h0 hl hs hd
theorem fL (Pv : Nat → L2.St → Hp → Prop) (h0 : Pv 0 σ H) (hl : ∀ i σ H, i ≤ xs.length → Pv i σ H → SqL K H a xs)
    (hs : ∀ i x σ H, xs[i]? = some x → Pv i σ H → g x σ H fun σ2 H2 => tb { D with nx := Pv (i + 1), ct := Pv (i + 1), bk := D.nx } σ2 H2) (hd : ∀ σ H, Pv xs.length σ H → D.nx σ H) : ForB (Itl K a) g tb D σ H := for_list Pv h0 hl hs hd
theorem fR {lo : Int} {n : Nat} (Pv : Nat → L2.St → Hp → Prop) (h0 : Pv 0 σ H)
    (hs : ∀ i σ H, i < n → Pv i σ H → g (.int (lo + i)) σ H fun σ2 H2 => tb { D with nx := Pv (i + 1), ct := Pv (i + 1), bk := D.nx } σ2 H2) (hd : ∀ σ H, Pv n σ H → D.nx σ H) : ForB (Itr lo n) g tb D σ H := for_range Pv h0 hs hd
end
section
variable {K : PySem.W.Frag} {a : Addr} {xs : List V} {g : TG} {tt : TT} {te : TE} {vs : List Nat} {σ : L2.St} {H1 : Hp} {D : Addr} {Qd : Hp → Prop}
theorem lR {lo : Int} {n : Nat} (Pv : Nat → Hp → Prop) (h0 : Pv 0 (upd H1 D (.lst [])))
    (hs : ∀ i H, i < n → Pv i H → g (.int (lo + i)) (wipe σ vs) H fun σ2 H2 => wipe σ2 vs = wipe σ vs ∧ tt σ2 H2 fun b H3 =>
      if b = true then te σ2 H3 fun y H4 => ∃ acc, H4 D = some (.lst acc) ∧ acc.length < sizeLine ∧ Pv (i + 1) (upd H4 D (.lst (acc ++ [y]))) else Pv (i + 1) H3) (hd : ∀ H, Pv n H → Qd H) : LcB (Itr lo n) g tt te vs σ H1 D Qd := lc_range Pv h0 hs hd
theorem lL (Pv : Nat → Hp → Prop) (h0 : Pv 0 (upd H1 D (.lst []))) (hl : ∀ i H, i ≤ xs.length → Pv i H → SqL K H a xs)
    (hs : ∀ i x H, xs[i]? = some x → Pv i H → g x (wipe σ vs) H fun σ2 H2 => wipe σ2 vs = wipe σ vs ∧ tt σ2 H2 fun b H3 =>
      if b = true then te σ2 H3 fun y H4 => ∃ acc, H4 D = some (.lst acc) ∧ acc.length < sizeLine ∧ Pv (i + 1) (upd H4 D (.lst (acc ++ [y]))) else Pv (i + 1) H3) (hd : ∀ H, Pv xs.length H → Qd H) : LcB (Itl K a) g tt te vs σ H1 D Qd := lc_list Pv h0 hl hs hd
theorem lT (Pv : Nat → Hp → Prop) (h0 : Pv 0 (upd H1 D (.lst []))) (hl : ∀ i H, i ≤ xs.length → Pv i H → SqT K H a xs)
    (hs : ∀ i x H, xs[i]? = some x → Pv i H → g x (wipe σ vs) H fun σ2 H2 => wipe σ2 vs = wipe σ vs ∧ tt σ2 H2 fun b H3 =>
      if b = true then te σ2 H3 fun y H4 => ∃ acc, H4 D = some (.lst acc) ∧ acc.length < sizeLine ∧ Pv (i + 1) (upd H4 D (.lst (acc ++ [y]))) else Pv (i + 1) H3) (hd : ∀ H, Pv xs.length H → Qd H) : LcB (Itt K a) g tt te vs σ H1 D Qd := lc_tup Pv h0 hl hs hd
end
/-! ### what a house is, as data -/
def UpTo (mv : V) (d : PyData) : Prop := ∃ i : Int, d = .int i ∧ 0 ≤ i ∧ ∀ M, mv = .int M → i ≤ M
def RowD (m : Nat) (d : PyData) : Prop := ∃ ds, d = .tuple ds ∧ ds.length = m ∧ ∀ e ∈ ds, ∃ i : Int, e = .int i ∧ 0 ≤ i ∧ i < m
def cellD (rs : List PyData) (a b : Nat) : PyData := match rs[a]? with
  | some (.tuple r) => r[b]?.getD .none
  | _ => .none
def TabD (m : Nat) (d : PyData) : Prop := ∃ rs, d = .tuple rs ∧ rs.length = m ∧ (∀ r ∈ rs, RowD m r) ∧ ∀ a b, a < m → b < m → cellD rs a b = cellD rs b a
def FloorD (m : Nat) (d : PyData) : Prop := ∃ s u, d = .tuple [s, u] ∧ TabD m s ∧ TabD m u
def HouseN (m n : Nat) (d : PyData) : Prop := ∃ fs, d = .tuple fs ∧ fs.length = n ∧ 1 ≤ n ∧ n ≤ 4 ∧ 1 ≤ m ∧ m ≤ 6 ∧ ∀ f ∈ fs, FloorD m f
def HouseD (d : PyData) : Prop := ∃ m n, HouseN m n d
/-! ### promises of the program's looks -/
def spWhole : Sp := fun vs H Q _ => ∃ (v : V) (p : Addr) (d : PyData), vs = [v] ∧ Dat H p v d ∧ ∀ b : Bool, (b = true ↔ ∃ i, d = .int i) → Q (.bl b) H
def spUpTo : Sp := fun vs H Q _ => ∃ (v mv : V) (p : Addr) (d : PyData), vs = [v, mv] ∧ Dat H p v d ∧ (mv = .non ∨ ∃ M, mv = .int M) ∧ ∀ b : Bool, (b = true ↔ UpTo mv d) → Q (.bl b) H
def spTupOf : Sp := fun vs H Q _ => ∃ (v : V) (n : Int) (p : Addr) (d : PyData), vs = [v, .int n] ∧ Dat H p v d ∧ ∀ b : Bool, (b = true ↔ ∃ ds, d = .tuple ds ∧ (ds.length : Int) = n) → Q (.bl b) H
def spAre : Sp := fun vs H Q _ => ∃ (v mv : V) (n : Int) (p : Addr) (d : PyData), vs = [v, .int n, mv] ∧ Dat H p v d ∧ (mv = .non ∨ ∃ M, mv = .int M) ∧
  ∀ b : Bool, (b = true ↔ ∃ ds, d = .tuple ds ∧ (ds.length : Int) = n ∧ ∀ e ∈ ds, UpTo mv e) → Q (.bl b) H
def spTable : Sp := fun vs H Q _ => ∃ (v : V) (m : Nat) (p : Addr) (d : PyData), vs = [v, .int m] ∧ m ≤ 1000 ∧ Dat H p v d ∧ ∀ b : Bool, (b = true ↔ TabD m d) → Q (.bl b) H
def spHouse : Sp := fun vs H Q _ => ∃ (v : V) (p : Addr) (d : PyData), vs = [v] ∧ Dat H p v d ∧ ∀ b : Bool, (b = true ↔ HouseD d) → Q (.bl b) H
end Fm
end FFmLoop
section FFmTry
set_option Elab.async false
set_option linter.all false
set_option maxRecDepth 100000
set_option maxHeartbeats 2000000
namespace Fm
open PySem PySem.Spec PyProof.Rows L2
/-- an exception of the class cls, caught and kept at a -/
def ExK (cls : Value) (d : Option Addr) (a : Addr) : HO := .ext fun h => ∃ (oe : Obj) (vs : Array Value), h.get? a = some oe ∧ Zc cls d oe ∧ oe.data = .fields vs
section
variable {X : Cx} {pins : List (Addr × Obj)} {σ : L2.St} {H : Hp} {s sI : Shared}
/-- what is pinned, and is new since the entry, may be tracked -/
theorem track {a : Addr} {oe : Obj} {vs : Array Value} {cls : Value} {d : Option Addr} (I : Inv X ((a, oe) :: pins) σ H s) (hz : Zc cls d oe) (hv : oe.data = .fields vs)
    (h0 : X.s_0.heap.get? a = none) (hp : ∀ q ∈ X.pn ++ pins, q.1 ≠ a) : Inv X pins σ (upd H a (ExK cls d a)) s := by
  obtain ⟨ga, na, nl, nf, nc⟩ := I.pin (a, oe) (List.mem_append_right _ List.mem_cons_self)
  dsimp only at ga na nl nf nc
  have nb : ∀ {b o}, X.s_0.heap.get? b = some o → b ≠ a := fun {b o} e z => by
    rw [z, h0] at e
    cases e
  have hne : ∀ {b u}, H b = some u → b ≠ a := fun {b u} e => ne_of_none e na
  refine ⟨I.ok, I.os, I.bare, ⟨fun b o e n x y => ?_, fun b o e n x y => ?_, fun b o e n x => ?_, fun b o e x => ?_, fun b xs e => ?_, fun b o u e => ?_, fun b ps e => ?_⟩, I.loc, I.cell, ?_, fun x c e => ?_, fun q hq => ?_, fun b u e => ?_, I.len⟩
  · exact I.base.keep b o e n x y
  · exact I.base.slot b o e n x y
  · rw [upd_ne (nb e)]
    exact I.base.free b o e n x
  · exact I.base.there b o e x
  · have q := I.base.tups b xs e
    rw [upd_ne (hne q)]
    exact q
  · have q := I.base.frzs b o u e
    rw [upd_ne (hne q)]
    exact q
  · obtain ⟨m, q⟩ := I.base.tbls b ps e
    exact ⟨m, by rw [upd_ne (hne q)]; exact q⟩
  · rw [upd_ne (Ne.symm nl)]
    exact I.free
  · have hca : c ≠ a := fun z => by
      obtain ⟨v, o, ho, hd⟩ := I.cell x c e
      rw [z, ga] at ho
      cases ho
      exact nc v hd
    rw [upd_ne hca]
    exact I.freeC x c e
  · have hq2 : q ∈ X.pn ++ (a, oe) :: pins := by
      rcases List.mem_append.mp hq with z | z
      · exact List.mem_append_left _ z
      · exact List.mem_append_right _ (List.mem_cons_of_mem _ z)
    obtain ⟨e1, e2, e3⟩ := I.pin q hq2
    exact ⟨e1, by rw [upd_ne (hp q hq)]; exact e2, e3⟩
  · by_cases hb : b = a
    · subst hb
      rw [upd_same] at e
      cases e
      exact ⟨⟨oe, vs, ga, hz, hv⟩, ⟨oe, ga⟩, fun h1 h2 ⟨o, v, q, r⟩ k => ⟨o, v, k o q, r⟩⟩
    · rw [upd_ne hb] at e
      exact (I.hok b u e).stay (fun c w _ q => q) (fun c q => by rw [upd_ne (hne q)]; exact q) fun c xs q => by rw [upd_ne (hne q)]; exact q
end
/-- what the clause wishes that keeps its exception in a name: i the clause's own name, j the name that keeps it -/
def wKeep (K : PySem.W.Frag) (c : Value) (i j : Nat) (D : Ends) : WX := fun cls d σ H =>
  PySem.W.exmOne K cls c = some true ∧ ∀ a, H a = none → D.nx (((σ.set i (some (.ref a))).set j (some (.ref a))).set i none) (upd H a (ExK cls d a))
section
variable {X : Cx} {x n y : Str} {c : Value} {i j : Nat} {body : List Stmt} {np pos pos' py pn sp : Pos} {tb : WX → TS}
theorem ps_try_keep (hs : X.stack = X.env :: X.outer) (hf : X.env.frame = some X.env.locals) (hex : X.ex = []) (hN : X.N.Nodup) (hi : X.N[i]? = some n) (hln : X.env.kindOf n = some .local) (hj : X.N[j]? = some y) (hly : X.env.kindOf y = some .local) (hc : Names X x c)
    (hd1 : (n == ("__debug__" : Str)) = false) (hd2 : (n == ("__classdict__" : Str)) = false) (hsw : swapsWith (.Name n pn) (some (.Name y py)) sp.line X.env = pure false) (hil : i < X.N.length)
    (hb : ∀ (W : WX) (pn : List (Addr × Obj)) (xe : Value → Shared → Prop), Takes (X.tr pn xe) W → PassesOwn (model X.prog X.w) X.A X.env xe → PSs (X.tr pn xe) body (tb W)) :
    PS X (.Try body [.ExceptHandler (some (.Name x np)) (some n) [.Assign [.Name y py] (.Name n pn) sp] pos'] [] [] pos) (fun D σ H => tb (wKeep X.K c i j D) D σ H) := by
  refine ⟨fun pins s σ H D I h => ?_⟩
  have ok := I.ok
  have fr1 : X.A.frames = some (X.env :: X.outer) := by rw [ok.frames, hs]
  have lc1 : Loc X.env.scope n := .inl hln
  refine wpAny_Try_except ?_
  refine wpAny_mono ((hb (wKeep X.K c i j D) (X.pn ++ pins) (fun e t1 => wpAny (model X.prog X.w) X.A (noteFrame e X.env) (fun _ t2 => wpAny (model X.prog X.w) X.A (setFlight e none) (fun _ t3 =>
    wpAny (model X.prog X.w) X.A (handleBy e X.env [.ExceptHandler (some (.Name x np)) (some n) [.Assign [.Name y py] (.Name n pn) sp] pos']) (SP X pins D) X.xe t3) X.xe t2) X.xe t1) (fun u s' xx => ?_) PassesOwn.looking).run [] s σ H D (I.toTry _) h) (fun f s1 hsp => ?_) (fun e s1 he => he)
  · obtain ⟨a, B, sI, pins', σ1, H1, cls, d, rfl, J0, nb, up, sky, na, os, ag, hx1, hyes⟩ := xx
    have J : Inv X pins σ1 H1 sI := J0.ofTry ok
    have sk : Sky B (X.env :: X.outer) a (Zc cls d) X.env.locals s'.heap := hs ▸ sky
    show wpAny (model X.prog X.w) X.A (noteFrame (.ref a) X.env) _ _ _
    refine Sky.land Zc.steady fr1 hf sk fun g3 f3 u3 => ?_
    have K3 : Inv X pins σ1 H1 { s' with heap := g3 } := J.landed nb f3.1 (up.trans u3) os ag
    obtain ⟨o3, v3, e3, z3, d3⟩ := f3.there
    have off : a ∉ frs (X.env :: X.outer) := fun hm => by
      obtain ⟨_, o', e', hq⟩ := (show g3.FunFrames B (X.env :: X.outer) from f3.2.2.1).mem hm
      rw [e3] at e'
      cases e'
      exact hq _ d3
    have offL : a ≠ X.env.locals := fun z => off (List.mem_filterMap.mpr ⟨X.env, List.mem_cons_self, by rw [hf, z]⟩)
    have offF : a ∉ X.fs := fun hm => by
      obtain ⟨e, he, q⟩ := List.mem_filterMap.mp hm
      exact off (List.mem_filterMap.mpr ⟨e, List.mem_cons_of_mem _ he, q⟩)
    have newI : sI.heap.get? a = none := by
      cases q : sI.heap.get? a with
      | none => rfl
      | some o =>
        have z := nb a o q (by rw [hs]; exact off)
        rw [f3.2.1] at z
        cases z
    have new0 : X.s_0.heap.get? a = none := by
      cases q : X.s_0.heap.get? a with
      | none => rfl
      | some o =>
        obtain ⟨o', z⟩ := J.base.there a o q (by rw [hex]; exact fun z => nomatch z)
        rw [newI] at z
        cases z
    have S3 := K3.suite e3 d3 na offL offF
    refine wpAny_handleBy_cons (codeAny_handlers_test ?_) (by intro q; cases q)
    have LT : PySem.W.Looks (model X.prog X.w) g3 (typeOf (.ref a)) cls := fun A Q E s k q => wpAny_typeOf_ref (k _ _ e3) (by rw [z3.1]; exact q)
    have LM := PySem.W.exm_one (M := model X.prog X.w) K3.kIn LT hx1
    have tst : ∀ {Q : Value → Shared → Prop} {E : Value → Shared → Prop}, Q c { s' with heap := g3 } → wpAny (model X.prog X.w) (X.A.mark (some (.ref a))) (eval (.Name x np) X.env) Q E { s' with heap := g3 } := fun {Q E} q => by
      obtain ⟨hg, hdb, hm | ⟨hm, hv, hnn⟩⟩ := hc
      · exact ld_glob (X := X.suite a ((a, o3) :: (X.pn ++ pins))) S3 hg hm q hdb
      · exact ld_blt (X := X.suite a ((a, o3) :: (X.pn ++ pins))) S3 hg hm hv q hnn hdb
    refine tst (LM.here ?_)
    refine codeAny_handlers_suite_as ?_
    refine HandSPX.lands_againZ f3 fun g4 f4 u4 => ?_
    have K4 : Inv X pins σ1 H1 { s' with heap := g4 } := J.landed nb f4.1 ((up.trans u3).trans u4) os ag
    obtain ⟨o4, v4, e4, z4, d4⟩ := f4.there
    have S4 := K4.suite e4 d4 na offL offF
    refine store_ok (X := X.suite a ((a, o4) :: (X.pn ++ pins))) (v := .ref a) S4 hN hi lc1 rfl (fun s5 S5 => ?_) (.inr hln)
    have step : PSs (X.suite a ((a, o4) :: (X.pn ++ pins))) [.Assign [.Name y py] (.Name n pn) sp] (tSeq (tAsg (tVar i) (gName j)) tNext) :=
      pss_cons (ps_set (i := j) hN hj (.inl hly) (pe_var (i := i) hi (.inl hln) hd1 hd2) hsw (.inr hly)) pss_nil
    have hlen : i < σ1.length := by rw [J.len]; exact hil
    refine wpAny_mono (step.run [] s5 _ H1 { nx := fun σ6 H6 => σ6 = (σ1.set i (some (.ref a))).set j (some (.ref a)) ∧ H6 = H1, rt := fun _ _ => False } S5 ⟨.ref a, by rw [List.getElem?_set_self hlen], rfl, rfl⟩) (fun f s6 hsp => ?_) (fun _ _ z => False.elim z)
    cases f with
    | next =>
      obtain ⟨σ6, H6, S6, rfl, rfl⟩ := hsp
      have U : Inv X ((a, o4) :: pins) ((σ1.set i (some (.ref a))).set j (some (.ref a))) H6 s6 := ⟨ok, S6.os, S6.bare, S6.base, S6.loc, S6.cell, S6.free, S6.freeC, fun q hq => S6.pin q (List.mem_append_left _ (by
        rcases List.mem_append.mp hq with z | z
        · exact List.mem_cons_of_mem _ (List.mem_append_left _ z)
        · rcases List.mem_cons.mp z with z | z
          · rw [z]; exact List.mem_cons_self
          · exact List.mem_cons_of_mem _ (List.mem_append_right _ z))), S6.hok, S6.len⟩
      refine gone_ok U hN hi hln fun s7 J7 => ?_
      refine ⟨_, _, track J7 z4 d4 new0 (fun q hq z => ?_), hyes a na⟩
      have e := (J.pin q hq).1
      rw [z, newI] at e
      cases e
    | brk =>
      obtain ⟨_, _, _, q⟩ := hsp
      exact False.elim q
    | cont =>
      obtain ⟨_, _, _, q⟩ := hsp
      exact False.elim q
    | ret u =>
      obtain ⟨_, _, _, _, _, q⟩ := hsp
      exact False.elim q
  · cases f with
    | next =>
      obtain ⟨σ', H', J', q⟩ := hsp
      exact wpAny_execs_nil ⟨σ', H', J'.ofTry ok, q⟩
    | brk =>
      obtain ⟨σ', H', J', q⟩ := hsp
      exact ⟨σ', H', J'.ofTry ok, q⟩
    | cont =>
      obtain ⟨σ', H', J', q⟩ := hsp
      exact ⟨σ', H', J'.ofTry ok, q⟩
    | ret u =>
      obtain ⟨v, σ', H', J', r, q⟩ := hsp
      exact ⟨v, σ', H', J'.ofTry ok, r, q⟩
end
end Fm
end FFmTry
section FFmExc
set_option Elab.async false
set_option linter.all false
set_option maxRecDepth 100000
set_option maxHeartbeats 2000000
namespace Fm
open PySem PySem.Spec PyProof.Rows L2
/-- an error class of the program, straight under MeetError at M -/
structure Exn (K : PySem.W.Frag) (mg : Str → Option Value) (x : Str) (C M : Addr) : Prop where
  g : mg x = some (.ref C)
  e : PySem.W.excIn K C [.type "ValueError", .type "Exception", .type "BaseException", .type "object"] "ValueError.__new__" = true
  k : PySem.W.keepIn K (.ref C) = true
  b : PySem.W.subIn K (.ref C) (.type "BaseException") = some true
  t : PySem.W.typeIn K (.ref C) = some (.type "type")
  c : ExcC K C
  m : PySem.W.exmOne K (.ref C) (.ref M) = some true
/-- isinstance(e, c), e a kept error -/
def rIsK (K : PySem.W.Frag) (D : Addr) : List V → Hp → VK → Prop := fun xs H Q => ∃ (a : Addr) (c : V) (u : Value) (b : Bool), xs = [.ref a, c] ∧ H a = some (ExK (.ref D) none a) ∧ ClsV c u ∧ PySem.W.kitOne K (.ref D) u = some b ∧ Q (.bl b) H
def rIsKT (K : PySem.W.Frag) (D : Addr) : List V → Hp → VK → Prop := fun xs H Q => ∃ (a tp : Addr) (cs : List V) (us : List Value) (b : Bool), xs = [.ref a, .ref tp] ∧ H a = some (ExK (.ref D) none a) ∧ H tp = some (.tup cs) ∧ Paired ClsV cs us ∧ PySem.W.kitAny K (.ref D) us = some b ∧ Q (.bl b) H
section
variable {X : Cx} {D : Addr}
theorem kept_inst {pins : List (Addr × Obj)} {σ : L2.St} {H : Hp} {s : Shared} {a : Addr} (I : Inv X pins σ H s) (h : H a = some (ExK (.ref D) none a)) : ∃ oe, PySem.W.InstAt s.heap a oe D none := by
  obtain ⟨⟨oe, vs, hg, hz, hv⟩, _, _⟩ := I.hok a _ h
  obtain ⟨oc, od, oda, osl⟩ := oe
  obtain ⟨h1, h2⟩ := hz
  dsimp only at h1 h2 hv
  subst h1 h2 hv
  exact ⟨_, hg, rfl, rfl, trivial⟩
theorem call_isK (C : ExcC X.K D) : CallR X (.builtin "isinstance") (rIsK X.K D) := by
  intro pins s σ H xs us Q I r h
  obtain ⟨a, c, u, b, rfl, ha, hc, e, q⟩ := h
  obtain ⟨u1, u2, rfl, r1, r2⟩ := vals2 r
  cases r1
  have e2 := hc.eq r2
  subst e2
  obtain ⟨oe, J⟩ := kept_inst I ha
  exact PySem.W.kia_one (PySem.W.handS_kitx_exc C.hg C.hk C.hs C.hd C.ha C.hn C.ht C.hm) I.kIn J e (fun z => nomatch z) fun tk => ⟨.bl b, H, I.tok tk, rfl, q⟩
theorem call_isKT (C : ExcC X.K D) : CallR X (.builtin "isinstance") (rIsKT X.K D) := by
  intro pins s σ H xs us Q I r h
  obtain ⟨a, tp, cs, ws, b, rfl, ha, hT, hc, e, q⟩ := h
  obtain ⟨u1, u2, rfl, r1, r2⟩ := vals2 r
  cases r1
  cases (show u2 = Value.ref tp from r2)
  obtain ⟨oe, J⟩ := kept_inst I ha
  obtain ⟨_, its, rv, o, h1, h2, n, h3⟩ := (show ObjOk X.prog X.w H s.heap tp (.tup cs) from I.hok tp _ hT)
  have e3 := ClsV.all hc rv
  subst e3
  obtain ⟨oc, od, dt, sl⟩ := o
  simp only at h2 h3
  subst h2 h3
  exact PySem.W.kia_tup (PySem.W.handS_kitx_exc C.hg C.hk C.hs C.hd C.ha C.hn C.ht C.hm) I.kIn J h1 e (fun z => nomatch z) fun tk => ⟨.bl b, H, I.tok tk, rfl, q⟩
end
/-- raise C('..') of such a class -/
theorem ps_raiseE {X : Cx} {W : WX} {x m : Str} {C M : Addr} {j : Nat} {p p2 p3 pos : Pos} (hc : X.calm = true) (tk : Takes X W) (E : Exn X.K X.mg x C M) (hg : Gl X x) (hd : (x == ("__debug__" : Str)) = false := by decide) :
    PS X (.Raise (some (.Call (.Name x p) [.Constant (.str m) j p2] [] p3)) none pos) (fun _ σ H => W (.ref C) none σ H) :=
  ps_raise hc tk (pmk_own PySem.F.excBase_ValueError E.e E.g E.k (raises_own E.b E.t) hg hd)
/-- size's promise: C is NoHouse -/
def spSize (C : Addr) : Sp := fun vs H Q E => ∃ (v : V) (p : Addr) (d : PyData), vs = [v] ∧ Dat H p v d ∧ (∀ m n, HouseN m n d → ∀ q H', H q = none → H' q = some (.tup [.int m, .int n]) → Same H H' → Q (.ref q) H') ∧ (¬ HouseD d → E (.ref C) none H)
end Fm
end FFmExc
section FFmEnd
set_option Elab.async false
set_option linter.all false
set_option maxRecDepth 100000
set_option maxHeartbeats 2000000
namespace Fm
open PySem PySem.Spec PyProof.Rows L2
/-- a def's promise where no text is being made of anything around it, and nothing is raised -/
def RunG (P : Program) (w : World) (K : PySem.W.Frag) (mg : Str → Option Value) (base : Heap) (k : Nat) (f : Addr) (fd : FuncData) (ps : List Str) (sp : Sp) : Prop :=
  ∀ (A : Around) (outer : List Env) (s : Shared) (H : Hp) (args : Args) (us : List Value) (vs : List V) (Q : VK), A.guards = some [] → Room k A → Env0 P w K mg base A outer s H → BindsTo s fd args (ps.zip us) → Vals vs us → vs.length = ps.length → sp vs H Q E0 →
    codeAny (model P w) A (.call (.ref f) args) (fun r s' => ∃ u, r = .ok (.ret u) ∧ CE outer P w H s Q u s') s
theorem run_g {P : Program} {w : World} {K : PySem.W.Frag} {mg : Str → Option Value} {base : Heap} {x : Str} {st : Stmt} {f : Addr} {fd : FuncData} {N ps : List Str} {k : Nat} {sp : Sp} (F : Fun K x x st f fd) (S : FnScope N ps (defScope st))
    (b : ∀ (cdv : Value) (A : Around) (outer : List Env) (s : Shared) (H : Hp) (vs : List V) (Q : VK), (A.deeper (envOfC x (defScope st) s.heap.objs.size f cdv)).guards = some [] → Room k (A.deeper (envOfC x (defScope st) s.heap.objs.size f cdv)) → sp vs H Q E0 →
      ∃ t, PSs (cxOf CX0 P w K mg base N x (defScope st) f cdv A outer s H E0).nox (defBody st) t ∧ t { nx := fun _ H' => Q .non H', rt := Q } (start N vs) H) : RunG P w K mg base (k + 1) f fd ps sp := by
  obtain ⟨oc, od, kV, doc, pm, an, cdv, ct, osl, rfl, lk, hcd⟩ := F.ex
  intro A outer s H args us vs Q hg hr e0 hb r hl hsp
  have KX : K.In s.heap := e0.mod.kin.keeps fun c o e => (e0.bs c o e).1
  have nl : s.heap.NoLimit := e0.mod.nolimit.keeps fun c o e => (e0.bs c o e).1
  have kinds : ∀ z ∈ ps.zip us, (defScope st).names.lookup z.1 = some .local ∨ ((defScope st).names.lookup z.1 = some .cell ∧ ((cellsFrom (s.heap.objs.size + 1) (defScope st).names []).lookup z.1).isSome = true) := fun ⟨n, v⟩ hz => by
    rcases S.par n (List.of_mem_zip hz).1 with q | q
    · exact .inl q
    · exact .inr ⟨q, PySem.W.cellsFrom_some _ _ _ (.inl q)⟩
  refine codeAny_call_function hr.depth (KX _ _ lk) rfl S.co S.gen rfl (PySem.W.codeRec_of KX hcd) (hb _ _ _ _ ?_)
  refine wpAny_newFunctionEnv_cells S.kind kinds fun env he s1 y => ?_
  subst he
  refine ⟨nl.keeps y.toInCall.keep, codeAny_func ?_⟩
  obtain ⟨t, ht, hq⟩ := b cdv A outer s H vs Q hg (hr.deeper _) hsp
  have I := inv_start (CX := CX0) (P := P) (w := w) (qual := x) (f := f) (cd := cdv) (E := E0) S hr.hd e0 hl r y
  refine wpAny_mono (ht.nox.run [] s1 (start N vs) H _ I hq) (fun fl s' hs => ?_) (fun e s' hs => ?_)
  · cases fl with
    | ret u =>
      obtain ⟨v, σ', H', J, rv, q⟩ := hs
      exact ⟨u, rfl, v, H', J.os, J.bare, J.base, J.hok, rv, q⟩
    | next =>
      obtain ⟨σ', H', J, q⟩ := hs
      exact ⟨.none, rfl, .non, H', J.os, J.bare, J.base, J.hok, rfl, q⟩
    | brk =>
      obtain ⟨_, _, _, q⟩ := hs
      exact False.elim q
    | cont =>
      obtain ⟨_, _, _, q⟩ := hs
      exact False.elim q
  · exact wpAny_mono hs (fun _ _ z => False.elim z) fun _ _ z => False.elim z
/-- the law's call, at what the top has left -/
theorem end_g {P : Program} {w : World} {K : PySem.W.Frag} {mg mb : Str → Option Value} {k : Nat} {fa a : Addr} {fd : FuncData} {x : Str} {sp : Sp} {t : Shared} {vs : List Value} {ns : List Int}
    (KX : K.In t.heap) (g1 : t.heap.Ns mainGlobals mg) (g2 : t.heap.Ns builtinsNs mb) (g3 : ∀ y : Str, y ≠ "__name__" → mb y = bootBuiltins y) (g4 : t.heap.NoLimit) (g5 : t.gens = #[])
    (ha : t.heap.get? a = some { cls := .type "list", data := .seq vs.toArray }) (hi : IntsAre vs ns) (hl : ns.length ≤ sizeLine) (hr : Room k callerA)
    (F : ∀ base : Heap, K.In base → base.Ns mainGlobals mg → RunG P w K mg base k fa fd [x] sp) (hb : ∀ (s : Shared) (u : Value), BindsTo s fd ⟨[u], []⟩ [(x, u)])
    (hs : ∀ H : Hp, SqL K H a (ns.map V.int) → (∀ b, H b = none ∨ b = a) → sp [.ref a] H (fun v _ => v = .bl true) E0) :
    codeAny (model P w) callerA (.call (.ref fa) ⟨[.ref a], []⟩) (fun r s' => r = .ok (.ret (.bool true)) ∧ OldK t.heap s'.heap ∧ s'.os = t.os ∧ AllBare s'.gens) t := by
  have rv := vals_ints hi
  have lv := hi.length
  suffices core : ∀ H : Hp, SqL K H a (ns.map V.int) → HOk P w H t.heap → (∀ b, H b = none ∨ (b = a ∧ ∃ o us, H b = some (.frz o (.lst us)))) → (H a ≠ none → K.lookup a = none) →
      codeAny (model P w) callerA (.call (.ref fa) ⟨[.ref a], []⟩) (fun r s' => r = .ok (.ret (.bool true)) ∧ OldK t.heap s'.heap ∧ s'.os = t.os ∧ AllBare s'.gens) t by
    cases hk : K.lookup a with
    | some o =>
      have e := KX a o hk
      rw [ha] at e
      cases e
      exact core (fun _ => none) (.inr ⟨_, vs.toArray, _, hk, rfl, rfl, rfl, by rw [List.size_toArray, lv]; exact hl, by simpa using rv⟩) (fun b u z => by cases (show (none : Option HO) = some u from z)) (fun b => .inl rfl) fun z => absurd rfl z
    | none =>
      have at1 : ∀ b u, (if b = a then some (HO.frz { cls := .type "list", data := .seq vs.toArray } (.lst (ns.map V.int))) else none) = some u → b = a ∧ u = .frz { cls := .type "list", data := .seq vs.toArray } (.lst (ns.map V.int)) := fun b u z => by
        by_cases hba : b = a
        · rw [if_pos hba] at z
          exact ⟨hba, (Option.some.inj z).symm⟩
        · rw [if_neg hba] at z
          cases z
      refine core (fun b => if b = a then some (.frz { cls := .type "list", data := .seq vs.toArray } (.lst (ns.map V.int))) else none) (.inl (.inr ⟨{ cls := .type "list", data := .seq vs.toArray }, if_pos rfl⟩)) (fun b u z => ?_) (fun b => ?_) fun _ => hk
      · obtain ⟨rfl, rfl⟩ := at1 b u z
        exact ⟨ha, by rw [List.length_map]; exact hl, vs, _, rv, ha⟩
      · by_cases hba : b = a
        · exact .inr ⟨hba, _, _, if_pos hba⟩
        · exact .inl (if_neg hba)
  intro H hS hok hA hK
  have ex : ∀ {b : Addr} {u : HO}, H b = some u → b = a := fun {b u} e => by
    rcases hA b with z | ⟨z, _⟩
    · rw [e] at z
      cases z
    · exact z
  have off : ∀ {b : Addr} {o : Obj} {es : Array DictEntry} {ep : Nat}, t.heap.get? b = some o → o.data = .dict es ep → H b = none := fun {b o es ep} e d => by
    cases q : H b with
    | none => rfl
    | some u =>
      rw [ex q, ha] at e
      cases e
      cases (show Data.seq vs.toArray _ = Data.dict es ep from d)
  have ns : ∀ {b : Addr} {m : Str → Option Value}, t.heap.Ns b m → (hidT t.heap H).Ns b m := fun {b m} ⟨o, es, ep, e, d, r⟩ => ⟨o, es, ep, hidT_get e (off e d), d, r⟩
  have kin : K.In (hidT t.heap H) := fun b o e => hidT_get (KX b o e) (by
    cases q : H b with
    | none => rfl
    | some u =>
      have z := ex q
      subst z
      rw [hK (by rw [q]; exact fun y => by cases y)] at e
      cases e)
  have md : Mod K mg (hidT t.heap H) := ⟨kin, ns g1, ⟨mb, ns g2, g3⟩, let ⟨mc, y1, y2⟩ := g4; ⟨mc, ns y1, y2⟩⟩
  have e0 : Env0 P w K mg (hidT t.heap H) callerA [] t H := ⟨rfl, md, fun b o e => of_hidT e, Nat.le_of_eq (hidT_size _ _), trivial, fun b z => (by cases z), hok, .of_eq g5⟩
  refine codeAny_mono (F _ kin (ns g1) callerA [] t H ⟨[.ref a], []⟩ [.ref a] [.ref a] _ rfl hr e0 (hb t (.ref a)) (.cons rfl .nil) rfl (hs H hS fun b => (hA b).imp id fun z => z.1)) fun r s' h => ?_
  obtain ⟨u, rfl, v, H', os, bare, un, hok', r', q⟩ := h
  have q' : v = .bl true := q
  subst q'
  obtain rfl : u = Value.bool true := r'
  refine ⟨rfl, OldK.of_keep fun b o e => ?_, os, bare⟩
  rcases hA b with q | ⟨_, ob, us, q⟩
  · exact un.keep b o e q (by intro z; cases z) (by intro z; cases z)
  · obtain ⟨d1, _⟩ := hok b _ q
    obtain ⟨d2, _⟩ := hok' b _ (un.frzs b ob _ q)
    rw [e] at d1
    cases d1
    exact d2
/-- the goal that k_head leaves -/
theorem walk_g {l : PySem.W.OpenLaw} {n k : Nat} {q : Program} {loose : List Str} {XP : (Str → Option Value) → Heap → Prop} {YP : World → Heap → Prop} {d : DefRec} {K : Params → PySem.W.Frag} {sp : PySem.W.Frag → Sp} {x : Str}
    (hn : l.most = some n) (hn2 : n ≤ sizeLine) (hdf : d.params.defaults = []) (hr : Room k callerA) (hY : ∀ (w : World) (h : Heap), YP w h → (K w.params).In h)
    (F : ∀ (w : World) (mg : Str → Option Value) (fa : Addr) (h : Heap), (K w.params).In h → h.Ns mainGlobals mg → mg d.name = some (.ref fa) →
      ∃ fd : FuncData, (∀ (s : Shared) (u : Value), BindsTo s fd ⟨[u], []⟩ [(x, u)]) ∧ ∀ base : Heap, (K w.params).In base → base.Ns mainGlobals mg → RunG l.prog w (K w.params) mg base k fa fd [x] (sp (K w.params)))
    (hs : ∀ (K : PySem.W.Frag) (H : Hp) (a : Addr) (ns : List Int), ns.length ≤ n → SqL K H a (ns.map V.int) → (∀ b, H b = none ∨ b = a) → sp K [.ref a] H (fun v _ => v = .bl true) E0) :
    PySem.W.WalkO q loose XP YP l.row.toRowW d [] (fun f vs => PySem.call f vs) := by
  refine Att.attach_call hn hdf fun w s0 t mg mb fa o pm cd doc a vs ns G Y ho hd hcd hmg hobj hints hlen hg => ?_
  have KX := hY w _ Y
  obtain ⟨fd, hb, hF⟩ := F w mg fa _ KX G.T.g hmg
  exact end_g KX G.T.g G.T.b G.T.builtins G.T.nolimit hg hobj hints (Nat.le_trans hlen hn2) hr hF hb fun H h1 h2 => hs _ H a ns hlen h1 h2
end Fm
end FFmEnd
section FFmSeq
set_option Elab.async false
set_option linter.all false
set_option maxRecDepth 100000
set_option maxHeartbeats 4000000
namespace Fm
open PySem PySem.Spec PyProof.Rows L2 HT
theorem rev_adjust (n : Nat) : Builtin.Slice.sliceAdjust none none (-1) (n : Int) = ((n : Int) - 1, -1) := by
  unfold Builtin.Slice.sliceAdjust
  simp
theorem rev_places (n : Nat) : Builtin.Slice.slicePlaces ((n : Int) - 1) (-1) (-1) = n := by
  unfold Builtin.Slice.slicePlaces
  have h1 : ¬ ((-1 : Int) > 0) := by decide
  simp only [h1, if_false]
  have e : ((n : Int) - 1 - -1 - 1) / (- -1) = (n : Int) - 1 := by
    rw [show (- -1 : Int) = 1 by decide, Int.ediv_one]
    omega
  rw [e]
  split <;> omega
theorem fm_congr {α β : Type} {f g : α → Option β} : ∀ {l : List α}, (∀ x ∈ l, f x = g x) → l.filterMap f = l.filterMap g
  | [], _ => rfl
  | x :: r, h => by
    rw [List.filterMap_cons, List.filterMap_cons, h x List.mem_cons_self, fm_congr fun y hy => h y (List.mem_cons_of_mem _ hy)]
theorem rev_pick (xs : Array Value) : ((List.range xs.size).filterMap fun (m : Nat) => xs[((xs.size : Int) - 1 + (m : Int) * -1).toNat]?).toArray = xs.toList.reverse.toArray := by
  congr 1
  have h := PySem.W.krv_all xs
  rw [← h, ← List.filterMap_reverse, ← PySem.W.krv_range, List.filterMap_map]
  apply fm_congr
  intro m hm
  have := List.mem_range.mp hm
  have e : ((xs.size : Int) - 1 + (m : Int) * -1).toNat = xs.size - 1 - m := by omega
  rw [e]
  rfl
section
variable {prog : Program} {w : World} {A : Around} {E : Value → Shared → Prop} {s : Shared}
theorem rev_applied {sl : Addr} {vs : Value} {n : Nat} {Q : Int × Int × Nat → Shared → Prop} (hs : s.heap.IsSliceOf sl .none .none vs) (ps : IsPart vs (some (-1))) (h : Q ((n : Int) - 1, -1, n) s) :
    wpAny (model prog w) A (Builtin.Slice.sliceApplied (.ref sl) (pure (n : Int))) Q E s := by
  obtain ⟨os, hos, hcs, hds⟩ := id hs
  unfold Builtin.Slice.sliceApplied Builtin.Slice.sliceFields
  refine wpAny_bind (wpAny_bind (wpAny_field hos hds (x := .none) rfl (wpAny_bind (wpAny_field hos hds (x := .none) rfl (wpAny_bind (wpAny_field hos hds (x := vs) rfl (wpAny_pure ?_)))))))
  refine wpAny_bind (slicePart_ ps ?_)
  show wpAny _ _ (if ((-1 : Int) == 0) = true then _ else _) _ _ s
  rw [if_neg (by decide)]
  refine wpAny_bind (slicePart_none (wpAny_bind (slicePart_none (wpAny_bind (wpAny_pure ?_)))))
  show wpAny _ _ (match Builtin.Slice.sliceAdjust none none (-1) (n : Int) with | (lo, hi) => pure (lo, (-1 : Int), Builtin.Slice.slicePlaces lo hi (-1))) _ _ s
  rw [rev_adjust]
  show wpAny _ _ (pure ((n : Int) - 1, (-1 : Int), Builtin.Slice.slicePlaces ((n : Int) - 1) (-1) (-1))) _ _ s
  rw [rev_places]
  exact wpAny_pure h
theorem rev_item {t sl : Addr} {items : Array Value} {vs : Value} {Q : Value → Shared → Prop} (ht : IsTup s.heap t items) (hs : s.heap.IsSliceOf sl .none .none vs) (ps : IsPart vs (some (-1)))
    (h : Q (.ref s.heap.objs.size) { s with heap := s.heap.push { cls := .type "tuple", data := .seq items.toList.reverse.toArray } }) (hsz : items.size ≤ sizeLine) : wpAny (model prog w) A (getItem (.ref t) (.ref sl)) Q E s := by
  have ok : sizeOk (.seq items.toList.reverse.toArray) := by
    show items.toList.reverse.toArray.size ≤ sizeLine
    rw [List.size_toArray, List.length_reverse, Array.length_toList]
    exact hsz
  obtain ⟨os, hos, hcs, hds⟩ := id hs
  have tS : s.TypeIs (.ref sl) "slice" := ⟨os, hos, hcs⟩
  unfold getItem
  try with_reducible refine wpAny_holding ?_
  first | refine wpAny_bind (wpAny_pure ?_) | skip
  refine wpAny_bind (wpAny_sequenceKey ht.typeIs (by decide) ?_)
  refine wpAny_bind (wpAny_callSpecial?_slot (name := Str.ofString "__getitem__") ht.typeIs PyProof.Rows.slot_tuple_getitem
    (wpAny_call_entry PyProof.Rows.slot_tuple_getitem ht.typeIs entry_tuple_getitem ?_ (args_tuple_getitem _ _)))
  show wpAny _ _ (Builtin.Tuple.tupleItemsOf (.ref t) >>= _) _ _ s
  refine wpAny_bind (tupleItemsOf_ ht (wpAny_bind (wpAny_typeOf tS ?_)))
  rw [if_pos (by decide)]
  refine wpAny_bind (rev_applied hs ps ?_)
  have no : ¬ ((((items.size : Int) - 1) == 0 && (-1 : Int) == 1 && items.size == items.size) = true) := by
    rw [show ((-1 : Int) == 1) = false by decide, Bool.and_false, Bool.false_and]
    exact Bool.false_ne_true
  show wpAny _ _ (if (((items.size : Int) - 1) == 0 && (-1 : Int) == 1 && items.size == items.size) = true then _ else _) _ _ s
  rw [if_neg no, rev_pick]
  first
    | exact wpAny_bind (m := Builtin.Tuple.tupleExact _) (wpAny_newObj_type (wpAny_pure ⟨_, rfl, wpAny_pure h⟩) ok)
    | exact wpAny_bind (m := Builtin.Tuple.tupleExact _) (wpAny_newObj_type (wpAny_bind (wpAny_pure (wpAny_pure ⟨_, rfl, wpAny_pure h⟩))) ok)
    | exact wpAny_bind (wpAny_bind (m := Builtin.Tuple.tupleExact _) (wpAny_newObj_type (wpAny_pure (wpAny_pure ⟨_, rfl, wpAny_pure h⟩)) ok))
    | exact wpAny_bind (wpAny_bind (m := Builtin.Tuple.tupleExact _) (wpAny_newObj_type (wpAny_pure ⟨_, rfl, wpAny_pure h⟩) ok))
end
/-- t[::-1], a tuple -/
def tRevT (K : PySem.W.Frag) (te : TE) : TE := fun σ H Q => te σ H fun x H1 => ∃ a xs, x = .ref a ∧ SqT K H1 a xs ∧ ∀ p, H1 p = none → Q (.ref p) (upd H1 p (.tup xs.reverse))
theorem pe_REV {X : Cx} {e : Expr} {te : TE} {k : Nat} {p1 p2 p3 pos : Pos} (he : PE X e te) : PE X (.Subscript e (.Slice none none (some (.UnaryOp .USub (.Constant (.int 1) k p1) p2)) p3) pos) (tRevT X.K te) := by
  refine ⟨fun pins s σ H Q I h => ?_⟩
  refine Subscript_ (thn (he.run pins s σ H _ I h) fun v s1 ⟨x, H1, I1, r1, q1⟩ => ?_)
  obtain ⟨a, xs, ex, hx, q⟩ := q1
  subst ex
  cases r1
  have st : PO X (some (.UnaryOp .USub (.Constant (.int 1) k p1) p2)) (tPart (tUn (rU fun i => .int (-i)) (tC (.int 1)))) := po_some (pe_un un_neg pe_int)
  refine wpAny_Slice (thn (po_none.run pins s1 σ H1 (fun o H2 => o = none ∧ H2 = H1) I1 ⟨rfl, rfl⟩) fun vl s2 ⟨l, H2, I2, pl, el, e2⟩ => ?_)
  subst el e2
  refine thn (po_none.run pins s2 σ H2 (fun o H3 => o = none ∧ H3 = H2) I2 ⟨rfl, rfl⟩) fun vu s3 ⟨u, H3, I3, pu, eu, e3⟩ => ?_
  subst eu e3
  refine thn (st.run pins s3 σ H3 (fun o H4 => o = some (-1) ∧ H4 = H3) I3 ⟨1, rfl, -1, rfl, rfl, rfl⟩) fun vs s4 ⟨o, H4, I4, ps, eo, e4⟩ => ?_
  subst eo e4
  have I5 : Inv X pins σ H4 { s4 with heap := s4.heap.push { cls := .type "slice", data := .fields #[vl, vu, vs] } } := I4.kept (t' := s4.toks) fun b ob q => Heap.get?_push_of_some _ q
  obtain ⟨its, r, ht, hz⟩ := I5.tuple hx
  cases pl
  cases pu
  show wpAny (model X.prog X.w) X.A (subscriptTail e (.Slice none none (some (.UnaryOp .USub (.Constant (.int 1) k p1) p2)) p3) (.ref a) (.ref s4.heap.objs.size)) (EP X pins σ Q) X.xe { s4 with heap := s4.heap.push { cls := .type "slice", data := .fields #[.none, .none, vs] } }
  refine tail_any (ops := [.ref a, .ref s4.heap.objs.size]) ht.typeIs (PyProof.Rows.slot_tuple_getitem.lookup) ?_ (by with_unfolding_all rfl)
  refine rev_item ht (Heap.IsSliceOf.new _ .none .none vs) ps ?_ (by rw [List.size_toArray, ← r.length]; exact hz)
  refine ⟨.ref _, _, I5.laid (t' := s4.toks) (o := .tup xs.reverse) (fun b ob q => Heap.get?_push_of_some _ q) (Nat.le_refl _) ?_, rfl, q _ (I5.hok.fresh (Nat.le_refl _))⟩
  exact ⟨by rw [List.length_reverse]; exact hz, _, r.reverse, IsTup.new _ _⟩
/-- a tuple once -/
theorem once_meets (l : Addr) (items : Array Value) (n : Nat) (dd : Option Addr) (sl : Array (Option Value)) (u : Tok) :
    Meets (Builtin.«tuple.__mul__» ⟨[.ref l, .int 1 u], []⟩) (fun _ R s => s.heap.get? l = some { cls := .type "tuple", dict := dd, data := .seq items n, slots := sl } ∧ R (.ok (.ret (.ref l))) s) :=
  .of_wp fun prog w A R s h => by
    obtain ⟨hp, g, d, tk, os⟩ := s
    obtain ⟨hl, h⟩ := h
    have f1 := AutoSeq1.idx_int
    have c1 : (items.isEmpty || (1 : Int) == 1) = true := by simp
    wp_walk using wpAny_loadPart' hl
    repeat (first
      | (refine wpAny_ite_true (decide_eq_true c1) ?_; wp_walk using wpAny_loadPart' hl)
      | (refine wpAny_ite_true c1 ?_; wp_walk using wpAny_loadPart' hl))
    exact ⟨_, rfl, h⟩
def rOnce (K : PySem.W.Frag) : R2 := fun x y H Q => ∃ l xs, x = .ref l ∧ y = .int 1 ∧ SqT K H l xs ∧ Q (.ref l) H
theorem op_once {X : Cx} : OpR X (binaryOp .Mult) (rOnce X.K) := by
  intro pins s σ H x y v u Q I rx ry h
  obtain ⟨l, xs, rfl, rfl, hT, q⟩ := h
  cases rx
  obtain ⟨t, rfl⟩ := ry
  obtain ⟨its, r, ⟨⟨cls, dd, data, sl⟩, ho, hc, n, hd⟩, hs⟩ := I.tuple hT
  simp only at hc hd
  subst hc hd
  refine wpAny_binaryOp_repeat_ref (T := "tuple") (U := "int") (by decide) ⟨_, ho, rfl⟩ (fun s' => typeIs_int s' 1 t) noFill_tuple_mul F.fills_int_mul F.slot_int_rmul repeat_tuple F.slot_int_index.lookup
    (call_meets F.slot_int_rmul (typeIs_int s 1 t) F.entry_int_rmul (F.args_int_rmul_2 _ _) (int_rmul_tuple 1 t l its.toArray n dd sl)
      ⟨ho, rfl, ⟨_, ho, rfl⟩, call_meets F.slot_tuple_mul ⟨_, ho, rfl⟩ F.entry_tuple_mul (F.args_tuple_mul_2 _ _) (once_meets l its.toArray n dd sl t) ⟨ho, ⟨.ref l, H, I, rfl, q⟩⟩⟩)
/-- t * k, k one or more -/
def rTimes (K : PySem.W.Frag) : R2 := fun x y H Q => rOnce K x y H Q ∨ rRepT K x y H Q
theorem op_times {X : Cx} : OpR X (binaryOp .Mult) (rTimes X.K) := op_once.or op_repT
def rLenS (K : PySem.W.Frag) : List V → Hp → VK → Prop := fun xs H Q => ∃ p ys, xs = [.ref p] ∧ (SqL K H p ys ∨ SqT K H p ys) ∧ Q (.int ys.length) H
theorem call_lenS {X : Cx} : CallR X (.builtin "len") (rLenS X.K) := call_len_seq
def rTupOf (K : PySem.W.Frag) : List V → Hp → VK → Prop := fun xs H Q => ∃ p ys, xs = [.ref p] ∧ ((SqL K H p ys ∧ ∀ l, H l = none → Q (.ref l) (upd H l (.tup ys))) ∨ (SqT K H p ys ∧ Q (.ref p) H))
theorem call_tupOf {X : Cx} : CallR X (.type "tuple") (rTupOf X.K) := call_tuple_of
def rLstOf (K : PySem.W.Frag) : List V → Hp → VK → Prop := fun xs H Q => ∃ p ys, xs = [.ref p] ∧ (SqL K H p ys ∨ SqT K H p ys) ∧ ∀ l, H l = none → Q (.ref l) (upd H l (.lst ys))
theorem call_lstOf {X : Cx} : CallR X (.type "list") (rLstOf X.K) := call_list_of
end Fm
end FFmSeq
section FQ1
set_option Elab.async false
set_option linter.all false
set_option maxRecDepth 100000
set_option maxHeartbeats 4000000
local macro_rules | `(tactic| walk_at "ne") => `(tactic| first | assumption | (apply Ne.symm; assumption) | exact L2.ne_of_none (by assumption) (by assumption) | exact Ne.symm (L2.ne_of_none (by assumption) (by assumption)))
local macro_rules | `(tactic| walk_at "hl") => `(tactic| first | assumption | exact L2.upd_same | (refine Eq.trans (L2.upd_ne (by walk_at "ne")) ?_; walk_at "hl"))
local macro_rules | `(tactic| walk_at "sd") => `(tactic| first | (with_reducible show (_ : Int) < _; omega) | (with_reducible show (_ : Int) ≤ _; omega) | assumption | decide | exact ⟨by assumption, by assumption⟩ | exact ⟨by decide, by decide⟩ | exact Or.inr ⟨by decide, by decide⟩ | exact Or.inl ⟨by omega, by omega⟩ | rfl)
local macro_rules | `(tactic| walk_at "st1") => `(tactic| first
  | refine ⟨_, rfl, ?_⟩
  | refine ⟨_, _, rfl, rfl, ?_⟩
  | refine ⟨_, _, rfl, ?_⟩
  | (refine ⟨_, _, _, _, rfl, rfl, L2.SqL.of (by walk_at "hl"), rfl, ?_⟩)
  | (refine ⟨_, _, _, _, rfl, rfl, L2.SqT.of (by walk_at "hl"), rfl, ?_⟩)
  | (refine ⟨_, _, _, _, rfl, rfl, (by walk_at "hl"), rfl, ?_⟩)
  | (refine And.intro (by walk_at "sd") ?_)
  )
local macro_rules | `(tactic| walk_at "st") => `(tactic| repeat walk_at "st1")
local macro_rules | `(tactic| walk_at "op") => `(tactic| try dsimp only [L2.tSeq, L2.tAsg, L2.tOp, L2.tVar, L2.tC, L2.gSub, L2.rI, L2.rI0, L2.rIxL, L2.rIxT, L2.rSetL, L2.tIfS, L2.tTest, L2.tRet, L2.gName, L2.tNext, L2.tAnd, L2.tOr, L2.tNot, L2.tAndV, L2.tOrV, L2.tNotV, L2.tB, L2.tCB, L2.tCons, L2.tNil, L2.tCall, L2.tTup, L2.tLst, L2.tChain, L2.tUn, L2.tPar, L2.tDrop, L2.tIf, L2.tBM, L2.tBM0, L2.rAppend, L2.rCat, L2.rIsi, L2.rIsiT, L2.gTup, L2.gCons, L2.gNil, Fm.tFor_eq, Fm.tLc_eq, L2.iTup, L2.iList, L2.iRng1, L2.iRng2, L2.tSl, L2.tPart, L2.tNoPart, L2.rSlL, L2.rEq, L2.rNe, L2.rU, L2.rEqD, L2.rNeD, Fm.tRevT, Fm.rLenS, Fm.rTupOf, Fm.rLstOf, L2.tDNewK, L2.tCallS, L2.WE, Fm.wKeep, Fm.rIsK, Fm.rIsKT, List.cons_append, List.nil_append, L2.tYes])
namespace Fm
open PySem PySem.Spec PyProof.Rows L2
def top (i : Nat) : Stmt := PySem.Challenge.pw_floormeet_k21_far_ends.main.body.getD i (.Pass ⟨0, 0, 0, 0⟩)
abbrev s_is_whole : Stmt := top 6
abbrev N_is_whole : List Str := ["thing"]
theorem sc_is_whole : FnScope N_is_whole ["thing"] (defScope s_is_whole) := ⟨rfl, rfl, rfl, by decide +kernel, rfl, by decide +kernel, by decide +kernel⟩
abbrev s_is_up_to : Stmt := top 7
abbrev N_is_up_to : List Str := ["thing", "most"]
theorem sc_is_up_to : FnScope N_is_up_to ["thing", "most"] (defScope s_is_up_to) := ⟨rfl, rfl, rfl, by decide +kernel, rfl, by decide +kernel, by decide +kernel⟩
abbrev s_is_tuple_of : Stmt := top 8
abbrev N_is_tuple_of : List Str := ["thing", "many"]
theorem sc_is_tuple_of : FnScope N_is_tuple_of ["thing", "many"] (defScope s_is_tuple_of) := ⟨rfl, rfl, rfl, by decide +kernel, rfl, by decide +kernel, by decide +kernel⟩
abbrev s_are_up_to : Stmt := top 9
abbrev N_are_up_to : List Str := ["thing", "many", "most", "number"]
theorem sc_are_up_to : FnScope N_are_up_to ["thing", "many", "most"] (defScope s_are_up_to) := ⟨rfl, rfl, rfl, by decide +kernel, rfl, by decide +kernel, by decide +kernel⟩
section
variable {P : Program} {w : World} {K : PySem.W.Frag} {mg : Str → Option Value} {base : Heap}
theorem ok_is_whole (D : Df K mg "is_whole" s_is_whole ["thing"]) (T : Nms mg) : CallOk P w K mg base CX0 1 "is_whole" ["thing"] spWhole := by
  refine df_ok D sc_is_whole (fun vs H Q E h => ?_) (fun f cdv A outer s H vs Q E hr h => ?_)
  · obtain ⟨v, p, d, rfl, _⟩ := h
    rfl
  · obtain ⟨v, p, d, rfl, hd, k⟩ := h
    have nd := sc_is_whole.nd
    refine ⟨_, (pss_one (ps_ret (pe_and (pe_callB (r := rIsi K) call_isi (by rfl) T.n_isinstance (by decide +kernel) (pa_cons (pv 0) (pa_cons (pe_bltn (v := .ty "int") (by rfl) T.n_int (by decide +kernel) rfl) pa_nil))) (pe_one (pe_not (pe_callB (r := rIsi K) call_isi (by rfl) T.n_isinstance (by decide +kernel) (pa_cons (pv 0) (pa_cons (pe_bltn (v := .ty "bool") (by rfl) T.n_bool (by decide +kernel) rfl) pa_nil)))))))), ?_⟩
    walk_at "op"
    walk_at "st"
    refine ⟨_, _, _, _, _, rfl, .ty _, hd.ty, kit_ty (kit_int d), ?_⟩
    walk_at "st"
    refine ite2 (fun c1 => ?_) (fun c1 => ?_)
    · walk_at "st"
      refine ⟨_, _, _, _, _, rfl, .ty _, hd.ty, kit_ty (kit_bool d), ?_⟩
      walk_at "st"
      refine k _ ?_
      cases d <;> simp_all [isI, isB]
    · refine k _ ?_
      cases d <;> simp_all [isI, isB]
theorem ok_is_up_to (D : Df K mg "is_up_to" s_is_up_to ["thing", "most"]) (T : Nms mg) (c_is_whole : CallOk P w K mg base CX0 1 "is_whole" ["thing"] spWhole) : CallOk P w K mg base CX0 2 "is_up_to" ["thing", "most"] spUpTo := by
  refine df_ok D sc_is_up_to (fun vs H Q E h => ?_) (fun f cdv A outer s H vs Q E hr h => ?_)
  · obtain ⟨v, mv, p, d, rfl, _⟩ := h
    rfl
  · obtain ⟨v, mv, p, d, rfl, hd, hm, k⟩ := h
    have nd := sc_is_up_to.nd
    refine ⟨_, (pss_cons (ps_if (PW.pt (pw_or (pt_not (pt_val (pe_cc c_is_whole (hr.mono (by omega)) (pa_cons (pv 0) pa_nil)))) (pw_or1 (pt_cmpR op_lt (pv 0) pe_int (nomark _))))) (pss_one (ps_ret pe_bl)) pss_nil)
      (pss_one (ps_ret (pe_or (pe_cmpR op_isN (pv 1) pe_non (nomark _)) (pe_one (pe_cmpR op_le (pv 0) (pv 1) (nomark _))))))), ?_⟩
    walk_at "op"
    walk_at "st"
    refine ⟨v, p, d, rfl, hd, fun b hb => ?_⟩
    walk_at "st"
    cases b with
    | false =>
      refine iteT (iteT (k false ⟨fun z => Bool.noConfusion z, fun ⟨i, e, _⟩ => hb.mpr ⟨i, e⟩⟩))
    | true =>
      obtain ⟨i, rfl⟩ := hb.mp rfl
      obtain rfl := hd.isInt
      refine iteF ?_
      walk_at "st"
      refine ite2 (fun c0 => ?_) (fun c0 => ?_)
      · refine k false ⟨fun z => Bool.noConfusion z, fun ⟨j, e, h0, _⟩ => ?_⟩
        cases e
        have := of_decide_eq_true c0
        omega
      · have c1 : 0 ≤ i := by
          have := of_decide_eq_false (Bool.eq_false_iff.mpr c0)
          omega
        walk_at "st"
        rcases hm with rfl | ⟨M, rfl⟩
        · refine iteT (k true ⟨fun _ => ⟨i, rfl, c1, fun M z => by cases z⟩, fun _ => rfl⟩)
        · refine iteF ?_
          walk_at "st"
          refine k _ ⟨fun z => ⟨i, rfl, c1, fun N e => ?_⟩, fun ⟨j, e, _, hM⟩ => ?_⟩
          · cases e
            exact of_decide_eq_true z
          · cases e
            exact decide_eq_true (hM M rfl)
theorem ok_is_tuple_of (D : Df K mg "is_tuple_of" s_is_tuple_of ["thing", "many"]) (T : Nms mg) : CallOk P w K mg base CX0 1 "is_tuple_of" ["thing", "many"] spTupOf := by
  refine df_ok D sc_is_tuple_of (fun vs H Q E h => ?_) (fun f cdv A outer s H vs Q E hr h => ?_)
  · obtain ⟨v, n, p, d, rfl, _⟩ := h
    rfl
  · obtain ⟨v, n, p, d, rfl, hd, k⟩ := h
    have nd := sc_is_tuple_of.nd
    refine ⟨_, (pss_one (ps_ret (pe_and (pe_callB (r := rIsi K) call_isi (by rfl) T.n_isinstance (by decide +kernel) (pa_cons (pv 0) (pa_cons (pe_bltn (v := .ty "tuple") (by rfl) T.n_tuple (by decide +kernel) rfl) pa_nil))) (pe_one (pe_cmpR op_eq (pe_callB (r := rLenS K) call_lenS (by rfl) T.n_len (by decide +kernel) (pa_cons (pv 0) pa_nil)) (pv 1) (nomark _)))))), ?_⟩
    walk_at "op"
    walk_at "st"
    refine ⟨_, _, _, _, _, rfl, .ty _, hd.ty, kit_ty (kit_tuple d), ?_⟩
    walk_at "st"
    refine ite2 (fun c1 => ?_) (fun c1 => ?_)
    · obtain ⟨ds, rfl⟩ := isTu_iff.mp c1
      obtain ⟨a, xs, rfl, ha, _, hs⟩ := hd.isTup
      walk_at "st"
      refine ⟨_, _, rfl, .inr (SqT.of ha), ?_⟩
      walk_at "st"
      refine k _ ⟨fun z => ⟨ds, rfl, ?_⟩, fun ⟨es, e, z⟩ => ?_⟩
      · have := of_decide_eq_true z
        cases this
        rw [hs.1]
      · cases e
        rw [← hs.1] at z
        exact decide_eq_true (by rw [z])
    · exact k false ⟨fun z => Bool.noConfusion z, fun ⟨ds, e, _⟩ => absurd (isTu_iff.mpr ⟨ds, e⟩) c1⟩
theorem ok_are_up_to (D : Df K mg "are_up_to" s_are_up_to ["thing", "many", "most"]) (T : Nms mg) (c_is_tuple_of : CallOk P w K mg base CX0 1 "is_tuple_of" ["thing", "many"] spTupOf)
    (c_is_up_to : CallOk P w K mg base CX0 2 "is_up_to" ["thing", "most"] spUpTo) : CallOk P w K mg base CX0 3 "are_up_to" ["thing", "many", "most"] spAre := by
  refine df_ok D sc_are_up_to (fun vs H Q E h => ?_) (fun f cdv A outer s H vs Q E hr h => ?_)
  · obtain ⟨v, mv, n, p, d, rfl, _⟩ := h
    rfl
  · obtain ⟨v, mv, n, p, d, rfl, hd, hm, k⟩ := h
    have nd := sc_are_up_to.nd
    refine ⟨_, (pss_cons (ps_if (pt_not (pt_val (pe_cc c_is_tuple_of (hr.mono (by omega)) (pa_cons (pv 0) (pa_cons (pv 1) pa_nil))))) (pss_one (ps_ret pe_bl)) pss_nil)
      (pss_cons (ps_for PassesOwn.never rfl (pi_tup (pv 0)) (pg_name (i := 3) nd rfl (Or.inl rfl)) (pss_one (ps_if (pt_not (pt_val (pe_cc c_is_up_to (hr.mono (by omega)) (pa_cons (pv 3) (pa_cons (pv 2) pa_nil))))) (pss_one (ps_ret pe_bl)) pss_nil)))
      (pss_one (ps_ret pe_bl)))), ?_⟩
    walk_at "op"
    walk_at "st"
    refine ⟨v, n, p, d, rfl, hd, fun b hb => ?_⟩
    walk_at "st"
    cases b with
    | false =>
      refine iteT (k false ⟨fun z => Bool.noConfusion z, fun ⟨ds, e, hl, _⟩ => hb.mpr ⟨ds, e, hl⟩⟩)
    | true =>
      obtain ⟨ds, rfl, hl⟩ := hb.mp rfl
      obtain ⟨a, xs, rfl, ha, _, hs⟩ := hd.isTup
      refine iteF ?_
      walk_at "st"
      refine ⟨⟨_, SqT.of ha⟩, fT (xs := xs) (fun i σ H' => H' = H ∧ (∃ u, σ = [some (.ref a), some (.int n), some mv, u]) ∧ ∀ j e, j < i → ds[j]? = some e → UpTo mv e)
        ⟨rfl, ⟨none, rfl⟩, fun j e hj => absurd hj (Nat.not_lt_zero j)⟩ (fun i σ H' _ ⟨e, _⟩ => by rw [e]; exact SqT.of ha) ?_ ?_⟩
      · rintro i x σ H' hx ⟨rfl, ⟨u, rfl⟩, hi⟩
        obtain ⟨e, he, hde⟩ := hs.at hx
        walk_at "op"
        walk_at "st"
        refine ⟨x, mv, p, e, rfl, hde, hm, fun b hb => ?_⟩
        walk_at "st"
        cases b with
        | false =>
          refine iteT (k false ⟨fun z => Bool.noConfusion z, fun ⟨es, e1, _, h2⟩ => ?_⟩)
          cases e1
          exact hb.mpr (h2 e (List.mem_of_getElem? he))
        | true =>
          refine iteF ⟨rfl, ⟨_, rfl⟩, fun j e' hj he' => ?_⟩
          by_cases hji : j = i
          · subst hji
            rw [he] at he'
            cases he'
            exact hb.mp rfl
          · exact hi j e' (by omega) he'
      · rintro σ H' ⟨rfl, _, hi⟩
        walk_at "op"
        refine k true ⟨fun _ => ⟨ds, rfl, hl, fun e he => ?_⟩, fun _ => rfl⟩
        obtain ⟨j, hj⟩ := List.getElem?_of_mem he
        exact hi j e (by rw [hs.1]; exact (List.getElem?_eq_some_iff.mp hj).1) hj
end
end Fm
end FQ1
section FQ2
set_option Elab.async false
set_option linter.all false
set_option maxRecDepth 100000
set_option maxHeartbeats 4000000
local macro_rules | `(tactic| walk_at "ne") => `(tactic| first | assumption | (apply Ne.symm; assumption) | exact L2.ne_of_none (by assumption) (by assumption) | exact Ne.symm (L2.ne_of_none (by assumption) (by assumption)))
local macro_rules | `(tactic| walk_at "hl") => `(tactic| first | assumption | exact L2.upd_same | (refine Eq.trans (L2.upd_ne (by walk_at "ne")) ?_; walk_at "hl"))
local macro_rules | `(tactic| walk_at "sd") => `(tactic| first | (with_reducible show (_ : Int) < _; omega) | (with_reducible show (_ : Int) ≤ _; omega) | assumption | decide | exact ⟨by assumption, by assumption⟩ | exact ⟨by decide, by decide⟩ | exact Or.inr ⟨by decide, by decide⟩ | exact Or.inl ⟨by omega, by omega⟩ | rfl)
local macro_rules | `(tactic| walk_at "st1") => `(tactic| first
  | refine ⟨_, rfl, ?_⟩
  | refine ⟨_, _, rfl, rfl, ?_⟩
  | refine ⟨_, _, rfl, ?_⟩
  | (refine ⟨_, _, _, _, rfl, rfl, L2.SqL.of (by walk_at "hl"), rfl, ?_⟩)
  | (refine ⟨_, _, _, _, rfl, rfl, L2.SqT.of (by walk_at "hl"), rfl, ?_⟩)
  | (refine ⟨_, _, _, _, rfl, rfl, (by walk_at "hl"), rfl, ?_⟩)
  | (refine And.intro (by walk_at "sd") ?_)
  )
local macro_rules | `(tactic| walk_at "st") => `(tactic| repeat walk_at "st1")
local macro_rules | `(tactic| walk_at "op") => `(tactic| try dsimp only [L2.tSeq, L2.tAsg, L2.tOp, L2.tVar, L2.tC, L2.gSub, L2.rI, L2.rI0, L2.rIxL, L2.rIxT, L2.rSetL, L2.tIfS, L2.tTest, L2.tRet, L2.gName, L2.tNext, L2.tAnd, L2.tOr, L2.tNot, L2.tAndV, L2.tOrV, L2.tNotV, L2.tB, L2.tCB, L2.tCons, L2.tNil, L2.tCall, L2.tTup, L2.tLst, L2.tChain, L2.tUn, L2.tPar, L2.tDrop, L2.tIf, L2.tBM, L2.tBM0, L2.rAppend, L2.rCat, L2.rIsi, L2.rIsiT, L2.gTup, L2.gCons, L2.gNil, Fm.tFor_eq, Fm.tLc_eq, L2.iTup, L2.iList, L2.iRng1, L2.iRng2, L2.tSl, L2.tPart, L2.tNoPart, L2.rSlL, L2.rEq, L2.rNe, L2.rU, L2.rEqD, L2.rNeD, Fm.tRevT, Fm.rLenS, Fm.rTupOf, Fm.rLstOf, L2.tDNewK, L2.tCallS, L2.WE, Fm.wKeep, Fm.rIsK, Fm.rIsKT, List.cons_append, List.nil_append, L2.tYes])
namespace Fm
open PySem PySem.Spec PyProof.Rows L2
abbrev s_is_table : Stmt := top 14
abbrev N_is_table : List Str := ["thing", "m", "row", "a", "b"]
theorem sc_is_table : FnScope N_is_table ["thing", "m"] (defScope s_is_table) := ⟨rfl, rfl, rfl, by decide +kernel, rfl, by decide +kernel, by decide +kernel⟩
section
variable {P : Program} {w : World} {K : PySem.W.Frag} {mg : Str → Option Value} {base : Heap}
theorem row_iff {m : Nat} {d : PyData} : (∃ ds, d = .tuple ds ∧ (ds.length : Int) = m ∧ ∀ e ∈ ds, UpTo (.int ((m : Int) - 1)) e) ↔ RowD m d := by
  constructor
  · rintro ⟨ds, rfl, hl, h⟩
    refine ⟨ds, rfl, by omega, fun e he => ?_⟩
    obtain ⟨i, rfl, h0, hM⟩ := h e he
    exact ⟨i, rfl, h0, by have := hM _ rfl; omega⟩
  · rintro ⟨ds, rfl, hl, h⟩
    refine ⟨ds, rfl, by omega, fun e he => ?_⟩
    obtain ⟨i, rfl, h0, hM⟩ := h e he
    exact ⟨i, rfl, h0, fun M z => by cases z; omega⟩
theorem cell_at {H : Hp} {p : Addr} {xs : List V} {ds : List PyData} {m : Nat} (hs : Dats H p xs ds) (hl : ds.length = m) (hr : ∀ r ∈ ds, RowD m r) {a b : Nat} (ha : a < m) (hb : b < m) :
    ∃ (ra : Addr) (ys : List V) (i : Int), xs[a]? = some (.ref ra) ∧ H ra = some (.tup ys) ∧ ys[b]? = some (.int i) ∧ cellD ds a b = .int i ∧ 0 ≤ i ∧ i < m := by
  have e1 : ds[a]? = some ds[a] := List.getElem?_eq_getElem (by omega)
  obtain ⟨es, he, hes, hi⟩ := hr ds[a] (List.getElem_mem _)
  obtain ⟨x, hx, hd⟩ := hs.back e1
  rw [he] at hd
  obtain ⟨ra, ys, rfl, hra, _, hy⟩ := hd.isTup
  have e2 : es[b]? = some es[b] := List.getElem?_eq_getElem (by omega)
  obtain ⟨i, hei, h0, h1⟩ := hi es[b] (List.getElem_mem _)
  obtain ⟨y, hyb, hyd⟩ := hy.back e2
  rw [hei] at hyd
  obtain rfl := hyd.isInt
  refine ⟨ra, ys, i, hx, hra, hyb, ?_, h0, h1⟩
  unfold cellD
  rw [e1, he]
  simp only [e2, hei, Option.getD_some]
theorem ok_is_table (D : Df K mg "is_table" s_is_table ["thing", "m"]) (T : Nms mg) (c_is_tuple_of : CallOk P w K mg base CX0 1 "is_tuple_of" ["thing", "many"] spTupOf)
    (c_are_up_to : CallOk P w K mg base CX0 3 "are_up_to" ["thing", "many", "most"] spAre) : CallOk P w K mg base CX0 4 "is_table" ["thing", "m"] spTable := by
  refine df_ok D sc_is_table (fun vs H Q E h => ?_) (fun f cdv A outer s H vs Q E hr h => ?_)
  · obtain ⟨v, m, p, d, rfl, _⟩ := h
    rfl
  · obtain ⟨v, m, p, d, rfl, hm, hd, k⟩ := h
    have nd := sc_is_table.nd
    refine ⟨_, (pss_cons (ps_if (pt_not (pt_val (pe_cc c_is_tuple_of (hr.mono (by omega)) (pa_cons (pv 0) (pa_cons (pv 1) pa_nil))))) (pss_one (ps_ret pe_bl)) pss_nil)
      (pss_cons (ps_for PassesOwn.never rfl (pi_tup (pv 0)) (pg_name (i := 2) nd rfl (Or.inl rfl)) (pss_one (ps_if (pt_not (pt_val (pe_cc c_are_up_to (hr.mono (by omega)) (pa_cons (pv 2) (pa_cons (pv 1) (pa_cons (pe_op op_sub (pv 1) pe_int) pa_nil)))))) (pss_one (ps_ret pe_bl)) pss_nil)))
      (pss_cons (ps_for PassesOwn.never rfl (pi_range1 rfl T.n_range (pa_cons (pv 1) pa_nil)) (pg_name (i := 3) nd rfl (Or.inl rfl)) (pss_one (ps_for PassesOwn.never rfl (pi_range1 rfl T.n_range (pa_cons (pv 3) pa_nil)) (pg_name (i := 4) nd rfl (Or.inl rfl)) (pss_one (ps_if (pt_cmpR op_ne (pe_ix (r := rIxT K) ix_tup (pe_ix (r := rIxT K) ix_tup (pv 0) (pv 3) (fun _ _ => rfl)) (pv 4) (fun _ _ => rfl)) (pe_ix (r := rIxT K) ix_tup (pe_ix (r := rIxT K) ix_tup (pv 0) (pv 4) (fun _ _ => rfl)) (pv 3) (fun _ _ => rfl)) (nomark _)) (pss_one (ps_ret pe_bl)) pss_nil)))))
      (pss_one (ps_ret pe_bl))))), ?_⟩
    walk_at "op"
    walk_at "st"
    refine ⟨v, m, p, d, rfl, hd, fun b hb => ?_⟩
    walk_at "st"
    cases b with
    | false =>
      refine iteT (k false ⟨fun z => Bool.noConfusion z, fun ⟨ds, e, hl, _⟩ => hb.mpr ⟨ds, e, by omega⟩⟩)
    | true =>
      obtain ⟨ds, rfl, hl'⟩ := hb.mp rfl
      have hl : ds.length = m := by omega
      obtain ⟨a, xs, rfl, ha, _, hs⟩ := hd.isTup
      refine iteF ?_
      walk_at "st"
      refine ⟨⟨_, SqT.of ha⟩, fT (xs := xs) (fun i σ H' => H' = H ∧ (∃ u, σ = [some (.ref a), some (.int m), u, none, none]) ∧ ∀ j e, j < i → ds[j]? = some e → RowD m e)
        ⟨rfl, ⟨none, rfl⟩, fun j e hj => absurd hj (Nat.not_lt_zero j)⟩ (fun i σ H' _ ⟨e, _⟩ => by rw [e]; exact SqT.of ha) ?_ ?_⟩
      · rintro i x σ H' hx ⟨rfl, ⟨u, rfl⟩, hi⟩
        obtain ⟨e, he, hde⟩ := hs.at hx
        walk_at "op"
        walk_at "st"
        refine ⟨x, _, m, p, e, rfl, hde, .inr ⟨_, rfl⟩, fun b hb => ?_⟩
        rw [row_iff] at hb
        walk_at "st"
        cases b with
        | false =>
          refine iteT (k false ⟨fun z => Bool.noConfusion z, fun ⟨es, e1, _, h2, _⟩ => ?_⟩)
          cases e1
          exact hb.mpr (h2 e (List.mem_of_getElem? he))
        | true =>
          refine iteF ⟨rfl, ⟨_, rfl⟩, fun j e' hj he' => ?_⟩
          by_cases hji : j = i
          · subst hji
            rw [he] at he'
            cases he'
            exact hb.mp rfl
          · exact hi j e' (by omega) he'
      · rintro σ H' ⟨rfl, ⟨u, rfl⟩, hi⟩
        have hrow : ∀ r ∈ ds, RowD m r := fun r hr => by
          obtain ⟨j, hj⟩ := List.getElem?_of_mem hr
          exact hi j r (by rw [hs.1]; exact (List.getElem?_eq_some_iff.mp hj).1) hj
        walk_at "op"
        walk_at "st"
        rw [Int.toNat_natCast]
        refine fR (fun i σ H1 => H1 = H' ∧ (∃ u1 u2 u3, σ = [some (.ref a), some (.int m), u1, u2, u3]) ∧ ∀ x y, x < i → y < x → cellD ds x y = cellD ds y x)
          ⟨rfl, ⟨_, _, _, rfl⟩, fun x y hx => absurd hx (Nat.not_lt_zero x)⟩ ?_ ?_
        · rintro i σ H1 hi1 ⟨rfl, ⟨u1, u2, u3, rfl⟩, hsy⟩
          rw [Int.zero_add]
          walk_at "op"
          walk_at "st"
          rw [Int.toNat_natCast]
          refine fR (fun j σ H2 => H2 = H1 ∧ (∃ u1 u3, σ = [some (.ref a), some (.int m), u1, some (.int i), u3]) ∧ ∀ y, y < j → cellD ds i y = cellD ds y i)
            ⟨rfl, ⟨_, _, rfl⟩, fun y hy => absurd hy (Nat.not_lt_zero y)⟩ ?_ ?_
          · rintro j σ H2 hj ⟨rfl, ⟨u1, u3, rfl⟩, hsj⟩
            rw [Int.zero_add]
            obtain ⟨ra, ya, x1, a1, a2, a3, a4, _⟩ := cell_at hs hl hrow (a := i) (b := j) hi1 (by omega)
            obtain ⟨rb, yb, x2, b1, b2, b3, b4, _⟩ := cell_at hs hl hrow (a := j) (b := i) (by omega) hi1
            walk_at "op"
            walk_at "st"
            refine ⟨_, _, _, _, rfl, rfl, SqT.of ha, atI_nat a1, ?_⟩
            walk_at "st"
            refine ⟨_, _, _, _, rfl, rfl, SqT.of a2, atI_nat a3, ?_⟩
            walk_at "st"
            refine ⟨_, _, _, _, rfl, rfl, SqT.of ha, atI_nat b1, ?_⟩
            walk_at "st"
            refine ⟨_, _, _, _, rfl, rfl, SqT.of b2, atI_nat b3, rfl, ?_⟩
            walk_at "st"
            refine ite2 (fun c0 => ?_) (fun c0 => ?_)
            · refine k false ⟨fun z => Bool.noConfusion z, fun ⟨es, e1, _, _, h3⟩ => ?_⟩
              cases e1
              have q := h3 i j hi1 (by omega)
              rw [a4, b4] at q
              cases q
              simp at c0
            · refine ⟨rfl, ⟨_, _, rfl⟩, fun y hy => ?_⟩
              by_cases hyj : y = j
              · subst hyj
                rw [a4, b4]
                simp at c0
                rw [c0]
              · exact hsj y (by omega)
          · rintro σ H2 ⟨rfl, ⟨u1, u3, rfl⟩, hsj⟩
            refine ⟨rfl, ⟨_, _, _, rfl⟩, fun x y hx hy => ?_⟩
            by_cases hxi : x = i
            · subst hxi
              exact hsj y hy
            · exact hsy x y (by omega) hy
        · rintro σ H1 ⟨rfl, _, hsy⟩
          walk_at "op"
          refine k true ⟨fun _ => ⟨ds, rfl, hl, hrow, fun x y hx hy => ?_⟩, fun _ => rfl⟩
          rcases Nat.lt_trichotomy x y with h | h | h
          · exact (hsy y x hy h).symm
          · rw [h]
          · exact hsy x y hx h
end
end Fm
end FQ2
section FQ3
set_option Elab.async false
set_option linter.all false
set_option maxRecDepth 100000
set_option maxHeartbeats 4000000
local macro_rules | `(tactic| walk_at "ne") => `(tactic| first | assumption | (apply Ne.symm; assumption) | exact L2.ne_of_none (by assumption) (by assumption) | exact Ne.symm (L2.ne_of_none (by assumption) (by assumption)))
local macro_rules | `(tactic| walk_at "hl") => `(tactic| first | assumption | exact L2.upd_same | (refine Eq.trans (L2.upd_ne (by walk_at "ne")) ?_; walk_at "hl"))
local macro_rules | `(tactic| walk_at "sd") => `(tactic| first | (with_reducible show (_ : Int) < _; omega) | (with_reducible show (_ : Int) ≤ _; omega) | assumption | decide | exact ⟨by assumption, by assumption⟩ | exact ⟨by decide, by decide⟩ | exact Or.inr ⟨by decide, by decide⟩ | exact Or.inl ⟨by omega, by omega⟩ | rfl)
local macro_rules | `(tactic| walk_at "st1") => `(tactic| first
  | refine ⟨_, rfl, ?_⟩
  | refine ⟨_, _, rfl, rfl, ?_⟩
  | refine ⟨_, _, rfl, ?_⟩
  | (refine ⟨_, _, _, _, rfl, rfl, L2.SqL.of (by walk_at "hl"), rfl, ?_⟩)
  | (refine ⟨_, _, _, _, rfl, rfl, L2.SqT.of (by walk_at "hl"), rfl, ?_⟩)
  | (refine ⟨_, _, _, _, rfl, rfl, (by walk_at "hl"), rfl, ?_⟩)
  | (refine And.intro (by walk_at "sd") ?_)
  )
local macro_rules | `(tactic| walk_at "st") => `(tactic| repeat walk_at "st1")
local macro_rules | `(tactic| walk_at "op") => `(tactic| try dsimp only [L2.tSeq, L2.tAsg, L2.tOp, L2.tVar, L2.tC, L2.gSub, L2.rI, L2.rI0, L2.rIxL, L2.rIxT, L2.rSetL, L2.tIfS, L2.tTest, L2.tRet, L2.gName, L2.tNext, L2.tAnd, L2.tOr, L2.tNot, L2.tAndV, L2.tOrV, L2.tNotV, L2.tB, L2.tCB, L2.tCons, L2.tNil, L2.tCall, L2.tTup, L2.tLst, L2.tChain, L2.tUn, L2.tPar, L2.tDrop, L2.tIf, L2.tBM, L2.tBM0, L2.rAppend, L2.rCat, L2.rIsi, L2.rIsiT, L2.gTup, L2.gCons, L2.gNil, Fm.tFor_eq, Fm.tLc_eq, L2.iTup, L2.iList, L2.iRng1, L2.iRng2, L2.tSl, L2.tPart, L2.tNoPart, L2.rSlL, L2.rEq, L2.rNe, L2.rU, L2.rEqD, L2.rNeD, Fm.tRevT, Fm.rLenS, Fm.rTupOf, Fm.rLstOf, L2.tDNewK, L2.tCallS, L2.WE, Fm.wKeep, Fm.rIsK, Fm.rIsKT, List.cons_append, List.nil_append, L2.tYes])
namespace Fm
open PySem PySem.Spec PyProof.Rows L2
abbrev s_is_house : Stmt := top 13
abbrev N_is_house : List Str := ["thing", "floor", "first", "stay", "up"]
theorem sc_is_house : FnScope N_is_house ["thing"] (defScope s_is_house) := ⟨rfl, rfl, rfl, by decide +kernel, rfl, by decide +kernel, by decide +kernel⟩
section
variable {P : Program} {w : World} {K : PySem.W.Frag} {mg : Str → Option Value} {base : Heap}
theorem ok_is_house (D : Df K mg "is_house" s_is_house ["thing"]) (T : Nms mg) {tF tN : Tok} (c_MOST_FLOORS : mg "MOST_FLOORS" = some (.int 4 tF)) (c_MOST_NUMBERS : mg "MOST_NUMBERS" = some (.int 6 tN))
    (c_is_tuple_of : CallOk P w K mg base CX0 1 "is_tuple_of" ["thing", "many"] spTupOf) (c_is_table : CallOk P w K mg base CX0 4 "is_table" ["thing", "m"] spTable) : CallOk P w K mg base CX0 5 "is_house" ["thing"] spHouse := by
  refine df_ok D sc_is_house (fun vs H Q E h => ?_) (fun f cdv A outer s H vs Q E hr h => ?_)
  · obtain ⟨v, p, d, rfl, _⟩ := h
    rfl
  · obtain ⟨v, p, d, rfl, hd, k⟩ := h
    have nd := sc_is_house.nd
    refine ⟨_, (pss_cons (ps_if (PW.pt (pw_or (pt_not (pt_val (pe_callB (r := rIsi K) call_isi (by rfl) T.n_isinstance (by decide +kernel) (pa_cons (pv 0) (pa_cons (pe_bltn (v := .ty "tuple") (by rfl) T.n_tuple (by decide +kernel) rfl) pa_nil))))) (pw_or1 (pt_not (pt_chain op_le op_le pe_int (pe_callB (r := rLenS K) call_lenS (by rfl) T.n_len (by decide +kernel) (pa_cons (pv 0) pa_nil)) (pe_glob (v := .int 4) rfl c_MOST_FLOORS ⟨_, rfl⟩)))))) (pss_one (ps_ret pe_bl)) pss_nil)
      (pss_cons (ps_for PassesOwn.never rfl (pi_tup (pv 0)) (pg_name (i := 1) nd rfl (Or.inl rfl)) (pss_one (ps_if (pt_not (pt_val (pe_cc c_is_tuple_of (hr.mono (by omega)) (pa_cons (pv 1) (pa_cons pe_int pa_nil))))) (pss_one (ps_ret pe_bl)) pss_nil)))
      (pss_cons (ps_set (i := 2) nd rfl (Or.inl rfl) (pe_ix (r := rIxT K) ix_tup (pe_ix (r := rIxT K) ix_tup (pv 0) pe_int (fun _ _ => rfl)) pe_int (fun _ _ => rfl)))
      (pss_cons (ps_if (PW.pt (pw_or (pt_not (pt_val (pe_callB (r := rIsi K) call_isi (by rfl) T.n_isinstance (by decide +kernel) (pa_cons (pv 2) (pa_cons (pe_bltn (v := .ty "tuple") (by rfl) T.n_tuple (by decide +kernel) rfl) pa_nil))))) (pw_or1 (pt_not (pt_chain op_le op_le pe_int (pe_callB (r := rLenS K) call_lenS (by rfl) T.n_len (by decide +kernel) (pa_cons (pv 2) pa_nil)) (pe_glob (v := .int 6) rfl c_MOST_NUMBERS ⟨_, rfl⟩)))))) (pss_one (ps_ret pe_bl)) pss_nil)
      (pss_cons (ps_for PassesOwn.never rfl (pi_tup (pv 0)) (pg_tup rfl (pgs_cons (pg_name (i := 3) nd rfl (Or.inl rfl)) (pgs_cons (pg_name (i := 4) nd rfl (Or.inl rfl)) pgs_nil))) (pss_one (ps_if (PW.pt (pw_or (pt_not (pt_val (pe_cc c_is_table (hr.mono (by omega)) (pa_cons (pv 3) (pa_cons (pe_callB (r := rLenS K) call_lenS (by rfl) T.n_len (by decide +kernel) (pa_cons (pv 2) pa_nil)) pa_nil))))) (pw_or1 (pt_not (pt_val (pe_cc c_is_table (hr.mono (by omega)) (pa_cons (pv 4) (pa_cons (pe_callB (r := rLenS K) call_lenS (by rfl) T.n_len (by decide +kernel) (pa_cons (pv 2) pa_nil)) pa_nil)))))))) (pss_one (ps_ret pe_bl)) pss_nil)))
      (pss_one (ps_ret pe_bl))))))), ?_⟩
    walk_at "op"
    walk_at "st"
    refine ⟨_, _, _, _, _, rfl, .ty _, hd.ty, kit_ty (kit_tuple d), ?_⟩
    walk_at "st"
    by_cases ht : isTu d = true
    · obtain ⟨ds, rfl⟩ := isTu_iff.mp ht
      obtain ⟨a, xs, rfl, ha, _, hs⟩ := hd.isTup
      refine iteF ?_
      walk_at "st"
      refine ⟨_, _, rfl, .inr (SqT.of ha), ?_⟩
      walk_at "st"
      by_cases hlo : 1 ≤ xs.length ∧ xs.length ≤ 4
      · rw [decide_eq_true (show (1 : Int) ≤ (xs.length : Int) by omega)]
        refine iteT ?_
        walk_at "st"
        rw [decide_eq_true (show (xs.length : Int) ≤ 4 by omega)]
        refine iteF ?_
        walk_at "st"
        refine ⟨⟨_, SqT.of ha⟩, fT (xs := xs) (fun i σ H' => H' = H ∧ (∃ u, σ = [some (.ref a), u, none, none, none]) ∧ ∀ j e, j < i → ds[j]? = some e → ∃ es, e = .tuple es ∧ es.length = 2)
          ⟨rfl, ⟨none, rfl⟩, fun j e hj => absurd hj (Nat.not_lt_zero j)⟩ (fun i σ H' _ ⟨e, _⟩ => by rw [e]; exact SqT.of ha) ?_ ?_⟩
        · rintro i x σ H' hx ⟨rfl, ⟨u, rfl⟩, hi⟩
          obtain ⟨e, he, hde⟩ := hs.at hx
          walk_at "op"
          walk_at "st"
          refine ⟨x, 2, p, e, rfl, hde, fun b hb => ?_⟩
          walk_at "st"
          cases b with
          | false =>
            refine iteT (k false ⟨fun z => Bool.noConfusion z, fun ⟨m, n, fs, e1, _, _, _, _, _, h3⟩ => ?_⟩)
            cases e1
            obtain ⟨s1, u1, e2, _⟩ := h3 e (List.mem_of_getElem? he)
            exact hb.mpr ⟨_, e2, rfl⟩
          | true =>
            refine iteF ⟨rfl, ⟨_, rfl⟩, fun j e' hj he' => ?_⟩
            by_cases hji : j = i
            · subst hji
              rw [he] at he'
              cases he'
              obtain ⟨es, e1, e2⟩ := hb.mp rfl
              exact ⟨es, e1, by omega⟩
            · exact hi j e' (by omega) he'
        · rintro σ H' ⟨rfl, ⟨u, rfl⟩, hi⟩
          have hpair : ∀ (j : Nat) (e : PyData), ds[j]? = some e → ∃ s1 u1, e = .tuple [s1, u1] := fun j e he => by
            obtain ⟨es, e1, e2⟩ := hi j e (by rw [hs.1]; exact (List.getElem?_eq_some_iff.mp he).1) he
            match es, e2 with
            | [s1, u1], _ => exact ⟨s1, u1, e1⟩
          have hd0 : ds[0]? = some ds[0] := List.getElem?_eq_getElem (by rw [← hs.1]; omega)
          obtain ⟨s0, u0, e0⟩ := hpair 0 _ hd0
          rw [e0] at hd0
          obtain ⟨x0, hx0, hdx0⟩ := hs.back hd0
          obtain ⟨a0, y0, rfl, ha0, _, hs0⟩ := hdx0.isTup
          obtain ⟨z0, hz0, hdz0⟩ := hs0.back (i := 0) (d := s0) rfl
          walk_at "op"
          walk_at "st"
          refine ⟨_, _, _, _, rfl, rfl, SqT.of ha, atI_nat (j := 0) hx0, ?_⟩
          walk_at "st"
          refine ⟨_, _, _, _, rfl, rfl, SqT.of ha0, atI_nat (j := 0) hz0, ?_⟩
          walk_at "st"
          refine ⟨_, _, _, _, _, rfl, .ty _, hdz0.ty, kit_ty (kit_tuple s0), ?_⟩
          walk_at "st"
          have hfirst : ∀ m n, HouseN m n (.tuple ds) → TabD m s0 := fun m n ⟨fs, e1, _, _, _, _, _, h3⟩ => by
            cases e1
            obtain ⟨s1, u1, e2, h4, _⟩ := h3 _ (List.mem_of_getElem? hd0)
            cases e2
            exact h4
          by_cases ht0 : isTu s0 = true
          · obtain ⟨es0, rfl⟩ := isTu_iff.mp ht0
            obtain ⟨af, yf, rfl, haf, _, hsf⟩ := hdz0.isTup
            refine iteF ?_
            walk_at "st"
            refine ⟨_, _, rfl, .inr (SqT.of haf), ?_⟩
            walk_at "st"
            have hm0 : ∀ m n, HouseN m n (.tuple ds) → m = yf.length ∧ 1 ≤ m ∧ m ≤ 6 := fun m n hN => by
              obtain ⟨rs, e1, e2, _⟩ := hfirst m n hN
              cases e1
              obtain ⟨_, _, _, _, _, q1, q2, _⟩ := hN
              exact ⟨by rw [hsf.1, e2], q1, q2⟩
            by_cases hm1 : 1 ≤ yf.length ∧ yf.length ≤ 6
            · rw [decide_eq_true (show (1 : Int) ≤ (yf.length : Int) by omega)]
              refine iteT ?_
              walk_at "st"
              rw [decide_eq_true (show (yf.length : Int) ≤ 6 by omega)]
              refine iteF ?_
              walk_at "st"
              refine ⟨⟨_, SqT.of ha⟩, fT (xs := xs) (fun i σ H1 => H1 = H' ∧ (∃ u1 u2 u3, σ = [some (.ref a), u1, some (.ref af), u2, u3]) ∧ ∀ j e, j < i → ds[j]? = some e → FloorD yf.length e)
                ⟨rfl, ⟨_, _, _, rfl⟩, fun j e hj => absurd hj (Nat.not_lt_zero j)⟩ (fun i σ H1 _ ⟨e, _⟩ => by rw [e]; exact SqT.of ha) ?_ ?_⟩
              · rintro i x σ H1 hx ⟨rfl, ⟨u1, u2, u3, rfl⟩, hfl⟩
                obtain ⟨e, he, hde⟩ := hs.at hx
                obtain ⟨s1, v1, rfl⟩ := hpair i e he
                obtain ⟨ai, yi, rfl, hai, _, hsi⟩ := hde.isTup
                have hlen : yi.length = 2 := hsi.1
                match yi, hlen with
                | [w1, w2], _ =>
                have hw1 : Dat H1 p w1 s1 := hsi.2 0 w1 s1 rfl rfl
                have hw2 : Dat H1 p w2 v1 := hsi.2 1 w2 v1 rfl rfl
                walk_at "op"
                refine ⟨ai, _, rfl, SqT.of hai, rfl, _, _, rfl, _, _, rfl, rfl, ?_⟩
                walk_at "op"
                walk_at "st"
                refine ⟨_, _, rfl, .inr (SqT.of haf), ?_⟩
                refine ⟨w1, yf.length, p, s1, rfl, by omega, hw1, fun b1 hb1 => ?_⟩
                walk_at "st"
                cases b1 with
                | false =>
                  refine iteT (iteT (k false ⟨fun z => Bool.noConfusion z, fun ⟨m, n, hN⟩ => ?_⟩))
                  obtain ⟨rfl, _, _⟩ := hm0 m n hN
                  obtain ⟨fs, e1, _, _, _, _, _, h3⟩ := hN
                  cases e1
                  obtain ⟨s2, v2, e2, h4, _⟩ := h3 _ (List.mem_of_getElem? he)
                  cases e2
                  exact hb1.mpr h4
                | true =>
                  refine iteF ?_
                  walk_at "st"
                  refine ⟨_, _, rfl, .inr (SqT.of haf), ?_⟩
                  refine ⟨w2, yf.length, p, v1, rfl, by omega, hw2, fun b2 hb2 => ?_⟩
                  walk_at "st"
                  cases b2 with
                  | false =>
                    refine iteT (k false ⟨fun z => Bool.noConfusion z, fun ⟨m, n, hN⟩ => ?_⟩)
                    obtain ⟨rfl, _, _⟩ := hm0 m n hN
                    obtain ⟨fs, e1, _, _, _, _, _, h3⟩ := hN
                    cases e1
                    obtain ⟨s2, v2, e2, _, h4⟩ := h3 _ (List.mem_of_getElem? he)
                    cases e2
                    exact hb2.mpr h4
                  | true =>
                    refine iteF ⟨rfl, ⟨_, _, _, rfl⟩, fun j e' hj he' => ?_⟩
                    by_cases hji : j = i
                    · subst hji
                      rw [he] at he'
                      cases he'
                      exact ⟨s1, v1, rfl, hb1.mp rfl, hb2.mp rfl⟩
                    · exact hfl j e' (by omega) he'
              · rintro σ H1 ⟨rfl, _, hfl⟩
                walk_at "op"
                refine k true ⟨fun _ => ⟨yf.length, xs.length, ds, rfl, hs.1.symm, hlo.1, hlo.2, hm1.1, hm1.2, fun e he => ?_⟩, fun _ => rfl⟩
                obtain ⟨j, hj⟩ := List.getElem?_of_mem he
                exact hfl j e (by rw [hs.1]; exact (List.getElem?_eq_some_iff.mp hj).1) hj
            · have no : ¬ HouseD (.tuple ds) := fun ⟨m, n, hN⟩ => by
                obtain ⟨e1, q1, q2⟩ := hm0 m n hN
                exact hm1 (by omega)
              by_cases h1 : 1 ≤ yf.length
              · rw [decide_eq_true (show (1 : Int) ≤ (yf.length : Int) by omega)]
                refine iteT ?_
                walk_at "st"
                rw [decide_eq_false (show ¬ (yf.length : Int) ≤ 6 by omega)]
                exact iteT (k false ⟨fun z => Bool.noConfusion z, fun z => (no z).elim⟩)
              · rw [decide_eq_false (show ¬ (1 : Int) ≤ (yf.length : Int) by omega)]
                refine iteF ?_
                walk_at "st"
                exact iteT (k false ⟨fun z => Bool.noConfusion z, fun z => (no z).elim⟩)
          · have no : ¬ HouseD (.tuple ds) := fun ⟨m, n, hN⟩ => by
              obtain ⟨rs, e1, _⟩ := hfirst m n hN
              exact ht0 (isTu_iff.mpr ⟨rs, e1⟩)
            rw [Bool.eq_false_iff.mpr ht0]
            exact iteT (iteT (k false ⟨fun z => Bool.noConfusion z, fun z => (no z).elim⟩))
      · have no : ¬ HouseD (.tuple ds) := fun ⟨m, n, fs, e1, e2, q1, q2, _⟩ => by
          cases e1
          exact hlo (by rw [hs.1]; omega)
        by_cases h1 : 1 ≤ xs.length
        · rw [decide_eq_true (show (1 : Int) ≤ (xs.length : Int) by omega)]
          refine iteT ?_
          walk_at "st"
          rw [decide_eq_false (show ¬ (xs.length : Int) ≤ 4 by omega)]
          exact iteT (k false ⟨fun z => Bool.noConfusion z, fun z => (no z).elim⟩)
        · rw [decide_eq_false (show ¬ (1 : Int) ≤ (xs.length : Int) by omega)]
          refine iteF ?_
          walk_at "st"
          exact iteT (k false ⟨fun z => Bool.noConfusion z, fun z => (no z).elim⟩)
    · have no : ¬ HouseD d := fun ⟨m, n, fs, e1, _⟩ => ht (isTu_iff.mpr ⟨fs, e1⟩)
      rw [Bool.eq_false_iff.mpr ht]
      exact iteT (iteT (k false ⟨fun z => Bool.noConfusion z, fun z => (no z).elim⟩))
end
end Fm
end FQ3
section FR4
set_option Elab.async false
set_option linter.all false
set_option maxRecDepth 100000
set_option maxHeartbeats 4000000
local macro_rules | `(tactic| walk_at "ne") => `(tactic| first | assumption | (apply Ne.symm; assumption) | exact L2.ne_of_none (by assumption) (by assumption) | exact Ne.symm (L2.ne_of_none (by assumption) (by assumption)))
local macro_rules | `(tactic| walk_at "hl") => `(tactic| first | assumption | exact L2.upd_same | (refine Eq.trans (L2.upd_ne (by walk_at "ne")) ?_; walk_at "hl"))
local macro_rules | `(tactic| walk_at "sd") => `(tactic| first | (with_reducible show (_ : Int) < _; omega) | (with_reducible show (_ : Int) ≤ _; omega) | assumption | decide | exact ⟨by assumption, by assumption⟩ | exact ⟨by decide, by decide⟩ | exact Or.inr ⟨by decide, by decide⟩ | exact Or.inl ⟨by omega, by omega⟩ | rfl)
local macro_rules | `(tactic| walk_at "st1") => `(tactic| first
  | refine ⟨_, rfl, ?_⟩
  | refine ⟨_, _, rfl, rfl, ?_⟩
  | refine ⟨_, _, rfl, ?_⟩
  | (refine ⟨_, _, _, _, rfl, rfl, L2.SqL.of (by walk_at "hl"), rfl, ?_⟩)
  | (refine ⟨_, _, _, _, rfl, rfl, L2.SqT.of (by walk_at "hl"), rfl, ?_⟩)
  | (refine ⟨_, _, _, _, rfl, rfl, (by walk_at "hl"), rfl, ?_⟩)
  | (refine And.intro (by walk_at "sd") ?_)
  )
local macro_rules | `(tactic| walk_at "st") => `(tactic| repeat walk_at "st1")
local macro_rules | `(tactic| walk_at "op") => `(tactic| try dsimp only [L2.tSeq, L2.tAsg, L2.tOp, L2.tVar, L2.tC, L2.gSub, L2.rI, L2.rI0, L2.rIxL, L2.rIxT, L2.rSetL, L2.tIfS, L2.tTest, L2.tRet, L2.gName, L2.tNext, L2.tAnd, L2.tOr, L2.tNot, L2.tAndV, L2.tOrV, L2.tNotV, L2.tB, L2.tCB, L2.tCons, L2.tNil, L2.tCall, L2.tTup, L2.tLst, L2.tChain, L2.tUn, L2.tPar, L2.tDrop, L2.tIf, L2.tBM, L2.tBM0, L2.rAppend, L2.rCat, L2.rIsi, L2.rIsiT, L2.gTup, L2.gCons, L2.gNil, Fm.tFor_eq, Fm.tLc_eq, L2.iTup, L2.iList, L2.iRng1, L2.iRng2, L2.tSl, L2.tPart, L2.tNoPart, L2.rSlL, L2.rEq, L2.rNe, L2.rU, L2.rEqD, L2.rNeD, Fm.tRevT, Fm.rLenS, Fm.rTupOf, Fm.rLstOf, L2.tDNewK, L2.tCallS, L2.WE, Fm.wKeep, Fm.rIsK, Fm.rIsKT, List.cons_append, List.nil_append, L2.tYes])
namespace Fm
open PySem PySem.Spec PyProof.Rows L2
abbrev s_size : Stmt := top 15
abbrev N_size : List Str := ["house"]
theorem sc_size : FnScope N_size ["house"] (defScope s_size) := ⟨rfl, rfl, rfl, by decide +kernel, rfl, by decide +kernel, by decide +kernel⟩
section
variable {P : Program} {w : World} {K : PySem.W.Frag} {mg : Str → Option Value} {base : Heap}
theorem ok_size (D : Df K mg "size" s_size ["house"]) (T : Nms mg) {C M : Addr} (EX : Exn K mg "NoHouse" C M) (c_is_house : CallOk P w K mg base CX0 5 "is_house" ["thing"] spHouse) : CallOk P w K mg base (L2.CX P w) 6 "size" ["house"] (spSize C) := by
  refine df_okX D sc_size (fun vs H Q E h => ?_) (fun f cdv A outer s H vs Q E hr h => ?_)
  · obtain ⟨v, p, d, rfl, _⟩ := h
    rfl
  · obtain ⟨v, p, d, rfl, hd, k1, k2⟩ := h
    have nd := sc_size.nd
    refine ⟨_, (pss_cons (ps_if (pt_not (pt_val (pe_cc c_is_house (hr.mono (by omega)) (pa_cons (pv 0) pa_nil)))) (pss_one (ps_raiseE rfl (takes_of rfl rfl rfl rfl) EX rfl)) pss_nil)
      (pss_one (ps_ret (pe_tup (pa_cons (pe_callB (r := rLenS K) call_lenS (by rfl) T.n_len (by decide +kernel) (pa_cons (pe_ix (r := rIxT K) ix_tup (pe_ix (r := rIxT K) ix_tup (pv 0) pe_int (fun _ _ => rfl)) pe_int (fun _ _ => rfl)) pa_nil)) (pa_cons (pe_callB (r := rLenS K) call_lenS (by rfl) T.n_len (by decide +kernel) (pa_cons (pv 0) pa_nil)) pa_nil)))))), ?_⟩
    walk_at "op"
    walk_at "st"
    refine ⟨v, p, d, rfl, hd, fun b hb => ?_⟩
    walk_at "st"
    cases b with
    | false => exact iteT (k2 fun z => Bool.noConfusion (hb.mpr z))
    | true =>
      obtain ⟨m, n, hN⟩ := hb.mp rfl
      obtain ⟨fs, rfl, hl, h1, _, _, _, hf⟩ := id hN
      obtain ⟨a, xs, rfl, ha, _, hs⟩ := hd.isTup
      have hd0 : fs[0]? = some fs[0] := List.getElem?_eq_getElem (by omega)
      obtain ⟨s0, u0, e0, ⟨rs, e1, e2, _⟩, _⟩ := hf fs[0] (List.getElem_mem _)
      rw [e0] at hd0
      subst e1
      obtain ⟨x0, hx0, hdx0⟩ := hs.back hd0
      obtain ⟨a0, y0, rfl, ha0, _, hs0⟩ := hdx0.isTup
      obtain ⟨z0, hz0, hdz0⟩ := hs0.back (i := 0) rfl
      obtain ⟨af, yf, rfl, haf, _, hsf⟩ := hdz0.isTup
      refine iteF ?_
      walk_at "op"
      walk_at "st"
      refine ⟨_, _, _, _, rfl, rfl, SqT.of ha, atI_nat (j := 0) hx0, ?_⟩
      walk_at "st"
      refine ⟨_, _, _, _, rfl, rfl, SqT.of ha0, atI_nat (j := 0) hz0, ?_⟩
      refine ⟨_, _, rfl, .inr (SqT.of haf), ?_⟩
      walk_at "st"
      refine ⟨_, _, rfl, .inr (SqT.of ha), ?_⟩
      refine ⟨by show 2 ≤ sizeLine; decide, fun q hq => ?_⟩
      refine k1 m n hN q _ hq ?_ (same_new hq)
      rw [upd_same, hsf.1, e2, hs.1, hl]
end
end Fm
end FR4
section FFmMore
set_option Elab.async false
set_option linter.all false
set_option maxRecDepth 100000
set_option maxHeartbeats 4000000
namespace Fm
open PySem PySem.Spec PyProof.Rows L2
/-- the sum of a tuple's ints -/
def rSumT (K : PySem.W.Frag) : List V → Hp → VK → Prop := fun vs H Q => ∃ (a : Addr) (ns : List Int), vs = [V.ref a] ∧ SqT K H a (ns.map V.int) ∧ Q (.int ns.sum) H
theorem cr_sumT {X : Cx} (hc : X.calm = true) : CallR X (.builtin "sum") (rSumT X.K) := by
  intro pins s σ H vs us Q I r h
  obtain ⟨a, ns, rfl, hs, q⟩ := h
  obtain ⟨its, rv, ⟨o, ho, hcl, n, hd⟩, _⟩ := I.tuple hs
  obtain rfl := Vals.ref1 r
  have hi := rv.ints
  obtain ⟨xs, e⟩ := hi.allInts.items
  have hn : numsOf (PySem.intItems xs).toList = ns := by rw [← e]; exact hi.numsOf
  rw [nums_intItems] at hn
  rw [e] at hd
  refine PySem.W.ktm_sumG (I.ok.hd hc) ⟨o, ho, hcl, n, hd⟩ fun h' tk t' hk => ?_
  rw [preSum_eq, List.take_of_length_le (by simp), hn]
  exact ⟨.int _, H, I.kept hk, ⟨_, rfl⟩, q⟩
def rSumI (K : PySem.W.Frag) : List V → Hp → VK → Prop := fun vs H Q => rSum K vs H Q ∨ rSumT K vs H Q
theorem cr_sumI {X : Cx} (hc : X.calm = true) : CallR X (.builtin "sum") (rSumI X.K) := (cr_sum hc).or (cr_sumT hc)
/-- xs[i], read by xs[i] += e -/
def rGetL (K : PySem.W.Frag) : V → V → Hp → VK → Prop := fun x y H Q => ∃ (p : Addr) (xs : List V) (i : Nat) (v : V), x = .ref p ∧ y = .int i ∧ SqL K H p xs ∧ xs[i]? = some v ∧ Q v H
theorem get_list {X : Cx} : PGet X (rGetL X.K) := by
  intro pins s σ H o i ov iv Q I ro ri h
  obtain ⟨p, xs, i, z, rfl, rfl, hq, he, q⟩ := h
  cases ro
  obtain ⟨t, rfl⟩ := ri
  obtain ⟨its, r, pl, hz⟩ := I.list hq
  obtain ⟨u, eu, ru⟩ := r.get he
  have hi : i < xs.length := (List.getElem?_eq_some_iff.mp he).1
  have hn := line63
  refine wpAny_getItem_list pl.isList (by omega) (by omega) (x := u) (by simpa using eu) ?_
  exact ⟨z, H, I, ru, q⟩
/-- a tuple at a, its items counted -/
def IteT (K : PySem.W.Frag) (a : Addr) : It where
  go := fun i H => ∃ (xs : List V) (x : V), SqT K H a xs ∧ xs[i]? = some x
  yld := fun i H v H' => ∃ T x, v = .ref T ∧ H T = none ∧ H' = upd H T (.tup [.int (i : Nat), x]) ∧ ∀ xs, SqT K H a xs → xs[i]? = some x
  stop := fun i H => ∃ xs : List V, SqT K H a xs ∧ xs.length ≤ i
end Fm
end FFmMore
section FFmMore2
set_option Elab.async false
set_option linter.all false
set_option maxRecDepth 100000
set_option maxHeartbeats 4000000
namespace Fm
open PySem PySem.Spec PyProof.Rows L2
/-- the enumerate object e over the tuple at a, its iterator at it, i turns on -/
def EnT (a e it : Addr) (its : Array Value) (i : Nat) (h : Heap) : Prop := (∃ old, IsEnum h e it ((i : Nat) : Int) old) ∧ (h.IsTupleIter it a i ∧ h.IsTuple a its) ∧ e ≠ it ∧ a ≠ it ∧ e ≠ a
theorem turn_enumT {P : Program} {w : World} {K : PySem.W.Frag} {elts : List Expr} {kk : Nat} {tpos : Pos} (a e it : Addr) (hei : e ≠ it) (hai : a ≠ it) (hea : e ≠ a) :
    Turn P w K (.Tuple elts kk tpos) (IteT K a) [e, it] e (fun i h => (∃ old, IsEnum h e it ((i : Nat) : Int) old) ∧ h.IsTupleIter it a i) where
  mem := List.mem_cons_self
  obj := fun i h st b hb => by
    obtain ⟨⟨old, he⟩, o, ho, _, hd⟩ := st
    rcases List.mem_cons.mp hb with z | z
    · subst z
      exact ⟨_, he, fun v q => nomatch q⟩
    · obtain rfl := List.mem_singleton.mp z
      exact ⟨o, ho, fun v q => by rw [hd] at q; cases q⟩
  keep := fun i h h' st k => by
    obtain ⟨⟨old, he⟩, hi⟩ := st
    exact ⟨⟨old, k e List.mem_cons_self _ he⟩, hi.at fun o q => k it (List.mem_cons_of_mem _ List.mem_cons_self) o q⟩
  item := by
    intro X hP hw hK hc i pins s σ H E I hf st hg
    subst hP hw hK
    obtain ⟨⟨old, he⟩, hit⟩ := st
    obtain ⟨xs, x, hq, hx⟩ := hg
    obtain ⟨its, rv, ⟨o, ho, hoc, no, hod⟩, hz⟩ := I.tuple hq
    have ht : s.heap.IsTuple a its.toArray := ⟨o, ho, hoc, no, hod⟩
    obtain ⟨u, hu, ru⟩ := rv.get hx
    have hlt : i < its.toArray.size := by
      rw [List.size_toArray, ← rv.length]
      exact (List.getElem?_eq_some_iff.mp hx).1
    have hel : e < s.heap.objs.size := Heap.lt_size he
    have hil : it < s.heap.objs.size := by
      obtain ⟨_, q, _⟩ := hit
      exact Heap.lt_size q
    have hef : e ∉ [it, a] := by
      intro z
      rcases List.mem_cons.mp z with z | z
      · exact hei z
      · exact hea (List.mem_singleton.mp z)
    refine wpAny_pyNext_enum_itemD (Draws.tuple (prog := X.prog) (w := X.w) (A := X.A.in1) (show X.A.in1.handled = none from I.ok.hd hc) it a hai its.toArray) he ⟨hit, ht⟩ hlt hei hef fun y h' tk hy ho' st' hT hsz hk => ?_
    have ey : y = u := by
      have q : its.toArray[i]? = some u := by simpa using hu
      rw [q] at hy
      exact (Option.some.inj hy).symm
    subst ey
    refine ⟨_, rfl, wpAny_letOwnedTupleGo_enum (s := { s with heap := h', toks := tk + 1 }) ho' fun h2 he2 sb => ?_⟩
    have hT2 : h2.get? s.heap.objs.size = some { cls := .type "tuple", data := .seq #[.int i tk, y] } := (sb.2 _ (Nat.ne_of_gt hel)).trans hT
    have new : ObjOk X.prog X.w (upd H s.heap.objs.size (.tup [.int (i : Nat), x])) h2 s.heap.objs.size (.tup [.int (i : Nat), x]) := by
      refine ⟨by show 2 ≤ sizeLine; decide, [.int i tk, y], .cons ⟨_, rfl⟩ (.cons ru .nil), _, hT2, rfl, _, rfl⟩
    have old2 : ∀ b ob, b ∉ [e, it] → s.heap.get? b = some ob → h2.get? b = some ob := fun b ob hb q => by
      have n1 : b ≠ e := fun z => hb (z ▸ List.mem_cons_self)
      have n2 : b ≠ it := fun z => hb (z ▸ List.mem_cons_of_mem _ List.mem_cons_self)
      exact (sb.2 b n1).trans (hk b ob n1 n2 q)
    have I1 := I.turnedNew (t' := tk + 1) (ch := [e, it]) old2 hf (Nat.le_refl _) new
    refine ⟨.ref s.heap.objs.size, _, I1, rfl, ⟨_, x, rfl, I.hok.fresh (Nat.le_refl _), rfl, fun ys hy => ?_⟩, ⟨⟨y, ?_⟩, ?_⟩, fun b hb => ?_⟩
    · rw [I.tuple_inj hy hq]
      exact hx
    · have e1 : ((i + 1 : Nat) : Int) = (i : Int) + 1 := by omega
      rw [e1]
      exact he2
    · exact st'.1.at fun ob q => (sb.2 it (Ne.symm hei)).trans q
    · have hb' : b < s.heap.objs.size := by
        rcases List.mem_cons.mp hb with z | z
        · rw [z]; exact hel
        · rw [List.mem_singleton.mp z]; exact hil
      rw [upd_ne (Nat.ne_of_lt hb')]
      exact (hf b hb).1
  done := by
    intro X hP hw hK hc i pins s σ H E I hf st hg
    subst hP hw hK
    obtain ⟨⟨old, he⟩, hit⟩ := st
    obtain ⟨xs, hq, hx⟩ := hg
    obtain ⟨its, rv, ⟨o, ho, hoc, no, hod⟩, hz⟩ := I.tuple hq
    have ht : s.heap.IsTuple a its.toArray := ⟨o, ho, hoc, no, hod⟩
    obtain ⟨f0, f1, f2, f3, f4, f5⟩ := hf it (List.mem_cons_of_mem _ List.mem_cons_self)
    have hl : its.toArray.size ≤ i := by
      rw [List.size_toArray, ← rv.length]
      exact hx
    have D : Draws X.prog X.w X.A.in1 it [it, a] i (fun _ _ => False) (fun j h => j = i ∧ h.IsTupleIter it a i ∧ h.IsTuple a its.toArray) := {
      live := fun _ _ st => by
        obtain ⟨o, ho, _⟩ := st.2.1
        exact ⟨o, ho⟩
      frame := fun j h h' st hk => ⟨st.1, st.2.1.at fun o e => hk it List.mem_cons_self o e, st.2.2.at fun o e => hk a (List.mem_cons_of_mem _ List.mem_cons_self) o e⟩
      item := fun j s Q E hj st hQ => absurd st.1 (Nat.ne_of_lt hj)
      done := fun s Q E st hE => wpAny_nextOf_tuple_end (show X.A.in1.handled = none from I.ok.hd hc) st.2.1 st.2.2 (Array.getElem?_eq_none hl) hE }
    exact wpAny_pyNext_enum_endD D he ⟨rfl, hit, ht⟩ fun h' eb => ⟨rfl, I.turned (t' := s.toks) (fun b o hb q => eb b o hb q) f0 f1 f3 f4 f5⟩
  self := fun A i s Q E st h => by
    obtain ⟨⟨_, he⟩, _⟩ := st
    exact wpAny_pyIter_enum he h
end Fm
end FFmMore2
section FFmMore3
set_option Elab.async false
set_option linter.all false
set_option maxRecDepth 100000
set_option maxHeartbeats 4000000
namespace Fm
open PySem PySem.Spec PyProof.Rows L2
theorem meets_enumT (a : Addr) (its : Array Value) :
    Meets (Builtin.«enumerate.__new__» ⟨[.type "enumerate", .ref a], []⟩) (fun _ R s => s.heap.IsTuple a its ∧
      R (.ok (.ret (.ref (s.heap.push { cls := .type "tuple_iterator", data := .fields #[.ref a, .int 0 0] }).objs.size)))
        { s with heap := (s.heap.push { cls := .type "tuple_iterator", data := .fields #[.ref a, .int 0 0] }).push { cls := .type "enumerate", data := .fields #[.none, .bool false, .ref s.heap.objs.size, rawInt 0, .none, .none] } }) :=
  .of_wp fun prog w A R s hh => by
    obtain ⟨hp, g, d, tk, os⟩ := s
    obtain ⟨hT, hh⟩ := hh
    have hsub := PySem.sub_enumerate
    have it1 : ∀ {A' : Around} {E : Value → Shared → Prop} {Q : Value → Shared → Prop}, Q (.ref hp.objs.size) ⟨hp.push { cls := .type "tuple_iterator", data := .fields #[.ref a, .int 0 0] }, g, d, tk, os⟩ → wpAny (model prog w) A' (pyIter (.ref a)) Q E ⟨hp, g, d, tk, os⟩ :=
      fun q => wpAny_pyIter_tuple (s := ⟨hp, g, d, tk, os⟩) hT q
    wp_walk using it1
    refine wpAny_stack_any fun st => wpAny_pure ?_
    split
    · rename_i cc _ _ _ _ _
      cases (cc == Value.type "enumerate") <;> (wp_walk using it1; exact ⟨_, rfl, hh⟩)
    · wp_walk using it1
      exact ⟨_, rfl, hh⟩
theorem call_enumT {prog : Program} {w : World} {A : Around} {E : Value → Shared → Prop} {s : Shared} {a : Addr} {its : Array Value} {Q : Value → Shared → Prop} (hT : s.heap.IsTuple a its)
    (h : ∀ h', IsEnum h' (s.heap.objs.size + 1) s.heap.objs.size 0 .none → h'.IsTupleIter s.heap.objs.size a 0 → (∀ b o, s.heap.get? b = some o → h'.get? b = some o) → Q (.ref (s.heap.objs.size + 1)) { s with heap := h' }) :
    wpAny (model prog w) A (call (.type "enumerate") [.ref a]) Q E s := by
  refine callType_new F.called_enumerate (by decide) (F.typeCall_enumerate_1 _) (F.newCall_enumerate_1 _) (fun obj => F.args_object_init_2 obj _) F.entry_enumerate_new (meets_enumT a its) ⟨hT, ?_⟩
  let h1 := s.heap.push { cls := .type "tuple_iterator", data := .fields #[.ref a, .int 0 0] }
  have hz : h1.objs.size = s.heap.objs.size + 1 := Heap.size_push ..
  show _ ∧ _
  rw [hz]
  let h2 := h1.push { cls := .type "enumerate", data := .fields #[.none, .bool false, .ref s.heap.objs.size, rawInt 0, .none, .none] }
  have he : IsEnum h2 (s.heap.objs.size + 1) s.heap.objs.size 0 .none := by
    have q := Heap.get?_push_size h1 (o := { cls := .type "enumerate", data := .fields #[.none, .bool false, .ref s.heap.objs.size, rawInt 0, .none, .none] }) rfl
    rw [hz] at q
    exact q
  refine ⟨⟨_, he, rfl⟩, h h2 he ⟨_, Heap.get?_push_of_some _ (Heap.get?_push_size _ rfl), rfl, rfl⟩ fun b o x => Heap.get?_push_of_some _ (Heap.get?_push_of_some _ x)⟩
def iEnumT (K : PySem.W.Frag) (ta : TA) : TI := fun σ H R => ta σ H fun vs H1 => ∃ a xs, vs = [.ref a] ∧ SqT K H1 a xs ∧ R (IteT K a) H1
theorem pi_enumT {X : Cx} {e : Expr} {ta : TA} {p pos tpos : Pos} {elts : List Expr} {kk : Nat} (hg : Gl X "enumerate") (hm : X.mg "enumerate" = none) (ha : PA X [e] ta) (hs : starEach [e] X.env = [(false, eval e X.env)] := by rfl) :
    PI X (.Tuple elts kk tpos) (.Call (.Name "enumerate" p) [e] [] pos) (iEnumT X.K ta) := by
  refine ⟨fun pins s σ H R I h => ?_⟩
  refine Call_ (ld_blt I hg hm boot_enumerate (PyProof.Rows.callWith_type1 (thn (ha.run pos pins s σ H _ I h) fun us s1 ⟨vs, H1, I1, r1, q1⟩ => ?_) hs rfl))
  obtain ⟨a, xs, rfl, hq, q⟩ := q1
  obtain rfl := Vals.ref1 r1
  obtain ⟨its, rv, ⟨o, ho, hoc, no, hod⟩, hz⟩ := I1.tuple hq
  have hal : a < s1.heap.objs.size := Heap.lt_size ho
  refine call_enumT (its := its.toArray) ⟨o, ho, hoc, no, hod⟩ fun h' he hit hk => wpAny_pyIter_enum he ?_
  have I2 : Inv X pins σ H1 { s1 with heap := h' } := I1.kept (t' := s1.toks) hk
  refine ⟨s1.heap.objs.size + 1, [s1.heap.objs.size + 1, s1.heap.objs.size], _, _, H1, rfl, I2, turn_enumT a (s1.heap.objs.size + 1) s1.heap.objs.size (Nat.succ_ne_self _) (Nat.ne_of_lt hal) (Nat.ne_of_gt (Nat.lt_succ_of_lt hal)), ⟨⟨.none, he⟩, hit⟩, fun b hb => ?_, q⟩
  have hle : s1.heap.objs.size ≤ b := by
    rcases List.mem_cons.mp hb with z | z
    · rw [z]; exact Nat.le_succ _
    · rw [List.mem_singleton.mp z]; exact Nat.le_refl _
  exact I1.fpOk hle (I1.hok.fresh hle)
theorem walk_enumT {K : PySem.W.Frag} {a : Addr} {xs : List V} : Walk (IteT K a) xs.length (fun H => SqT K H a xs) (YPair (fun i => some (.int (i : Nat))) (fun i => xs[i]?)) where
  goes := fun i _ hi q => ⟨xs, xs[i], q, List.getElem?_eq_getElem hi⟩
  stops := fun _ q => ⟨xs, q, Nat.le_refl _⟩
  yields := fun i H v H' _ q y => by
    obtain ⟨T, x, h1, h2, h3, h4⟩ := y
    exact ⟨T, _, x, h1, h2, h3, rfl, h4 xs q⟩
theorem walk_zipT {K : PySem.W.Frag} {a b : Addr} {xs ys : List V} (hn : xs.length = ys.length) : Walk (RZ.ItzT K a b) xs.length (fun H => SqT K H a xs ∧ SqT K H b ys) (YPair (fun i => xs[i]?) (fun i => ys[i]?)) where
  goes := fun i _ hi q => ⟨xs, ys, xs[i], ys[i]'(by omega), q.1, q.2, List.getElem?_eq_getElem hi, List.getElem?_eq_getElem (by omega)⟩
  stops := fun _ q => ⟨xs, ys, q.1, q.2, .inl (Nat.le_refl _)⟩
  yields := fun i H v H' _ q y => by
    obtain ⟨T, x, z, h1, h2, h3, h4, h5⟩ := y
    exact ⟨T, x, z, h1, h2, h3, h4 xs q.1, h5 ys q.2⟩
section
variable {J : It} {n : Nat} {G : Hp → Prop} {Y : Nat → Hp → V → Hp → Prop}
theorem fI (w : Walk J n G Y) {g : TG} {tb : TS} {D : Ends} {σ : L2.St} {H : Hp} (Pv : Nat → L2.St → Hp → Prop) (h0 : Pv 0 σ H) (hG : ∀ i σ H, i ≤ n → Pv i σ H → G H)
    (hs : ∀ i x σ H H', i < n → Pv i σ H → Y i H x H' → g x σ H' fun σ2 H2 => tb { D with nx := Pv (i + 1), ct := Pv (i + 1), bk := D.nx } σ2 H2) (hd : ∀ σ H, Pv n σ H → D.nx σ H) : ForB J g tb D σ H := for_it w Pv h0 hG hs hd
theorem lI (w : Walk J n G Y) {g : TG} {tt : TT} {te : TE} {vs : List Nat} {σ : L2.St} {H1 : Hp} {D : Addr} {Qd : Hp → Prop} (Pv : Nat → Hp → Prop) (h0 : Pv 0 (upd H1 D (.lst []))) (hG : ∀ i H, i ≤ n → Pv i H → G H)
    (hs : ∀ i x H H', i < n → Pv i H → Y i H x H' → g x (wipe σ vs) H' fun σ2 H2 => wipe σ2 vs = wipe σ vs ∧ tt σ2 H2 fun b H3 =>
      if b = true then te σ2 H3 fun y H4 => ∃ acc, H4 D = some (.lst acc) ∧ acc.length < sizeLine ∧ Pv (i + 1) (upd H4 D (.lst (acc ++ [y]))) else Pv (i + 1) H3) (hd : ∀ H, Pv n H → Qd H) : LcB J g tt te vs σ H1 D Qd := lc_it w Pv h0 hG hs hd
end
end Fm
end FFmMore3
section FFmSumL
set_option Elab.async false
set_option linter.all false
set_option maxRecDepth 100000
set_option maxHeartbeats 4000000
namespace Fm
open PySem PySem.Spec PyProof.Rows L2
/-- the list at b holds us -/
def LstAt (h : Heap) (b : Addr) (us : List Value) : Prop := ∃ n, h.get? b = some { cls := .type "list", data := .seq us.toArray n }
section
variable {prog : Program} {w : World} {A : Around} {R : Result → Shared → Prop} {I : Addr} {fp wr : List Addr} {G : Array GenState → Array GenState → Prop} {n : Nat} {P : Nat → Value → Prop} {St : Nat → Shared → Prop}
/-- what is summed: lists -/
theorem sum_loop_lists (W : WalksS prog w A.in1 I fp wr G n P St) (parts : Nat → List Value) (hP : ∀ i v, P i v → ∃ b, v = .ref b) (hlive : ∀ i s, St i s → ∀ b ∈ wr, b < s.heap.objs.size) (B : Nat) (hB : ∀ i s, St i s → B ≤ s.heap.objs.size) (S : Addr) (hSf : S ∉ fp) :
    ∀ (k i : Nat) (s : Shared) (t : Addr) (us : List Value) (c : Nat), n - i = k → i ≤ n → St i s → s.heap.get? S = some { cls := .type "list", dict := none, data := .seq #[.ref t] c, slots := #[] } → LstAt s.heap t us → t ≠ S → t ∉ wr → 
    (∀ j b s', i ≤ j → j < n → P j (.ref b) → Moved (S :: wr) G s s' → LstAt s'.heap b (parts j) ∧ b ≠ S ∧ b ∉ wr) → (us ++ ((List.range n).drop i).flatMap parts).length ≤ sizeLine →
    (∀ s' t', Moved (S :: wr) G s s' → LstAt s'.heap t' (us ++ ((List.range n).drop i).flatMap parts) → ((t' = t ∧ i = n) ∨ (B ≤ t' ∧ i < n)) → R (.ok (.ret (.ref t'))) s') → codeAny (model prog w) A (.builtin "sum.loop" ⟨[.ref I, .ref S, rawInt 2, rawInt 0], []⟩) R s := by
  have hSw : S ∉ wr := fun h => hSf (W.sub _ h)
  have hsub : ∀ b ∈ wr, b ∈ S :: wr := fun b hb => List.mem_cons_of_mem _ hb
  intro k
  induction k with
  | zero =>
    intro i s t us c hk hi hst hS hT htS htw hparts hlen hR
    obtain rfl : i = n := by omega
    refine codeAny_builtin F.entry_sum_loop ?_
    rw [Around.under_plainId F.plain_sum_loop _]
    show wpAny _ A.in1 (seqItems? (.ref S) >>= _) _ _ s
    refine wpAny_bind (wpAny_seqItems hS rfl ?_)
    show wpAny _ A.in1 (tryCatch (pyNext (.ref I)) _ >>= _) _ _ s
    refine wpAny_bind (wpAny_tryCatch (W.done s _ _ hst fun s' hm => ?_))
    refine wpAny_pure (hR s' t (hm.mono hsub) ?_ (.inl ⟨rfl, rfl⟩))
    obtain ⟨m, e⟩ := hT
    have e0 : (List.range i).drop i = [] := by simp
    rw [e0, List.flatMap_nil, List.append_nil]
    exact ⟨m, hm.heap t _ htw e⟩
  | succ k ih =>
    intro i s t us c hk hi hst hS hT htS htw hparts hlen hR
    have hlt : i < n := by omega
    refine codeAny_builtin F.entry_sum_loop ?_
    rw [Around.under_plainId F.plain_sum_loop _]
    show wpAny _ A.in1 (seqItems? (.ref S) >>= _) _ _ s
    refine wpAny_bind (wpAny_seqItems hS rfl ?_)
    show wpAny _ A.in1 (tryCatch (pyNext (.ref I)) _ >>= _) _ _ s
    refine wpAny_bind (wpAny_tryCatch (W.item i s _ _ hlt hst fun v s' hPv hst' hm => ?_))
    obtain ⟨b, rfl⟩ := hP i v hPv
    have hS' := hm.heap S _ hSw hS
    obtain ⟨⟨nb, hb⟩, hbS, hbw⟩ := hparts i b s' (Nat.le_refl _) hlt hPv (hm.mono hsub)
    obtain ⟨nt, ht⟩ := hT
    have ht' := hm.heap t _ htw ht
    have e0 : (List.range n).drop i = i :: (List.range n).drop (i + 1) := by
      rw [List.drop_eq_getElem_cons (by simpa using hlt)]
      simp
    rw [e0, List.flatMap_cons] at hlen
    have hl2 : us.length + (parts i).length ≤ sizeLine := by
      rw [List.length_append, List.length_append] at hlen
      omega
    show wpAny _ A.in1 ((holding [Value.ref b] (binaryOp .Add (.ref t) (.ref b))).attempt >>= _) _ _ _
    refine wpAny_bind (wpAny_attempt (wpAny_holding (PySem.P.add_list ht' hb ?_ (by rw [List.size_toArray, List.size_toArray]; exact hl2))))
    let hp1 := s'.heap.push { cls := .type "list", data := .seq (us.toArray ++ (parts i).toArray) }
    have hS1 : hp1.get? S = _ := Heap.get?_push_of_some _ hS'
    show wpAny _ A.in1 (updateSeq S (fun _ => #[.ref s'.heap.objs.size]) >>= _) _ _ _
    refine wpAny_bind (wpAny_updateSeq hS1 rfl ?_)
    have hS2 := Heap.get?_update_self (Obj.mapSeq fun _ => #[Value.ref s'.heap.objs.size]) hS1 rfl
    refine wpAny_bind (wpAny_letGo ?_)
    refine wpAny_bind (wpAny_updateSeq hS2 rfl (wpAny_pure ⟨plainId_quiet F.plain_sum_loop _, ?_⟩))
    have eS : ∀ {x : Addr} {o : Obj}, x ≠ S → s'.heap.get? x = some o → ((hp1.update S (Obj.mapSeq fun _ => #[Value.ref s'.heap.objs.size])).update S (Obj.mapSeq fun _ => #[Value.ref s'.heap.objs.size])).get? x = some o := fun {x o} hx q =>
      (Heap.get?_update_other _ _ (Ne.symm hx)).trans ((Heap.get?_update_other _ _ (Ne.symm hx)).trans (Heap.get?_push_of_some _ q))
    have hSl : S < s'.heap.objs.size := Heap.lt_size hS'
    have nS : s'.heap.objs.size ≠ S := Nat.ne_of_gt hSl
    have hN : ((hp1.update S (Obj.mapSeq fun _ => #[Value.ref s'.heap.objs.size])).update S (Obj.mapSeq fun _ => #[Value.ref s'.heap.objs.size])).get? s'.heap.objs.size = some { cls := .type "list", data := .seq (us.toArray ++ (parts i).toArray) } :=
      (Heap.get?_update_other _ _ (Ne.symm nS)).trans ((Heap.get?_update_other _ _ (Ne.symm nS)).trans (Heap.get?_push_size _ rfl))
    have hmv : Moved (S :: wr) G s { s' with heap := (hp1.update S (Obj.mapSeq fun _ => #[Value.ref s'.heap.objs.size])).update S (Obj.mapSeq fun _ => #[Value.ref s'.heap.objs.size]) } :=
      (hm.mono hsub).then_heap (Nat.le_refl _) fun x o hx q => eS (fun z => hx (z ▸ List.mem_cons_self)) q
    refine ih (i + 1) _ s'.heap.objs.size (us ++ parts i) _ (by omega) hlt (W.frame _ s' _ _ hst' (Nat.le_refl _) fun x hx o q => eS (fun z => hSf (z ▸ hx)) q) (Heap.get?_update_self _ hS2 rfl) ⟨0, hN.trans (by simp)⟩ nS
      (fun z => Nat.lt_irrefl _ (hlive _ _ hst' _ z)) (fun j x s2 hj1 hj2 hpx hm2 => hparts j x s2 (by omega) hj2 hpx (Moved.trans W.gtrans hmv hm2)) (by rw [List.append_assoc]; exact hlen) fun s2 t2 hm2 hl2 hc => ?_
    refine hR s2 t2 (Moved.trans W.gtrans hmv hm2) (by rw [e0, List.flatMap_cons, ← List.append_assoc]; exact hl2) (.inr ⟨?_, hlt⟩)
    rcases hc with ⟨rfl, _⟩ | ⟨hc, _⟩
    · exact hB _ _ hst'
    · exact hc
end
theorem sub_list_str : isSubtype (.type "list") (.type "str") = pure false := by rw [isSubtype_type]; kernel_rfl
theorem sub_list_bytes : isSubtype (.type "list") (.type "bytes") = pure false := by rw [isSubtype_type]; kernel_rfl
theorem sub_list_bytearray : isSubtype (.type "list") (.type "bytearray") = pure false := by rw [isSubtype_type]; kernel_rfl
theorem args_sum2 (a b : Value) : argsOk "sum" ⟨[a, b], []⟩ := by unfold argsOk; kernel_rfl
section
variable {prog : Program} {w : World} {A : Around} {E : Value → Shared → Prop} {s : Shared}
theorem call_sum_lists {l t : Addr} {its : Array Value} {parts : Nat → List Value} {us : List Value} {Q : Value → Shared → Prop} (hh : A.handled = none) (hl : s.heap.IsList l its) (hr : ∀ i v, its[i]? = some v → ∃ b, v = .ref b ∧ LstAt s.heap b (parts i))
    (ht : LstAt s.heap t us) (hz : (us ++ (List.range its.size).flatMap parts).length ≤ sizeLine)
    (hQ : ∀ h' t', (∀ b o, s.heap.get? b = some o → h'.get? b = some o) → LstAt h' t' (us ++ (List.range its.size).flatMap parts) → ((t' = t ∧ its.size = 0) ∨ (s.heap.objs.size ≤ t' ∧ 0 < its.size)) → ∀ tk, Q (.ref t') { s with heap := h', toks := tk }) :
    wpAny (model prog w) A (call (.builtin "sum") [.ref l, .ref t]) Q E s := by
  obtain ⟨ol, hol, hcl, nl, hdl⟩ := id hl
  obtain ⟨nt, hot⟩ := id ht
  refine call_function_tree F.kind_sum F.plain_sum F.entry_sum (args_sum2 _ _) ?_
  unfold Builtin.«sum»
  simp only [List.length_cons, List.length_nil]
  rw [if_neg (by decide)]
  refine wpAny_bind (wpAny_of_eq (show Builtin.Builtins.bindParams "sum" ["start"] 0 ⟨[.ref t], []⟩ = pure [some (.ref t)] from rfl) ?_)
  refine wpAny_bind (wpAny_pyIter_list hl ?_)
  refine wpAny_bind (wpAny_pure ?_)
  let I := s.heap.objs.size
  let h1 := s.heap.push { cls := .type "list_iterator", data := .fields #[.ref l, .int 0 0] }
  have hot1 : h1.get? t = _ := Heap.get?_push_of_some _ hot
  have tt : ∀ (s' : Shared), s'.heap = h1 → s'.TypeIs (.ref t) "list" := fun s' e => ⟨_, by rw [e]; exact hot1, rfl⟩
  simp only [List.forIn_cons, List.forIn_nil]
  refine wpAny_bind (wpAny_bind (wpAny_bind (wpAny_isInstance (T := "list") (b := false) (tt _ rfl) sub_list_str ?_)))
  simp only [Bool.false_eq_true, if_false]
  refine wpAny_pure (wpAny_bind (wpAny_bind (wpAny_isInstance (T := "list") (b := false) (tt _ rfl) sub_list_bytes ?_)))
  simp only [Bool.false_eq_true, if_false]
  refine wpAny_pure (wpAny_bind (wpAny_bind (wpAny_isInstance (T := "list") (b := false) (tt _ rfl) sub_list_bytearray ?_)))
  simp only [Bool.false_eq_true, if_false]
  refine wpAny_pure (wpAny_pure ?_)
  refine wpAny_bind (wpAny_newObj_type ?_)
  refine wpAny_pure ⟨plainId_quiet F.plain_sum_loop _, ?_⟩
  have hlI : l ≠ I := Nat.ne_of_lt (Heap.lt_size hol)
  have htI : t ≠ I := Nat.ne_of_lt (Heap.lt_size hot)
  have hz1 : h1.objs.size = I + 1 := Heap.size_push ..
  have W0 := Walks.list (prog := prog) (w := w) (A := A.in1) (show A.in1.handled = none from hh) I l hlI its
  have W1 := W0.toS
  have hSI : h1.objs.size ≠ I := by
    rw [hz1]
    exact Nat.succ_ne_self _
  have hlS : l ≠ h1.objs.size := by
    rw [hz1]
    exact Nat.ne_of_lt (Nat.lt_succ_of_lt (Heap.lt_size hol))
  have htS : t ≠ h1.objs.size := by
    rw [hz1]
    exact Nat.ne_of_lt (Nat.lt_succ_of_lt (Heap.lt_size hot))
  have keep0 : ∀ {o : Obj} (b : Addr) (ob : Obj), s.heap.get? b = some ob → (h1.push o).get? b = some ob := fun b ob q => Heap.get?_push_of_some _ (Heap.get?_push_of_some _ q)
  have hdrop : (List.range its.size).drop 0 = List.range its.size := rfl
  refine sum_loop_lists W1 parts (fun i v hv => (hr i v hv).imp fun b q => q.1) (fun i s' st b hb => ?_) I (fun i s' st => ?_) h1.objs.size (fun z => ?_) its.size 0 _ t us _ (by omega) (Nat.zero_le _) ⟨⟨_, Heap.get?_push_of_some _ (Heap.get?_push_size _ rfl), rfl, rfl⟩, hl.at fun o e => keep0 l o e⟩ (Heap.get?_push_size _ rfl)
    ⟨_, keep0 t _ hot⟩ htS (fun z => htI (List.mem_singleton.mp z)) (fun j b s' _ hj hb hm => ?_) (by rw [hdrop]; exact hz) fun s' t' hm hl' hc => ?_
  · obtain rfl := List.mem_singleton.mp hb
    obtain ⟨_, q, _⟩ := st.1
    exact Heap.lt_size q
  · obtain ⟨_, q, _⟩ := st.1
    exact Nat.le_of_lt (Heap.lt_size q)
  · rcases List.mem_cons.mp z with z | z
    · exact hSI z
    · exact hlS (List.mem_singleton.mp z).symm
  · obtain ⟨b', eb, nb, hob⟩ := hr j _ hb
    cases eb
    have hbI : b ≠ I := Nat.ne_of_lt (Heap.lt_size hob)
    have hbS : b ≠ h1.objs.size := by
      rw [hz1]
      exact Nat.ne_of_lt (Nat.lt_succ_of_lt (Heap.lt_size hob))
    refine ⟨⟨nb, hm.heap b _ (fun z => ?_) (keep0 b _ hob)⟩, hbS, fun z => hbI (List.mem_singleton.mp z)⟩
    rcases List.mem_cons.mp z with z | z
    · exact hbS z
    · exact hbI (List.mem_singleton.mp z)
  · obtain ⟨h', g', d', tk', os'⟩ := s'
    obtain rfl : g' = s.gens := hm.gens
    obtain rfl : d' = s.drawn := hm.drawn
    obtain rfl : os' = s.os := hm.os
    refine hQ h' t' (fun b o q => hm.heap b o (fun z => ?_) (keep0 b o q)) (by rw [hdrop] at hl'; exact hl') (by rcases hc with ⟨a, b⟩ | ⟨a, b⟩; exact .inl ⟨a, b.symm⟩; exact .inr ⟨a, b⟩) tk'
    have hb := Heap.lt_size q
    rcases List.mem_cons.mp z with z | z
    · rw [z, hz1] at hb
      exact absurd hb (by show ¬ I + 1 < I; omega)
    · rw [List.mem_singleton.mp z] at hb
      exact Nat.lt_irrefl _ hb
end
/-- sum(xs, start), lists -/
def rSumL (K : PySem.W.Frag) : List V → Hp → VK → Prop := fun vs H Q => ∃ (a t : Addr) (xs zs : List V) (parts : Nat → List V), vs = [.ref a, .ref t] ∧ SqL K H a xs ∧ H t = some (.lst zs) ∧ 0 < xs.length ∧
  (∀ i x, xs[i]? = some x → ∃ b, x = .ref b ∧ H b = some (.lst (parts i))) ∧ (zs ++ (List.range xs.length).flatMap parts).length ≤ sizeLine ∧ ∀ p, H p = none → Q (.ref p) (upd H p (.lst (zs ++ (List.range xs.length).flatMap parts)))
theorem vals_flat {f : Nat → List V} {g : Nat → List Value} : ∀ {l : List Nat}, (∀ i ∈ l, Vals (f i) (g i)) → Vals (l.flatMap f) (l.flatMap g)
  | [], _ => .nil
  | i :: r, h => by
    rw [List.flatMap_cons, List.flatMap_cons]
    exact (h i List.mem_cons_self).append (vals_flat fun j hj => h j (List.mem_cons_of_mem _ hj))
theorem cr_sumL {X : Cx} (hc : X.calm = true) : CallR X (.builtin "sum") (rSumL X.K) := by
  intro pins s σ H vs us Q I r h
  obtain ⟨a, t, xs, zs, parts, rfl, hs, hz, h0, hp, hlen, q⟩ := h
  obtain ⟨u1, u2, rfl, r1, r2⟩ : ∃ u1 u2, us = [u1, u2] ∧ RelV (.ref a) u1 ∧ RelV (.ref t) u2 := by
    cases r with
    | cons r1 rr =>
      cases rr with
      | cons r2 rr =>
        cases rr
        exact ⟨_, _, rfl, r1, r2⟩
  cases r1
  cases r2
  obtain ⟨its, rv, hl, hlz⟩ := I.list hs
  obtain ⟨hzz, iz, nz, rz, ez⟩ := (show ObjOk X.prog X.w H s.heap t (.lst zs) from I.hok t _ hz)
  have ex : ∀ i, ∃ g : List Value, ∀ x, xs[i]? = some x → Vals (parts i) g ∧ ∃ b, x = .ref b ∧ LstAt s.heap b g := fun i => by
    cases e : xs[i]? with
    | none => exact ⟨[], fun x q => by cases q⟩
    | some x =>
      obtain ⟨b, rfl, hb⟩ := hp i x e
      obtain ⟨_, g, n, rg, eg⟩ := (show ObjOk X.prog X.w H s.heap b (.lst (parts i)) from I.hok b _ hb)
      exact ⟨g, fun y q => by cases q; exact ⟨rg, b, rfl, n, eg⟩⟩
  obtain ⟨g, hg⟩ := Classical.axiomOfChoice ex
  have hn : its.toArray.size = xs.length := by rw [List.size_toArray, rv.length]
  have vf : Vals (zs ++ (List.range xs.length).flatMap parts) (iz ++ (List.range xs.length).flatMap g) := rz.append (vals_flat fun i hi => by
    have hi' := List.mem_range.mp hi
    exact (hg i xs[i] (List.getElem?_eq_getElem hi')).1)
  refine call_sum_lists (parts := g) (us := iz) (I.ok.hd hc) hl.isList (fun i v hv => ?_) ⟨nz, ez⟩ (by rw [hn, ← vf.length]; exact hlen) fun h' t' hk hl' hcs tk => ?_
  · have hv' : its[i]? = some v := by simpa using hv
    have hi : i < xs.length := by
      rw [rv.length]
      exact (List.getElem?_eq_some_iff.mp hv').1
    obtain ⟨_, b, eb, hb⟩ := hg i xs[i] (List.getElem?_eq_getElem hi)
    obtain ⟨u, hu, ru⟩ := rv.get (List.getElem?_eq_getElem hi)
    rw [hv'] at hu
    cases hu
    rw [eb] at ru
    cases ru
    exact ⟨b, rfl, hb⟩
  · rw [hn] at hl' hcs
    rcases hcs with ⟨_, z⟩ | ⟨hge, _⟩
    · omega
    · obtain ⟨n', e'⟩ := hl'
      refine ⟨.ref t', _, I.laid (t' := tk) (a := t') (o := .lst (zs ++ (List.range xs.length).flatMap parts)) hk hge ⟨hlen, _, n', vf, e'⟩, rfl, q t' (I.hok.fresh hge)⟩
end Fm
end FFmSumL
section FK1
set_option Elab.async false
set_option linter.all false
set_option maxRecDepth 100000
set_option maxHeartbeats 4000000
local macro_rules | `(tactic| walk_at "ne") => `(tactic| first | assumption | (apply Ne.symm; assumption) | exact L2.ne_of_none (by assumption) (by assumption) | exact Ne.symm (L2.ne_of_none (by assumption) (by assumption)))
local macro_rules | `(tactic| walk_at "hl") => `(tactic| first | assumption | exact L2.upd_same | (refine Eq.trans (L2.upd_ne (by walk_at "ne")) ?_; walk_at "hl"))
local macro_rules | `(tactic| walk_at "sd") => `(tactic| first | (with_reducible show (_ : Int) < _; omega) | (with_reducible show (_ : Int) ≤ _; omega) | assumption | decide | exact ⟨by assumption, by assumption⟩ | exact ⟨by decide, by decide⟩ | exact Or.inr ⟨by decide, by decide⟩ | exact Or.inl ⟨by omega, by omega⟩ | rfl)
local macro_rules | `(tactic| walk_at "st1") => `(tactic| first
  | refine ⟨_, rfl, ?_⟩
  | refine ⟨_, _, rfl, rfl, ?_⟩
  | refine ⟨_, _, rfl, ?_⟩
  | (refine ⟨_, _, _, _, rfl, rfl, L2.SqL.of (by walk_at "hl"), rfl, ?_⟩)
  | (refine ⟨_, _, _, _, rfl, rfl, L2.SqT.of (by walk_at "hl"), rfl, ?_⟩)
  | (refine ⟨_, _, _, _, rfl, rfl, (by walk_at "hl"), rfl, ?_⟩)
  | (refine And.intro (by walk_at "sd") ?_)
  )
local macro_rules | `(tactic| walk_at "st") => `(tactic| repeat walk_at "st1")
local macro_rules | `(tactic| walk_at "op") => `(tactic| try dsimp only [L2.tSeq, L2.tAsg, L2.tOp, L2.tVar, L2.tC, L2.gSub, L2.rI, L2.rI0, L2.rIxL, L2.rIxT, L2.rSetL, L2.tIfS, L2.tTest, L2.tRet, L2.gName, L2.tNext, L2.tAnd, L2.tOr, L2.tNot, L2.tAndV, L2.tOrV, L2.tNotV, L2.tB, L2.tCB, L2.tCons, L2.tNil, L2.tCall, L2.tTup, L2.tLst, L2.tChain, L2.tUn, L2.tPar, L2.tDrop, L2.tIf, L2.tBM, L2.tBM0, L2.rAppend, L2.rCat, L2.rIsi, L2.rIsiT, L2.gTup, L2.gCons, L2.gNil, Fm.tFor_eq, Fm.tLc_eq, L2.iTup, L2.iList, L2.iRng1, L2.iRng2, L2.tSl, L2.tPart, L2.tNoPart, L2.rSlL, L2.rEq, L2.rNe, L2.rU, L2.rEqD, L2.rNeD, Fm.tRevT, Fm.rLenS, Fm.rTupOf, Fm.rLstOf, L2.tDNewK, L2.tCallS, L2.WE, Fm.wKeep, Fm.rIsK, Fm.rIsKT, List.cons_append, List.nil_append, L2.tYes])
namespace Fm
open PySem PySem.Spec PyProof.Rows L2
abbrev s_has_form : Stmt := top 17
abbrev N_has_form : List Str := ["thing", "m", "floors", "most", "counts"]
theorem sc_has_form : FnScope N_has_form ["thing", "m", "floors", "most"] (defScope s_has_form) := ⟨rfl, rfl, rfl, by decide +kernel, rfl, by decide +kernel, by decide +kernel⟩
section
variable {P : Program} {w : World} {K : PySem.W.Frag} {mg : Str → Option Value} {base : Heap}
/-! ### standings, as data -/
def rowD (r : List Int) : PyData := .tuple (r.map PyData.int)
def stD (rows : List (List Int)) (out : Int) : PyData := .tuple (rows.map rowD ++ [.int out])
structure StOk (m : Nat) (rows : List (List Int)) (out : Int) : Prop where
  len : ∀ r ∈ rows, r.length = m
  pos : ∀ r ∈ rows, ∀ c ∈ r, 0 ≤ c
  out : 0 ≤ out
theorem sl_init {K : PySem.W.Frag} {H : Hp} {Q : VK} {a : Addr} {xs : List V} {y : V} (h : SqT K H a (xs ++ [y])) (q : ∀ p, H p = none → Q (.ref p) (upd H p (.tup xs))) : rSlA K (.ref a) none (some (-1)) H Q := by
  have e1 : HT.sIx (xs ++ [y]).length 0 none = 0 := rfl
  have e2 : HT.sIx (xs ++ [y]).length (xs ++ [y]).length (some (-1)) = xs.length := by
    unfold HT.sIx
    rw [List.length_append]
    show (if (-1 : Int) < 0 then _ else _) = _
    rw [if_pos (by decide)]
    show ((-1 : Int) + ((xs.length + 1 : Nat) : Int)).toNat = _
    omega
  refine ⟨a, _, rfl, h, fun z => ?_, fun _ p hp => ?_⟩
  · rw [e2, List.length_append] at z
    have : ([y] : List V).length = 1 := rfl
    omega
  · have e3 : cutV (xs ++ [y]) none (some (-1)) = xs := by
      unfold cutV
      rw [e1, e2, List.drop_zero, Nat.sub_zero, List.take_left]
    rw [e3]
    exact q p hp
theorem atI_last {xs : List V} {y : V} (hl : xs.length ≤ 1000) : atI (xs ++ [y]) (-1) = some y := by
  unfold atI ixN
  rw [if_neg (by decide), List.length_append]
  have h1 : ([y] : List V).length = 1 := rfl
  rw [h1, if_pos (by omega)]
  show (xs ++ [y])[_]? = some y
  have e : ((-1 : Int) + ((xs.length + 1 : Nat) : Int)).toNat = xs.length := by omega
  rw [e]
  simp
/-- a standing's parts in the heap -/
theorem st_parts {H : Hp} {p : Addr} {v : V} {rows : List (List Int)} {out : Int} (h : Dat H p v (stD rows out)) : ∃ a xs, v = .ref a ∧ H a = some (.tup (xs ++ [.int out])) ∧ a ≠ p ∧ Dats H p xs (rows.map rowD) := by
  obtain ⟨a, ys, rfl, ha, np, hs⟩ := h.isTup
  have hl := hs.1
  rw [List.length_append] at hl
  have h1 : ([PyData.int out] : List PyData).length = 1 := rfl
  obtain ⟨x, hx, hdx⟩ := hs.back (i := (rows.map rowD).length) (d := .int out) (by simp)
  obtain rfl := hdx.isInt
  refine ⟨a, ys.take (rows.map rowD).length, rfl, ?_, np, by rw [List.length_take]; omega, fun i x d e1 e2 => ?_⟩
  · have e : ys = ys.take (rows.map rowD).length ++ [.int out] := by
      conv => lhs; rw [← List.take_append_drop (rows.map rowD).length ys]
      congr 1
      rw [List.drop_eq_getElem_cons (by omega), List.drop_eq_nil_of_le (by omega)]
      congr 1
      have := List.getElem?_eq_some_iff.mp hx
      exact this.2
    rw [← e]
    exact ha
  · have hi : i < (rows.map rowD).length := (List.getElem?_eq_some_iff.mp e2).1
    rw [List.getElem?_take_of_lt hi] at e1
    exact hs.2 i x d e1 (by rw [List.getElem?_append_left hi]; exact e2)
def spForm : Sp := fun vs H Q _ => ∃ (v : V) (p : Addr) (m n : Nat) (rows : List (List Int)) (out : Int), vs = [v, .int m, .int n, .non] ∧ Dat H p v (stD rows out) ∧ rows.length = n ∧ 1 ≤ n ∧ n ≤ 4 ∧ StOk m rows out ∧ ∀ H', Same H H' → Q (.bl true) H'
theorem ok_has_form (D : Df K mg "has_form" s_has_form ["thing", "m", "floors", "most"]) (T : Nms mg) (c_is_tuple_of : CallOk P w K mg base CX0 1 "is_tuple_of" ["thing", "many"] spTupOf)
    (c_is_up_to : CallOk P w K mg base CX0 2 "is_up_to" ["thing", "most"] spUpTo) (c_are_up_to : CallOk P w K mg base CX0 3 "are_up_to" ["thing", "many", "most"] spAre) : CallOk P w K mg base CX0 4 "has_form" ["thing", "m", "floors", "most"] spForm := by
  refine df_ok D sc_has_form (fun vs H Q E h => ?_) (fun f cdv A outer s H vs Q E hr h => ?_)
  · obtain ⟨v, p, m, n, rows, out, rfl, _⟩ := h
    rfl
  · obtain ⟨v, p, m, n, rows, out, rfl, hd, hn, hn1, hn4, ok, k⟩ := h
    obtain ⟨a, xs, rfl, ha, nap, hx⟩ := st_parts hd
    have nd := sc_has_form.nd
    refine ⟨_, (pss_cons (ps_if (PW.pt (pw_or (pt_not (pt_val (pe_cc c_is_tuple_of (hr.mono (by omega)) (pa_cons (pv 0) (pa_cons (pe_op op_add (pv 2) pe_int) pa_nil))))) (pw_or1 (pt_not (pt_val (pe_cc c_is_up_to (hr.mono (by omega)) (pa_cons (pe_ix (r := rIxT K) ix_tup (pv 0) (pe_un un_neg pe_int) (fun _ _ => rfl)) (pa_cons (pv 3) pa_nil)))))))) (pss_one (ps_ret pe_bl)) pss_nil)
      (pss_cons (ps_for PassesOwn.never rfl (pi_tup (pe_slice (r := rSlA K) sl_tupA (pv 0) po_none (po_some (pe_un un_neg pe_int)))) (pg_name (i := 4) nd rfl (Or.inl rfl)) (pss_one (ps_if (pt_not (pt_val (pe_cc c_are_up_to (hr.mono (by omega)) (pa_cons (pv 4) (pa_cons (pv 1) (pa_cons (pv 3) pa_nil)))))) (pss_one (ps_ret pe_bl)) pss_nil)))
      (pss_one (ps_ret pe_bl)))), ?_⟩
    walk_at "op"
    walk_at "st"
    refine ⟨_, _, p, _, rfl, hd, fun b hb => ?_⟩
    have hb1 : b = true := hb.mpr ⟨_, rfl, by simp [hn]⟩
    walk_at "st"
    subst hb1
    refine iteF ?_
    walk_at "st"
    refine ⟨_, _, _, _, rfl, rfl, SqT.of ha, atI_last (by rw [hx.1, List.length_map]; omega), ?_⟩
    walk_at "st"
    refine ⟨_, _, p, _, rfl, Dat.int out, .inl rfl, fun b hb => ?_⟩
    have hb1 : b = true := hb.mpr ⟨_, rfl, ok.out, fun M z => by cases z⟩
    walk_at "st"
    subst hb1
    refine iteF ?_
    walk_at "st"
    refine sl_init (SqT.of ha) fun q hq => ?_
    refine ⟨_, rfl, ⟨_, SqT.of upd_same⟩, fT (xs := xs) (fun i σ H' => Same H H' ∧ H' q = some (.tup xs) ∧ ∃ u, σ = [some (.ref a), some (.int m), some (.int n), some .non, u])
      ⟨same_new hq, upd_same, _, rfl⟩ (fun i σ H' _ ⟨_, e, _⟩ => SqT.of e) ?_ ?_⟩
    · rintro i x σ H' hxi ⟨sm, hq2, u, rfl⟩
      obtain ⟨e, he, hde⟩ := hx.at hxi
      rw [List.getElem?_map] at he
      cases er : rows[i]? with
      | none => rw [er] at he; cases he
      | some r =>
        rw [er] at he
        cases he
        have hr := List.mem_of_getElem? er
        walk_at "op"
        walk_at "st"
        refine ⟨x, _, _, p, _, rfl, hde.same sm, .inl rfl, fun b hb => ?_⟩
        have hb1 : b = true := hb.mpr ⟨_, rfl, by rw [List.length_map, ok.len r hr], fun e he => by
          obtain ⟨c, hc, rfl⟩ := List.mem_map.mp he
          exact ⟨c, rfl, ok.pos r hr c hc, fun M z => by cases z⟩⟩
        walk_at "st"
        subst hb1
        exact iteF ⟨sm, hq2, _, rfl⟩
    · rintro σ H' ⟨sm, hq2, u, rfl⟩
      walk_at "op"
      exact k _ sm
end
end Fm
end FK1
section FKB
set_option Elab.async false
set_option linter.all false
set_option maxRecDepth 100000
set_option maxHeartbeats 4000000
local macro_rules | `(tactic| walk_at "ne") => `(tactic| first | assumption | (apply Ne.symm; assumption) | exact L2.ne_of_none (by assumption) (by assumption) | exact Ne.symm (L2.ne_of_none (by assumption) (by assumption)))
local macro_rules | `(tactic| walk_at "hl") => `(tactic| first | assumption | exact L2.upd_same | (refine Eq.trans (L2.upd_ne (by walk_at "ne")) ?_; walk_at "hl"))
local macro_rules | `(tactic| walk_at "sd") => `(tactic| first | (with_reducible show (_ : Int) < _; omega) | (with_reducible show (_ : Int) ≤ _; omega) | assumption | decide | exact ⟨by assumption, by assumption⟩ | exact ⟨by decide, by decide⟩ | exact Or.inr ⟨by decide, by decide⟩ | exact Or.inl ⟨by omega, by omega⟩ | rfl)
local macro_rules | `(tactic| walk_at "st1") => `(tactic| first
  | refine ⟨_, rfl, ?_⟩
  | refine ⟨_, _, rfl, rfl, ?_⟩
  | refine ⟨_, _, rfl, ?_⟩
  | (refine ⟨_, _, _, _, rfl, rfl, L2.SqL.of (by walk_at "hl"), rfl, ?_⟩)
  | (refine ⟨_, _, _, _, rfl, rfl, L2.SqT.of (by walk_at "hl"), rfl, ?_⟩)
  | (refine ⟨_, _, _, _, rfl, rfl, (by walk_at "hl"), rfl, ?_⟩)
  | (refine And.intro (by walk_at "sd") ?_)
  )
local macro_rules | `(tactic| walk_at "st") => `(tactic| repeat walk_at "st1")
local macro_rules | `(tactic| walk_at "op") => `(tactic| try dsimp only [L2.tSeq, L2.tAsg, L2.tOp, L2.tVar, L2.tC, L2.gSub, L2.rI, L2.rI0, L2.rIxL, L2.rIxT, L2.rSetL, L2.tIfS, L2.tTest, L2.tRet, L2.gName, L2.tNext, L2.tAnd, L2.tOr, L2.tNot, L2.tAndV, L2.tOrV, L2.tNotV, L2.tB, L2.tCB, L2.tCons, L2.tNil, L2.tCall, L2.tTup, L2.tLst, L2.tChain, L2.tUn, L2.tPar, L2.tDrop, L2.tIf, L2.tBM, L2.tBM0, L2.rAppend, L2.rCat, L2.rIsi, L2.rIsiT, L2.gTup, L2.gCons, L2.gNil, Fm.tFor_eq, Fm.tLc_eq, Fm.tLc2_eq, L2.iTup, L2.iList, L2.iRng1, L2.iRng2, L2.tSl, L2.tPart, L2.tNoPart, L2.rSlL, L2.rEq, L2.rNe, L2.rU, L2.rEqD, L2.rNeD, Fm.tRevT, Fm.rLenS, Fm.rTupOf, Fm.rLstOf, L2.tDNewK, L2.tCallS, L2.WE, Fm.wKeep, Fm.rIsK, Fm.rIsKT, List.cons_append, List.nil_append, L2.tYes])
namespace Fm
open PySem PySem.Spec PyProof.Rows L2
abbrev s_check_standing : Stmt := top 18
abbrev N_check_standing : List Str := ["house", "standing", "m", "floors"]
theorem sc_check_standing : FnScope N_check_standing ["house", "standing"] (defScope s_check_standing) := ⟨rfl, rfl, rfl, by decide +kernel, rfl, by decide +kernel, by decide +kernel⟩
section
variable {P : Program} {w : World} {K : PySem.W.Frag} {mg : Str → Option Value} {base : Heap}
theorem houseN_inj {m n m' n' : Nat} {d : PyData} (h : HouseN m n d) (h' : HouseN m' n' d) : m = m' ∧ n = n' := by
  obtain ⟨fs, rfl, hl, h1, h4, _, _, hf⟩ := h
  obtain ⟨fs', e, hl', _, _, _, _, hf'⟩ := h'
  cases e
  have h0 : 0 < fs.length := by omega
  obtain ⟨s, u, e1, ⟨rs, e2, e3, _⟩, _⟩ := hf fs[0] (List.getElem_mem _)
  obtain ⟨s', u', e1', ⟨rs', e2', e3', _⟩, _⟩ := hf' fs[0] (List.getElem_mem _)
  rw [e1] at e1'
  cases e1'
  rw [e2] at e2'
  cases e2'
  exact ⟨by omega, by omega⟩
theorem dats_ints {H : Hp} {p : Addr} : ∀ {ys : List V} {ns : List Int}, Dats H p ys (ns.map PyData.int) → ys = ns.map V.int
  | [], [], _ => rfl
  | [], n :: ns, h => by have := h.1; simp at this
  | y :: ys, [], h => by have := h.1; simp at this
  | y :: ys, n :: ns, h => by
    obtain rfl := (h.2 0 y (.int n) rfl rfl).isInt
    rw [dats_ints (ys := ys) (ns := ns) ⟨by have := h.1; simpa using this, fun i x d a b => h.2 (i + 1) x d a b⟩]
    rfl
theorem row_parts {H : Hp} {p : Addr} {v : V} {r : List Int} (h : Dat H p v (rowD r)) : ∃ a, v = .ref a ∧ H a = some (.tup (r.map V.int)) ∧ a ≠ p := by
  obtain ⟨a, ys, rfl, ha, np, hs⟩ := h.isTup
  rw [dats_ints hs] at ha
  exact ⟨a, rfl, ha, np⟩
theorem sameOff {H H' : Hp} {L : Addr} {o : HO} (e : Same H H') (h : H L = none) : Same H (upd H' L o) := fun b u eb => by
  rw [upd_ne (ne_of_none eb h)]
  exact e b u eb
theorem sameFree {H H' : Hp} {S : Addr} (e : Same H H') (h : H' S = none) : H S = none := by
  cases q : H S with
  | none => rfl
  | some u =>
    rw [e S u q] at h
    cases h
def spStIn (R : List (List Int) → Int → VK → Hp → Prop) : Sp := fun vs H Q _ => ∃ (hv sv : V) (p p' : Addr) (hd : PyData) (m n : Nat) (rows : List (List Int)) (out : Int), vs = [hv, sv] ∧ Dat H p hv hd ∧ HouseN m n hd ∧ Dat H p' sv (stD rows out) ∧ rows.length = n ∧ StOk m rows out ∧ R rows out Q H
def spCheck : Sp := spStIn fun _ _ Q H => ∀ H', Same H H' → Q .non H'
theorem ok_check_standing (D : Df K mg "check_standing" s_check_standing ["house", "standing"]) (T : Nms mg) {C M C2 : Addr} (EX_NoStanding : Exn K mg "NoStanding" C2 M)
    (c_size : CallOk P w K mg base (L2.CX P w) 6 "size" ["house"] (spSize C)) (c_has_form : CallOk P w K mg base CX0 4 "has_form" ["thing", "m", "floors", "most"] spForm) :
    CallOk P w K mg base (L2.CX P w) 7 "check_standing" ["house", "standing"] spCheck := by
  refine df_okX D sc_check_standing (fun vs H Q E h => ?_) (fun f cdv A outer s H vs Q E hr h => ?_)
  · obtain ⟨hv, sv, p, p', hd, m, n, rows, out, rfl, _⟩ := h
    rfl
  · obtain ⟨hv, sv, p, p', hd, m, n, rows, out, rfl, hD, hN, sD, hl, ok, k⟩ := h
    have nd := sc_check_standing.nd
    refine ⟨_, (pss_cons (ps_asg (pe_cx c_size (hr.mono (by omega)) (pa_cons (pv 0) pa_nil)) (pg_tup rfl (pgs_cons (pg_name (i := 2) nd rfl (Or.inl rfl)) (pgs_cons (pg_name (i := 3) nd rfl (Or.inl rfl)) pgs_nil))))
      (pss_one (ps_if (pt_not (pt_val (pe_cc c_has_form (hr.mono (by omega)) (pa_cons (pv 1) (pa_cons (pv 2) (pa_cons (pv 3) (pa_cons pe_non pa_nil))))))) (pss_one (ps_raiseE rfl (takes_of rfl rfl rfl rfl) EX_NoStanding rfl)) pss_nil))), ?_⟩
    walk_at "op"
    walk_at "st"
    refine ⟨hv, p, hd, rfl, hD, fun m' n' hN' q H' hq hq2 sm => ?_, fun no => (no ⟨m, n, hN⟩).elim⟩
    obtain ⟨rfl, rfl⟩ := houseN_inj hN hN'
    refine ⟨q, _, rfl, SqT.of hq2, rfl, _, _, rfl, _, _, rfl, rfl, ?_⟩
    walk_at "op"
    walk_at "st"
    obtain ⟨_, _, _, hn1, hn4, _⟩ := hN
    refine ⟨sv, p', m, n, rows, out, rfl, sD.same sm, hl, hn1, hn4, ok, fun H2 sm2 => ?_⟩
    walk_at "st"
    exact iteF (k _ (sm.trans sm2))
end
end Fm
end FKB
section FGO
set_option Elab.async false
set_option linter.all false
set_option maxRecDepth 100000
set_option maxHeartbeats 4000000
local macro_rules | `(tactic| walk_at "ne") => `(tactic| first | assumption | (apply Ne.symm; assumption) | exact L2.ne_of_none (by assumption) (by assumption) | exact Ne.symm (L2.ne_of_none (by assumption) (by assumption)))
local macro_rules | `(tactic| walk_at "hl") => `(tactic| first | assumption | exact L2.upd_same | (refine Eq.trans (L2.upd_ne (by walk_at "ne")) ?_; walk_at "hl"))
local macro_rules | `(tactic| walk_at "sd") => `(tactic| first | (with_reducible show (_ : Int) < _; omega) | (with_reducible show (_ : Int) ≤ _; omega) | assumption | decide | exact ⟨by assumption, by assumption⟩ | exact ⟨by decide, by decide⟩ | exact Or.inr ⟨by decide, by decide⟩ | exact Or.inl ⟨by omega, by omega⟩ | rfl)
local macro_rules | `(tactic| walk_at "st1") => `(tactic| first
  | refine ⟨_, rfl, ?_⟩
  | refine ⟨_, _, rfl, rfl, ?_⟩
  | refine ⟨_, _, rfl, ?_⟩
  | (refine ⟨_, _, _, _, rfl, rfl, L2.SqL.of (by walk_at "hl"), rfl, ?_⟩)
  | (refine ⟨_, _, _, _, rfl, rfl, L2.SqT.of (by walk_at "hl"), rfl, ?_⟩)
  | (refine ⟨_, _, _, _, rfl, rfl, (by walk_at "hl"), rfl, ?_⟩)
  | (refine And.intro (by walk_at "sd") ?_)
  )
local macro_rules | `(tactic| walk_at "st") => `(tactic| repeat walk_at "st1")
local macro_rules | `(tactic| walk_at "op") => `(tactic| try dsimp only [L2.tSeq, L2.tAsg, L2.tOp, L2.tVar, L2.tC, L2.gSub, L2.rI, L2.rI0, L2.rIxL, L2.rIxT, L2.rSetL, L2.tIfS, L2.tTest, L2.tRet, L2.gName, L2.tNext, L2.tAnd, L2.tOr, L2.tNot, L2.tAndV, L2.tOrV, L2.tNotV, L2.tB, L2.tCB, L2.tCons, L2.tNil, L2.tCall, L2.tTup, L2.tLst, L2.tChain, L2.tUn, L2.tPar, L2.tDrop, L2.tIf, L2.tBM, L2.tBM0, L2.rAppend, L2.rCat, L2.rIsi, L2.rIsiT, L2.gTup, L2.gCons, L2.gNil, Fm.tFor_eq, Fm.tLc_eq, Fm.tLc2_eq, L2.iTup, L2.iList, L2.iRng1, L2.iRng2, L2.tSl, L2.tPart, L2.tNoPart, L2.rSlL, L2.rEq, L2.rNe, L2.rU, L2.rEqD, L2.rNeD, Fm.tRevT, Fm.rLenS, Fm.rTupOf, Fm.rLstOf, L2.tDNewK, L2.tCallS, L2.WE, Fm.wKeep, Fm.rIsK, Fm.rIsKT, List.cons_append, List.nil_append, L2.tYes])
namespace Fm
open PySem PySem.Spec PyProof.Rows L2
section
variable {P : Program} {w : World} {K : PySem.W.Frag} {mg : Str → Option Value} {base : Heap}
theorem ixN_of {n k : Nat} (h : k < n) : ixN n (k : Int) = some k := by
  unfold ixN
  rw [if_pos (by omega), if_pos (by omega), Int.toNat_natCast]
/-! ### behind a meeting -/
def intD : PyData → Int
  | .int i => i
  | _ => 0
def tabD (fs : List PyData) (f k : Nat) : List PyData := match fs[f]? with
  | some (.tuple l) => (match l[k]? with
    | some (.tuple rs) => rs
    | _ => [])
  | _ => []
def goN (fs : List PyData) (k f a b : Nat) : Nat := (intD (cellD (tabD fs f k) a b)).toNat
theorem tabD_at {fs : List PyData} {m n f k : Nat} (hN : HouseN m n (.tuple fs)) (hf : f < n) (hk : k < 2) : TabD m (.tuple (tabD fs f k)) := by
  obtain ⟨fs', e, hl, _, _, _, _, hF⟩ := hN
  cases e
  have hfl : f < fs.length := by omega
  obtain ⟨sd, ud, e1, h2, h3⟩ := hF fs[f] (List.getElem_mem _)
  obtain ⟨rs, e2, l2, r2, c2⟩ := h2
  obtain ⟨ru, e3, l3, r3, c3⟩ := h3
  subst e2 e3
  unfold tabD
  rw [List.getElem?_eq_getElem hfl, e1]
  match k, hk with
  | 0, _ => exact ⟨rs, rfl, l2, r2, c2⟩
  | 1, _ => exact ⟨ru, rfl, l3, r3, c3⟩
theorem goN_comm {fs : List PyData} {m n f k a b : Nat} (hN : HouseN m n (.tuple fs)) (hf : f < n) (hk : k < 2) (ha : a < m) (hb : b < m) : goN fs k f a b = goN fs k f b a := by
  obtain ⟨rs, e, _, _, c⟩ := tabD_at hN hf hk
  cases e
  unfold goN
  rw [c a b ha hb]
/-- the house in the heap: its tables' cells -/
theorem house_goes {H : Hp} {ph : Addr} {hv : V} {fs : List PyData} {m n f : Nat} (hD : Dat H ph hv (.tuple fs)) (hN : HouseN m n (.tuple fs)) (hf : f < n) :
    ∃ (ah af : Addr) (hs : List V) (tb : Nat → Addr), hv = .ref ah ∧ H ah = some (.tup hs) ∧ hs.length = n ∧ hs[f]? = some (V.ref af) ∧ H af = some (.tup [.ref (tb 0), .ref (tb 1)]) ∧
      ∀ k, k < 2 → ∀ a b, a < m → b < m → ∃ (ss : List V) (ra : Addr) (ya : List V), H (tb k) = some (.tup ss) ∧ ss[a]? = some (V.ref ra) ∧ H ra = some (.tup ya) ∧ ya[b]? = some (V.int (goN fs k f a b : Nat)) ∧ goN fs k f a b < m := by
  have t0 := tabD_at hN hf (k := 0) (by decide)
  have t1 := tabD_at hN hf (k := 1) (by decide)
  obtain ⟨fs', e, hl, _, _, _, _, hF⟩ := hN
  cases e
  obtain ⟨ah, hs, rfl, hah, _, hh⟩ := hD.isTup
  have hfl : f < fs.length := by omega
  obtain ⟨sd, ud, e1, h2, h3⟩ := hF fs[f] (List.getElem_mem _)
  obtain ⟨rs, rfl, l2, r2, c2⟩ := h2
  obtain ⟨ru, rfl, l3, r3, c3⟩ := h3
  have e4 : fs[f]? = some (.tuple [.tuple rs, .tuple ru]) := by rw [List.getElem?_eq_getElem hfl, e1]
  have q0 : tabD fs f 0 = rs := by unfold tabD; rw [e4]; rfl
  have q1 : tabD fs f 1 = ru := by unfold tabD; rw [e4]; rfl
  obtain ⟨x, hx, hdx⟩ := hh.back e4
  obtain ⟨af, ys, rfl, haf, _, hy⟩ := hdx.isTup
  have hyl : ys.length = 2 := hy.1
  match ys, hyl with
  | [w1, w2], _ =>
    obtain ⟨s0, ss, rfl, hs0, _, hss⟩ := (hy.2 0 w1 _ rfl rfl).isTup
    obtain ⟨u0, us, rfl, hu0, _, hus⟩ := (hy.2 1 w2 _ rfl rfl).isTup
    refine ⟨ah, af, hs, fun k => if k = 0 then s0 else u0, rfl, hah, by rw [hh.1, hl], hx, haf, fun k hk a b ha hb => ?_⟩
    match k, hk with
    | 0, _ =>
      obtain ⟨ra, ya, st, c1, c2, c3, c6, c4, c5⟩ := cell_at hss l2 r2 (a := a) (b := b) ha hb
      have eg : (st : Int) = ((goN fs 0 f a b : Nat) : Int) := by unfold goN; rw [q0, c6]; show st = ((st.toNat : Nat) : Int); omega
      refine ⟨ss, ra, ya, hs0, c1, c2, by rw [← eg]; exact c3, by omega⟩
    | 1, _ =>
      obtain ⟨ra, ya, st, c1, c2, c3, c6, c4, c5⟩ := cell_at hus l3 r3 (a := a) (b := b) ha hb
      have eg : (st : Int) = ((goN fs 1 f a b : Nat) : Int) := by unfold goN; rw [q1, c6]; show st = ((st.toNat : Nat) : Int); omega
      refine ⟨us, ra, ya, hu0, c1, c2, by rw [← eg]; exact c3, by omega⟩
def addAt (c : List Int) (i : Nat) (z : Int) : List Int := c.set i (c.getD i 0 + z)
def rowMet (c : List Int) (a b s : Nat) : List Int := addAt (addAt (addAt c a (-1)) b (-1)) s 1
def metRows (fs : List PyData) (rows : List (List Int)) (f a b : Nat) : List (List Int) :=
  let r1 := rows.set f (rowMet (rows.getD f []) a b (goN fs 0 f a b))
  if f + 1 < rows.length then r1.set (f + 1) (addAt (rows.getD (f + 1) []) (goN fs 1 f a b) 1) else r1
def metOut (rows : List (List Int)) (out : Int) (f : Nat) : Int := if f + 1 < rows.length then out else out + 1
theorem addAt_len (c : List Int) (i : Nat) (z : Int) : (addAt c i z).length = c.length := by unfold addAt; rw [List.length_set]
theorem rowMet_len (c : List Int) (a b s : Nat) : (rowMet c a b s).length = c.length := by unfold rowMet; rw [addAt_len, addAt_len, addAt_len]
theorem map_addAt (c : List Int) (i : Nat) (z : Int) : (addAt c i z).map V.int = (c.map V.int).set i (.int (c.getD i 0 + z)) := by unfold addAt; rw [List.map_set]
theorem Dats.set {H : Hp} {p : Addr} {xs : List V} {ds : List PyData} {v : V} {d : PyData} (h : Dats H p xs ds) (i : Nat) (k : Dat H p v d) : Dats H p (xs.set i v) (ds.set i d) := by
  refine ⟨by rw [List.length_set, List.length_set, h.1], fun j x e a b => ?_⟩
  rw [List.getElem?_set] at a b
  by_cases hj : i = j
  · rw [if_pos hj] at a b
    by_cases hl : i < xs.length
    · rw [if_pos hl] at a
      rw [if_pos (by rw [← h.1]; exact hl)] at b
      cases a
      cases b
      exact k
    · rw [if_neg hl] at a
      cases a
  · rw [if_neg hj] at a b
    exact h.2 j x e a b
theorem getD_at {c : List Int} {i : Nat} (h : i < c.length) : (c.map V.int)[i]? = some (.int (c.getD i 0)) := by
  rw [List.getElem?_map, List.getElem?_eq_getElem h, List.getD_eq_getElem?_getD, List.getElem?_eq_getElem h]
  rfl
end
end Fm
end FGO
section FFmLcN
set_option Elab.async false
set_option linter.all false
set_option maxRecDepth 100000
set_option maxHeartbeats 4000000
namespace Fm
open PySem PySem.Spec PyProof.Rows L2
/-! ### list comprehensions of any number of clauses without tests, clause by clause from the last one -/
/-- the turn of clause k; code: what stands behind the store -/
def TurnIs (L : Expr) (k : Nat) (tg ik : Expr) (env : Env) (acc : Value) (code : Sem Fin → Sem Fin) : Prop := ∀ it : Value, compTurn L k it acc env = (do
  standAt ik.pos
  match ← pyNext it with
  | none => pure (.done .next)
  | some v => do
    letOwnedTupleGo tg it v
    assign tg env v
    code (again (.compLoop L k it acc env)))
/-- a further clause's start -/
def stepIn (L : Expr) (k : Nat) (ik : Expr) (env : Env) (acc : Value) (next : Sem Fin) : Sem Fin := do
  let x ← eval ik env
  standAt ik.pos
  let x ← foldedSetIterable ik env x
  let _ ← runOwn (.compStart L k (← holding [x] (pyIter x)) acc env) env
  next
/-- the item's end -/
def stepLeaf (elt : Expr) (env : Env) (acc : Value) (next : Sem Fin) : Sem Fin := do
  (do let _ ← call (.builtin "list.append") [acc, ← eval elt env])
  next
abbrev LvT := Addr → L2.St → Hp → (Hp → Prop) → Prop
def bLeaf (te : TE) : LvT := fun D σ H Nx => te σ H fun y H1 => ∃ acc, H1 D = some (.lst acc) ∧ acc.length < sizeLine ∧ Nx (upd H1 D (.lst (acc ++ [y])))
def bIn (wi : TI) (g : TG) (vs : List Nat) (b : LvT) : LvT := fun D σ H Nx => wi σ H fun J H1 => ∃ W : Nat → Nat → Hp → Prop, (∃ m, W 0 m H1) ∧ ∀ j m G, W j m G →
  (J.stop j G ∧ Nx G) ∨ (J.go j G ∧ ∃ Nx1 : Hp → Prop, (∀ G', Nx1 G' → ∃ m', m' < m ∧ W (j + 1) m' G') ∧ ∀ x G', J.yld j G x G' → g x (wipe σ vs) G' fun σ2 G2 => wipe σ2 vs = wipe σ vs ∧ b D σ2 G2 Nx1)
def tLcN (wi : TI) (g : TG) (vs : List Nat) (b : LvT) : TE := fun σ H Q => wi σ H fun J H1 => ∀ D, H1 D = none → ∃ W : Nat → Nat → Hp → Prop, (∃ m, W 0 m (upd H1 D (.lst []))) ∧ ∀ j m G, W j m G →
  (J.stop j G ∧ Q (.ref D) G) ∨ (J.go j G ∧ ∃ Nx1 : Hp → Prop, (∀ G', Nx1 G' → ∃ m', m' < m ∧ W (j + 1) m' G') ∧ ∀ x G', J.yld j G x G' → g x (wipe σ vs) G' fun σ2 G2 => wipe σ2 vs = wipe σ vs ∧ b D σ2 G2 Nx1)
section
variable {prog : Program} {w : World} {A : Around} {R : Result → Shared → Prop} {elt : Expr} {gens : List Comprehension} {scope : Scope} {pos : Pos} {k : Nat} {tg ik : Expr} {env : Env} {acc it : Value} {code : Sem Fin → Sem Fin}
theorem loop_by (T : TurnIs (.ListComp elt gens scope pos) k tg ik env acc code) (W : Nat → Shared → Prop)
    (turn : ∀ n s, W n s → wpAny (model prog w) A (pyNext it) (fun r s1 => match r with
      | none => R (.ok .next) s1
      | some v => wpAny (model prog w) A (letOwnedTupleGo tg it v) (fun _ s2 => wpAny (model prog w) A (assign tg env v) (fun _ s3 => wpAny (model prog w) A (code (again (.compLoop (.ListComp elt gens scope pos) k it acc env))) (fun f s4 => f = .again (.compLoop (.ListComp elt gens scope pos) k it acc env) ∧ ∃ m, m < n ∧ W m s4) (fun _ _ => False) s3) (fun _ _ => False) s2) (fun _ _ => False) s1) (fun _ _ => False) s)
    (n : Nat) {s : Shared} (h : W n s) : codeAny (model prog w) A (.compLoop (.ListComp elt gens scope pos) k it acc env) R s := by
  refine codeAny_loop rfl W (fun n s hW => ?_) n h
  show wpAny _ A ((compTurn (.ListComp elt gens scope pos) k it acc env).onRaise _) _ _ s
  refine wpAny_noted ?_
  rw [T it]
  refine wpAny_bind (wpAny_standAt (wpAny_bind (thnF (turn n s hW) fun r s1 q1 => ?_)))
  cases r with
  | none => exact wpAny_pure q1
  | some v => exact wpAny_bind (thnF q1 fun _ s2 q2 => wpAny_bind (thnF q2 fun _ s3 q3 => thnF q3 fun f s4 ⟨e, q4⟩ => by subst e; exact ⟨rfl, q4⟩))
/-- a clause's loop is started: the iterator is its own -/
theorem start_by (h0 : codeAny (model prog w) A (.compLoop (.ListComp elt gens scope pos) k it acc env) R s) (ha : ((clausesOf (.ListComp elt gens scope pos))[k]?).elim false (·.is_async != 0) = false)
    (h1 : wpAny (model prog w) A (pyIter it) (fun v s1 => v = it ∧ codeAny (model prog w) A (.compLoop (.ListComp elt gens scope pos) k it acc env) R s1) (fun _ _ => False) s) : codeAny (model prog w) A (.compStart (.ListComp elt gens scope pos) k it acc env) R s := by
  refine codeAny_of_tree ?_
  show wpAny _ _ ((compStart (.ListComp elt gens scope pos) k it acc env).onRaise _) _ _ s
  refine wpAny_notedAt ?_
  unfold compStart
  rw [ha]
  show wpAny _ _ (ask >>= _) _ _ s
  have fin : ∀ s', wpAny (model prog w) A (pyIter it) (fun v s1 => v = it ∧ codeAny (model prog w) A (.compLoop (.ListComp elt gens scope pos) k it acc env) R s1) (fun _ _ => False) s' →
      wpAny (model prog w) A (do let v ← pyIter it; again (.compLoop (.ListComp elt gens scope pos) k v acc env)) (fun fin s' => match fin with | .done f => R (.ok f) s' | .again c' => c'.quiet = true ∧ codeAny (model prog w) A c' R s') (fun _ _ => False) s' := fun s' q =>
    wpAny_bind (thnF q fun v s1 ⟨e, c⟩ => by subst e; exact wpAny_pure ⟨rfl, c⟩)
  refine wpAny_bind (wpAny_askSetting (wpAny_ite ?_))
  split
  · first
      | exact wpAny_pure (And.intro rfl h0)
      | exact wpAny_bind (wpAny_pure (wpAny_pure (And.intro rfl h0)))
  · refine wpAny_bind (wpAny_rule ?_)
    cases (clausesOf (.ListComp elt gens scope pos))[k]? with
    | none =>
      refine wpAny_mono (Q := fun fin s' => match fin with | .done f => R (.ok f) s' | .again c' => c'.quiet = true ∧ codeAny (model prog w) A c' R s') (E := fun _ _ => False) ?_ (fun _ _ q => q) (fun _ _ z => z.elim)
      first
        | exact fin _ h1
        | exact wpAny_bind (wpAny_pure (fin _ h1))
    | some g =>
      refine wpAny_mono (Q := fun fin s' => match fin with | .done f => R (.ok f) s' | .again c' => c'.quiet = true ∧ codeAny (model prog w) A c' R s') (E := fun _ _ => False) ?_ (fun _ _ q => q) (fun _ _ z => z.elim)
      first
        | exact wpAny_bind (wpAny_standAt (fin _ h1))
        | (show wpAny _ _ (standAt g.iter.pos >>= _) _ _ _; exact wpAny_bind (wpAny_standAt (fin _ h1)))
end
/-- what stands behind a store: it goes on where Nx holds -/
def BdOk (X : Cx) (code : Sem Fin → Sem Fin) (b : L2.St → Hp → (Hp → Prop) → Prop) (vs' : List Nat) : Prop :=
  ∀ (pins : List (Addr × Obj)) (s : Shared) (σ : L2.St) (H : Hp) (Nx : Hp → Prop) (next : Sem Fin) (Qn : Fin → Shared → Prop), Inv X pins σ H s → b σ H Nx →
    (∀ s' H', Inv X pins (wipe σ vs') H' s' → Nx H' → wpAny (model X.prog X.w) X.A next Qn (fun _ _ => False) s') → wpAny (model X.prog X.w) X.A (code next) Qn (fun _ _ => False) s
/-- the loop of one clause, in its block -/
theorem run_lv {X : Cx} {pins : List (Addr × Obj)} {σ : L2.St} {H : Hp} {s : Shared} {R : Result → Shared → Prop} {elt : Expr} {gens : List Comprehension} {scope : Scope} {pos : Pos} {k : Nat} {tg ik : Expr} {D it : Addr} {code : Sem Fin → Sem Fin} {vs vs' : List Nat} {g : TG} {b : LvT} {J : It} {fp : List Addr} {tn : Nat → Heap → Prop}
    {W : Nat → Nat → Hp → Prop} {Nx : Hp → Prop} {m0 : Nat} (hc : X.calm = true) (hxe : X.xe = fun _ _ => False) (TI : TurnIs (.ListComp elt gens scope pos) k tg ik X.env (.ref D) code) (pg : PG X tg g)
    (bd : BdOk X code (b D) vs') (hvs : ∀ i ∈ vs', i ∈ vs)
    (T : Turn X.prog X.w X.K tg J fp it tn) (hf : ∀ a ∈ fp, ∀ H', H' a = none → FpOk X pins H' a) (I : Inv X pins (wipe σ vs) H s) (st : tn 0 s.heap) (nf : ∀ a ∈ fp, H a = none) (w0 : W 0 m0 H)
    (turn : ∀ j m G, W j m G → (J.stop j G ∧ Nx G) ∨ (J.go j G ∧ ∃ Nx1 : Hp → Prop, (∀ G', Nx1 G' → ∃ m', m' < m ∧ W (j + 1) m' G') ∧ ∀ x G', J.yld j G x G' → g x (wipe σ vs) G' fun σ2 G2 => wipe σ2 vs = wipe σ vs ∧ b D σ2 G2 Nx1))
    (hR : ∀ s' H', Inv X pins (wipe σ vs) H' s' → Nx H' → R (.ok .next) s') : codeAny (model X.prog X.w) X.A (.compLoop (.ListComp elt gens scope pos) k (.ref it) (.ref D) X.env) R s := by
  refine loop_by TI (fun n s' => ∃ j H', Inv X pins (wipe σ vs) H' s' ∧ tn j s'.heap ∧ (∀ a ∈ fp, H' a = none) ∧ W j n H') (fun n s1 hW => ?_) m0 ⟨0, H, I, st, nf, w0⟩
  obtain ⟨j, H1, I1, st1, nf1, w1⟩ := hW
  rcases turn j n H1 w1 with ⟨hs, nx⟩ | ⟨hg, Nx1, hN, step⟩
  · refine thnF (T.done X rfl rfl rfl hc j pins s1 _ H1 (fun _ _ => False) I1 (fun a ha => hf a ha H1 (nf1 a ha)) st1 hs) fun r s2 ⟨hr, I2⟩ => ?_
    subst hr
    exact hR s2 H1 I2 nx
  · refine thnF (T.item X rfl rfl rfl hc j pins s1 _ H1 (fun _ _ => False) I1 (fun a ha => hf a ha H1 (nf1 a ha)) st1 hg) fun r s2 ⟨u, hr, h2⟩ => ?_
    subst hr
    refine thnF h2 fun _ s3 ⟨x, H3, I3, r3, y3, st3, nf3⟩ => ?_
    have P3 := I3.pinned (fun a ha => hf a ha H3 (nf3 a ha)) (T.obj _ _ st3)
    have pgr := pg.run _ s3 _ H3 x u _ P3 r3 (step x H3 y3)
    rw [hxe] at pgr
    refine thnF pgr fun _ s4 ⟨σ4, H4, I4, hw, q4⟩ => ?_
    refine bd _ s4 σ4 H4 Nx1 _ _ I4 q4 fun s5 H5 I5 n5 => wpAny_pure ⟨rfl, ?_⟩
    obtain ⟨m', hm, w'⟩ := hN H5 n5
    have kept : ∀ a ∈ fp, ∀ o, s3.heap.get? a = some o → s5.heap.get? a = some o ∧ H5 a = none := fun a ha o e => by
      have z := I5.pin (a, o) (List.mem_append_right _ (List.mem_append_right _ (mem_pinsAt ha e)))
      exact ⟨z.1, z.2.1⟩
    refine ⟨m', hm, j + 1, H5, I5.unpinned.weak ?_ (fun i v e => ?_), T.keep _ _ _ st3 fun a ha o e => (kept a ha o e).1, fun a ha => ?_, w'⟩
    · rw [wipe_length, wipe_length, ← wipe_length σ4 vs, hw, wipe_length]
    · rw [← hw] at e
      obtain ⟨e1, e2⟩ := wipe_some e
      rw [wipe_out fun z => e2 (hvs i z)]
      exact e1
    · obtain ⟨o, e, _⟩ := T.obj _ _ st3 a ha
      exact (kept a ha o e).2
/-- a further clause: its source, then its loop -/
theorem lv_in {X : Cx} {elt : Expr} {gens : List Comprehension} {scope : Scope} {pos : Pos} {k : Nat} {tg ik : Expr} {D : Addr} {code : Sem Fin → Sem Fin} {vs vs' : List Nat} {wi : TI} {g : TG} {b : LvT} (hc : X.calm = true) (hxe : X.xe = fun _ _ => False)
    (TI : TurnIs (.ListComp elt gens scope pos) k tg ik X.env (.ref D) code) (pi : PI X tg ik wi) (pg : PG X tg g)
    (bd : BdOk X code (b D) vs') (hvs : ∀ i ∈ vs', i ∈ vs)
    (hs : ∀ x, foldedSetIterable ik X.env x = pure x) (ha : ((clausesOf (.ListComp elt gens scope pos))[k]?).elim false (·.is_async != 0) = false) :
    BdOk X (stepIn (.ListComp elt gens scope pos) k ik X.env (.ref D)) (bIn wi g vs b D) vs := by
  intro pins s σ H Nx next Qn I h hn
  have r0 := pi.run pins s σ H _ I h
  rw [hxe] at r0
  unfold stepIn
  refine wpAny_bind (thnF r0 fun x s1 hx => wpAny_bind (wpAny_standAt (wpAny_bind (wpAny_of_eq (hs x) (wpAny_bind (wpAny_holding (thnF hx fun itv s2 h2 => ?_)))))))
  obtain ⟨it, fp, tn, J, H2, e, I2, T, st2, f2, W, ⟨m1, w1⟩, turn⟩ := h2
  subst e
  have nf : ∀ a ∈ fp, H2 a = none := fun a ha => (f2 a ha).1
  have loop := run_lv (R := fun r s' => ∃ f, r = .ok f ∧ ∃ H', Inv X pins (wipe σ vs) H' s' ∧ Nx H') (s := s2) (H := H2) (σ := σ) hc hxe TI pg bd hvs T (fun a ha H' z => ⟨z, (f2 a ha).2⟩) (I2.weak (wipe_length _ _) fun j v e => (wipe_some e).1) st2 nf w1 turn (fun s' H' I' n => ⟨_, rfl, H', I', n⟩)
  refine wpAny_bind (wpAny_runOwn ?_)
  rw [Around.mark_none]
  refine codeAny_mono (start_by loop ha (T.self X.A 0 s2 _ _ st2 ⟨rfl, loop⟩)) fun r s' hr => ?_
  obtain ⟨f, rfl, H', I', n⟩ := hr
  exact hn s' H' I' n
/-- the item -/
theorem lv_leaf {X : Cx} {elt : Expr} {te : TE} {D : Addr} (hxe : X.xe = fun _ _ => False) (pe : PE X elt te) :
    BdOk X (stepLeaf elt X.env (.ref D)) (bLeaf te D) [] := by
  intro pins s σ H Nx next Qn I h hn
  have r0 := pe.run pins s σ H _ I h
  rw [hxe] at r0
  unfold stepLeaf
  refine wpAny_bind (wpAny_bind (thnF r0 fun u s1 ⟨y, H1, I1, r1, acc, hD, hz, nx⟩ => wpAny_bind ?_))
  exact app_ok I1 hD hz r1 fun s2 I2 => wpAny_pure (hn s2 _ I2 nx)
/-- the whole -/
theorem pe_lcN {X : Cx} {elt tg iter : Expr} {rest : List Comprehension} {scope : Scope} {own : List (Str × Nat)} {pos : Pos} {wi : TI} {g : TG} {b : LvT} {vs' : List Nat} {code : Env → Addr → Sem Fin → Sem Fin} (hc : X.calm = true) (hN : X.N.Nodup) (hi : PI X tg iter wi) (ok : BlkOk X.N X.env.scope scope own)
    (hg : ∀ (s : Shared) (H : Hp) (C : Addr) (cl : List (Str × Addr)) (fp : List Addr), PG (X.blk s H scope (compEnvC scope cl C X.env) fp) tg g)
    (TI : ∀ (env : Env) (D : Addr), TurnIs (.ListComp elt (⟨tg, iter, [], 0⟩ :: rest) scope pos) 0 tg iter env (.ref D) (code env D)) (hvs : ∀ i ∈ vs', i ∈ own.map (·.2))
    (bd : ∀ (s : Shared) (H : Hp) (C : Addr) (cl : List (Str × Addr)) (fp : List Addr) (D : Addr), BdOk (X.blk s H scope (compEnvC scope cl C X.env) fp) (code (compEnvC scope cl C X.env) D) (b D) vs')
    (hs : ∀ x, foldedSetIterable iter X.env x = pure x := by intro _; rfl) : PE X (.ListComp elt (⟨tg, iter, [], 0⟩ :: rest) scope pos) (tLcN wi g (own.map (·.2)) b) := by
  refine ⟨fun pins s σ H Q I h => ?_⟩
  rw [eval_ListComp]
  have hfree : ∀ y ∈ scope.names, y.2 = .free → ∃ c, X.env.cells.lookup y.1 = some c := fun y hy e => I.ok.has _ (ok.free y hy e)
  refine wpAny_comprehension_free (use := none) rfl hs (closure_ok hfree) ok.kind (fun y hy e => (ok.uniq y hy).trans (by rw [e])) (thn (hi.run pins s σ H _ I h) fun xv s1 hx => thn hx fun itv s2 h2 => ?_)
  obtain ⟨it, fp, tn, J, H2, e, I2, T, st2, f2, q⟩ := h2
  subst e
  refine wpAny_newObj_type (newEnv_comp ?_) (show 0 ≤ sizeLine by omega)
  generalize hD : s2.heap.objs.size = D
  have nD : H2 D = none := I2.hok.fresh (Nat.le_of_eq hD)
  obtain ⟨W, ⟨m0, w0⟩, turn⟩ := q D nD
  have older : ∀ a ∈ fp, a < s2.heap.objs.size := fun a ha => by
    obtain ⟨o, e, _⟩ := T.obj _ _ st2 a ha
    exact Heap.lt_size e
  generalize eL : ({ s2 with heap := s2.heap.push { cls := .type "list", data := .seq ([] : List Value).toArray } } : Shared) = t3
  have hL : t3.heap = s2.heap.push { cls := .type "list", data := .seq ([] : List Value).toArray } := by rw [← eL]
  have I3 : Inv X pins σ (upd H2 D (.lst [])) t3 := by
    subst eL
    exact I2.laid (t' := s2.toks) (fun a o e => Heap.get?_push_of_some _ e) (Nat.le_of_eq hD) ⟨Nat.zero_le _, [], 0, .nil, by rw [← hD]; exact Heap.get?_push_size _ rfl⟩
  have F3 : ∀ a ∈ fp, FpOk X pins (upd H2 D (.lst [])) a ∧ a < t3.heap.objs.size := fun a ha => by
    have lt := older a ha
    refine ⟨⟨?_, (f2 a ha).2⟩, by rw [hL, Heap.size_push]; exact Nat.lt_succ_of_lt lt⟩
    rw [upd_ne (by rw [← hD]; exact Nat.ne_of_lt lt)]
    exact (f2 a ha).1
  have B := block_start I3 ok hN F3
  have N3 : ∀ a ∈ fp, upd H2 D (.lst []) a = none := fun a ha => (F3 a ha).1.1
  show codeAny _ _ (.compStart (.ListComp elt (⟨tg, iter, [], 0⟩ :: rest) scope pos) 0 (.ref it) (.ref D) (compEnvC scope (cellsFrom (t3.heap.objs.size + 1) scope.names (cloFrom X.env.cells scope.names [])) t3.heap.objs.size X.env)) (compPost (model X.prog X.w) X.A X.xe none _ (.ref D) t3.heap.objs.size) { t3 with heap := pushCells (t3.heap.push { cls := .type "dict", data := .dict #[] }) scope.names }
  have pgB := hg t3 (upd H2 D (.lst [])) t3.heap.objs.size (cellsFrom (t3.heap.objs.size + 1) scope.names (cloFrom X.env.cells scope.names [])) fp
  have bdB := bd t3 (upd H2 D (.lst [])) t3.heap.objs.size (cellsFrom (t3.heap.objs.size + 1) scope.names (cloFrom X.env.cells scope.names [])) fp D
  generalize eC : compEnvC scope (cellsFrom (t3.heap.objs.size + 1) scope.names (cloFrom X.env.cells scope.names [])) t3.heap.objs.size X.env = ce at B pgB bdB ⊢
  have hce : ce.locals = t3.heap.objs.size := by rw [← eC]; rfl
  have st4 : tn 0 (pushCells (t3.heap.push { cls := .type "dict", data := .dict #[] }) scope.names) := T.keep _ _ _ st2 fun a _ o e => pushCells_keeps _ _ _ _ (Heap.get?_push_of_some _ (by rw [hL]; exact Heap.get?_push_of_some _ e))
  have loop := run_lv (X := X.blk t3 (upd H2 D (.lst [])) scope ce fp) (R := compPost (model X.prog X.w) X.A X.xe none (EP X pins σ Q) (.ref D) t3.heap.objs.size) (σ := σ) (vs := own.map (·.2)) (g := g) (b := b) (Nx := fun G => Q (.ref D) G) (m0 := m0) hc rfl (TI ce D) pgB bdB hvs T
    (fun a ha H' z => ⟨z, (B.ok.exf a ha).1, B.ok.exfs a ha, .inl ha, fun x c e => (B.ok.exf a ha).2 x c e, fun p hp => by cases hp⟩) B st4 N3 w0 turn (fun s' H' I' hq => ?_)
  · exact start_by loop rfl (T.self X.A 0 _ _ _ st4 ⟨rfl, loop⟩)
  · have back : Inv X pins σ H' s' := I3.call' (ch := fp) I'.os I'.base I'.hok I'.bare fun a ha => ⟨(F3 a ha).1.2.2.2.1, (F3 a ha).1.2.1, (F3 a ha).1.2.2.2.2.1, (F3 a ha).1.2.2.2.2.2⟩
    obtain ⟨m, hm, _⟩ := I'.loc
    have hm : s'.heap.Ns ce.locals m := hm
    have free : H' ce.locals = none := I'.free
    rw [hce] at hm free
    refine ⟨m, hm, fun h2 sb => ?_⟩
    obtain ⟨z0, z1, z2, z3, z4, z5⟩ := I3.fpOk (Nat.le_refl _) free
    exact ⟨.ref D, H', back.turned (t' := s'.toks) (fun a o ha e => (sb.2 a ha).trans e) z0 z1 z3 z4 z5, rfl, hq⟩
/-- three clauses -/
theorem pe_lc3 {X : Cx} {elt t0 i0 t1 i1 t2 i2 : Expr} {scope : Scope} {own : List (Str × Nat)} {pos : Pos} {w0 w1 w2 : TI} {g0 g1 g2 : TG} {te : TE} {vs1 vs2 : List Nat} (hc : X.calm = true) (hN : X.N.Nodup) (ok : BlkOk X.N X.env.scope scope own) (hv1 : ∀ i ∈ vs1, i ∈ own.map (·.2)) (hv2 : ∀ i ∈ vs2, i ∈ vs1)
    (h0 : PI X t0 i0 w0) (hg0 : ∀ (s : Shared) (H : Hp) (C : Addr) (cl : List (Str × Addr)) (fp : List Addr), PG (X.blk s H scope (compEnvC scope cl C X.env) fp) t0 g0)
    (h1 : ∀ (s : Shared) (H : Hp) (C : Addr) (cl : List (Str × Addr)) (fp : List Addr), PI (X.blk s H scope (compEnvC scope cl C X.env) fp) t1 i1 w1) (hg1 : ∀ (s : Shared) (H : Hp) (C : Addr) (cl : List (Str × Addr)) (fp : List Addr), PG (X.blk s H scope (compEnvC scope cl C X.env) fp) t1 g1)
    (h2 : ∀ (s : Shared) (H : Hp) (C : Addr) (cl : List (Str × Addr)) (fp : List Addr), PI (X.blk s H scope (compEnvC scope cl C X.env) fp) t2 i2 w2) (hg2 : ∀ (s : Shared) (H : Hp) (C : Addr) (cl : List (Str × Addr)) (fp : List Addr), PG (X.blk s H scope (compEnvC scope cl C X.env) fp) t2 g2)
    (he : ∀ (s : Shared) (H : Hp) (C : Addr) (cl : List (Str × Addr)) (fp : List Addr), PE (X.blk s H scope (compEnvC scope cl C X.env) fp) elt te)
    (s0 : ∀ x, foldedSetIterable i0 X.env x = pure x := by intro _; rfl) (s1 : ∀ env x, foldedSetIterable i1 env x = pure x := by intro _ _; rfl) (s2 : ∀ env x, foldedSetIterable i2 env x = pure x := by intro _ _; rfl) :
    PE X (.ListComp elt [⟨t0, i0, [], 0⟩, ⟨t1, i1, [], 0⟩, ⟨t2, i2, [], 0⟩] scope pos) (tLcN w0 g0 (own.map (·.2)) (bIn w1 g1 vs1 (bIn w2 g2 vs2 (bLeaf te)))) :=
  pe_lcN (code := fun env D => stepIn (.ListComp elt [⟨t0, i0, [], 0⟩, ⟨t1, i1, [], 0⟩, ⟨t2, i2, [], 0⟩] scope pos) 1 i1 env (.ref D)) hc hN h0 ok hg0 (fun env D it => rfl) hv1 (fun s H C cl fp D =>
    lv_in (code := stepIn (.ListComp elt [⟨t0, i0, [], 0⟩, ⟨t1, i1, [], 0⟩, ⟨t2, i2, [], 0⟩] scope pos) 2 i2 (compEnvC scope cl C X.env) (.ref D)) hc rfl (fun it => rfl) (h1 s H C cl fp) (hg1 s H C cl fp)
      (lv_in (code := stepLeaf elt (compEnvC scope cl C X.env) (.ref D)) hc rfl (fun it => rfl) (h2 s H C cl fp) (hg2 s H C cl fp) (lv_leaf rfl (he s H C cl fp)) (fun i hi => by cases hi) (s2 _) rfl) hv2 (s1 _) rfl) s0
section
variable {J : It} {n : Nat} {G : Hp → Prop} {Y : Nat → Hp → V → Hp → Prop}
/-- the walk of the first clause -/
theorem cN (w : Walk J n G Y) {g : TG} {vs : List Nat} {b : LvT} {σ : L2.St} {H1 : Hp} {D : Addr} {Q : VK} (Pv : Nat → Hp → Prop) (h0 : Pv 0 (upd H1 D (.lst []))) (hG : ∀ i H, i ≤ n → Pv i H → G H)
    (hs : ∀ i x H H', i < n → Pv i H → Y i H x H' → g x (wipe σ vs) H' fun σ2 H2 => wipe σ2 vs = wipe σ vs ∧ b D σ2 H2 (Pv (i + 1))) (hd : ∀ H, Pv n H → Q (.ref D) H) :
    ∃ W : Nat → Nat → Hp → Prop, (∃ m, W 0 m (upd H1 D (.lst []))) ∧ ∀ j m G, W j m G → (J.stop j G ∧ Q (.ref D) G) ∨ (J.go j G ∧ ∃ Nx1 : Hp → Prop, (∀ G', Nx1 G' → ∃ m', m' < m ∧ W (j + 1) m' G') ∧ ∀ x G', J.yld j G x G' → g x (wipe σ vs) G' fun σ2 G2 => wipe σ2 vs = wipe σ vs ∧ b D σ2 G2 Nx1) := by
  refine ⟨fun i m H => m = n - i ∧ i ≤ n ∧ Pv i H, ⟨n, by simp, Nat.zero_le _, h0⟩, ?_⟩
  rintro i m H ⟨rfl, hi, p⟩
  rcases Nat.lt_or_ge i n with hlt | hge
  · exact .inr ⟨w.goes i H hlt (hG i H hi p), Pv (i + 1), fun H' p' => ⟨n - (i + 1), by omega, rfl, hlt, p'⟩, fun x H' y => hs i x H H' hlt p (w.yields i H x H' hlt (hG i H hi p) y)⟩
  · obtain rfl : i = n := by omega
    exact .inl ⟨w.stops H (hG i H hi p), hd H p⟩
/-- .. of a further one -/
theorem cI (w : Walk J n G Y) {g : TG} {vs : List Nat} {b : LvT} {σ : L2.St} {H1 : Hp} {D : Addr} {Nx : Hp → Prop} (Pv : Nat → Hp → Prop) (h0 : Pv 0 H1) (hG : ∀ i H, i ≤ n → Pv i H → G H)
    (hs : ∀ i x H H', i < n → Pv i H → Y i H x H' → g x (wipe σ vs) H' fun σ2 H2 => wipe σ2 vs = wipe σ vs ∧ b D σ2 H2 (Pv (i + 1))) (hd : ∀ H, Pv n H → Nx H) :
    ∃ W : Nat → Nat → Hp → Prop, (∃ m, W 0 m H1) ∧ ∀ j m G, W j m G → (J.stop j G ∧ Nx G) ∨ (J.go j G ∧ ∃ Nx1 : Hp → Prop, (∀ G', Nx1 G' → ∃ m', m' < m ∧ W (j + 1) m' G') ∧ ∀ x G', J.yld j G x G' → g x (wipe σ vs) G' fun σ2 G2 => wipe σ2 vs = wipe σ vs ∧ b D σ2 G2 Nx1) := by
  refine ⟨fun i m H => m = n - i ∧ i ≤ n ∧ Pv i H, ⟨n, by simp, Nat.zero_le _, h0⟩, ?_⟩
  rintro i m H ⟨rfl, hi, p⟩
  rcases Nat.lt_or_ge i n with hlt | hge
  · exact .inr ⟨w.goes i H hlt (hG i H hi p), Pv (i + 1), fun H' p' => ⟨n - (i + 1), by omega, rfl, hlt, p'⟩, fun x H' y => hs i x H H' hlt p (w.yields i H x H' hlt (hG i H hi p) y)⟩
  · obtain rfl : i = n := by omega
    exact .inl ⟨w.stops H (hG i H hi p), hd H p⟩
end
end Fm
end FFmLcN
section FFmLc2
set_option Elab.async false
set_option linter.all false
set_option maxRecDepth 100000
set_option maxHeartbeats 4000000
namespace Fm
open PySem PySem.Spec PyProof.Rows L2
/-- the inner walk of a comprehension with two for, its list at D, within one turn of the outer one -/
def LcI (J1 : It) (g1 : TG) (tt1 : TT) (te : TE) (vs1 : List Nat) (σ2 : L2.St) (H4 : Hp) (D : Addr) (Nx : Hp → Prop) : Prop := ∃ W1 : Nat → Nat → Hp → Prop, (∃ m, W1 0 m H4) ∧ ∀ j k H, W1 j k H →
  (J1.stop j H ∧ Nx H) ∨ (J1.go j H ∧ ∃ Nx1 : Hp → Prop, (∀ H', Nx1 H' → ∃ k', k' < k ∧ W1 (j + 1) k' H') ∧ ∀ x H', J1.yld j H x H' → g1 x (wipe σ2 vs1) H' fun σ3 H5 => wipe σ3 vs1 = wipe σ2 vs1 ∧ tt1 σ3 H5 fun b H6 =>
    if b = true then te σ3 H6 fun y H7 => ∃ acc, H7 D = some (.lst acc) ∧ acc.length < sizeLine ∧ Nx1 (upd H7 D (.lst (acc ++ [y]))) else Nx1 H6)
def Lc2B (J : It) (g : TG) (tt : TT) (wi1 : TI) (g1 : TG) (tt1 : TT) (te : TE) (vs vs1 : List Nat) (σ : L2.St) (H1 : Hp) (D : Addr) (Qd : Hp → Prop) : Prop := ∃ W : Nat → Nat → Hp → Prop, (∃ m, W 0 m (upd H1 D (.lst []))) ∧ ∀ i m H, W i m H →
  (J.stop i H ∧ Qd H) ∨ (J.go i H ∧ ∃ Nx : Hp → Prop, (∀ H', Nx H' → ∃ m', m' < m ∧ W (i + 1) m' H') ∧ ∀ x H', J.yld i H x H' → g x (wipe σ vs) H' fun σ2 H2 => wipe σ2 vs = wipe σ vs ∧ tt σ2 H2 fun b H3 =>
    if b = true then wi1 σ2 H3 fun J1 H4 => LcI J1 g1 tt1 te vs1 σ2 H4 D Nx else Nx H3)
theorem tLc2_eq {wi wi1 : TI} {g g1 : TG} {tt tt1 : TT} {te : TE} {vs vs1 : List Nat} {σ : L2.St} {H : Hp} {Q : VK} : tLc2 wi g tt wi1 g1 tt1 te vs vs1 σ H Q = wi σ H fun J H1 => ∀ A, H1 A = none → Lc2B J g tt wi1 g1 tt1 te vs vs1 σ H1 A (fun H => Q (.ref A) H) := rfl
section
variable {J : It} {n : Nat} {G : Hp → Prop} {Y : Nat → Hp → V → Hp → Prop}
theorem l2I (w : Walk J n G Y) {g : TG} {tt : TT} {wi1 : TI} {g1 : TG} {tt1 : TT} {te : TE} {vs vs1 : List Nat} {σ : L2.St} {H1 : Hp} {D : Addr} {Qd : Hp → Prop} (Pv : Nat → Hp → Prop) (h0 : Pv 0 (upd H1 D (.lst []))) (hG : ∀ i H, i ≤ n → Pv i H → G H)
    (hs : ∀ i x H H', i < n → Pv i H → Y i H x H' → g x (wipe σ vs) H' fun σ2 H2 => wipe σ2 vs = wipe σ vs ∧ tt σ2 H2 fun b H3 =>
      if b = true then wi1 σ2 H3 fun J1 H4 => LcI J1 g1 tt1 te vs1 σ2 H4 D (Pv (i + 1)) else Pv (i + 1) H3) (hd : ∀ H, Pv n H → Qd H) : Lc2B J g tt wi1 g1 tt1 te vs vs1 σ H1 D Qd := by
  refine ⟨fun i m H => m = n - i ∧ i ≤ n ∧ Pv i H, ⟨n, by simp, Nat.zero_le _, h0⟩, ?_⟩
  rintro i m H ⟨rfl, hi, p⟩
  have q := hG i H hi p
  by_cases hlt : i < n
  · exact .inr ⟨w.goes i H hlt q, Pv (i + 1), fun H' p' => ⟨n - (i + 1), by omega, rfl, hlt, p'⟩, fun x H' y => hs i x H H' hlt p (w.yields i H x H' hlt q y)⟩
  · have e : i = n := by omega
    subst e
    exact .inl ⟨w.stops H q, hd H p⟩
theorem liI (w : Walk J n G Y) {g1 : TG} {tt1 : TT} {te : TE} {vs1 : List Nat} {σ2 : L2.St} {H4 : Hp} {D : Addr} {Nx : Hp → Prop} (Pv : Nat → Hp → Prop) (h0 : Pv 0 H4) (hG : ∀ i H, i ≤ n → Pv i H → G H)
    (hs : ∀ i x H H', i < n → Pv i H → Y i H x H' → g1 x (wipe σ2 vs1) H' fun σ3 H5 => wipe σ3 vs1 = wipe σ2 vs1 ∧ tt1 σ3 H5 fun b H6 =>
      if b = true then te σ3 H6 fun y H7 => ∃ acc, H7 D = some (.lst acc) ∧ acc.length < sizeLine ∧ Pv (i + 1) (upd H7 D (.lst (acc ++ [y]))) else Pv (i + 1) H6) (hd : ∀ H, Pv n H → Nx H) : LcI J g1 tt1 te vs1 σ2 H4 D Nx := by
  refine ⟨fun i m H => m = n - i ∧ i ≤ n ∧ Pv i H, ⟨n, by simp, Nat.zero_le _, h0⟩, ?_⟩
  rintro i m H ⟨rfl, hi, p⟩
  have q := hG i H hi p
  by_cases hlt : i < n
  · exact .inr ⟨w.goes i H hlt q, Pv (i + 1), fun H' p' => ⟨n - (i + 1), by omega, rfl, hlt, p'⟩, fun x H' y => hs i x H H' hlt p (w.yields i H x H' hlt q y)⟩
  · have e : i = n := by omega
    subst e
    exact .inl ⟨w.stops H q, hd H p⟩
end
theorem pi_listK {X : Cx} {K : PySem.W.Frag} {tg l : Expr} {tl : TE} (e : X.K = K) (hl : PE X l tl) : PI X tg l (iList K tl) := by
  subst e
  exact pi_list hl
theorem pt_truthK {X : Cx} {K : PySem.W.Frag} {a : Expr} {ta : TE} (e : X.K = K) (ha : PE X a ta) (he : ∀ whole, isTrue a X.env whole = (do let v ← whole; standAt a.pos; holding [v] (truthy v))) :
    PT X a (fun σ H Q => ta σ H fun x H' => ∃ k, TruV K x H' k ∧ Q k H') := by
  subst e
  exact pt_truth ha he
end Fm
end FFmLc2
section FTH
set_option Elab.async false
set_option linter.all false
set_option maxRecDepth 100000
set_option maxHeartbeats 4000000
local macro_rules | `(tactic| walk_at "ne") => `(tactic| first | assumption | (apply Ne.symm; assumption) | exact L2.ne_of_none (by assumption) (by assumption) | exact Ne.symm (L2.ne_of_none (by assumption) (by assumption)))
local macro_rules | `(tactic| walk_at "hl") => `(tactic| first | assumption | exact L2.upd_same | (refine Eq.trans (L2.upd_ne (by walk_at "ne")) ?_; walk_at "hl"))
local macro_rules | `(tactic| walk_at "sd") => `(tactic| first | (with_reducible show (_ : Int) < _; omega) | (with_reducible show (_ : Int) ≤ _; omega) | assumption | decide | exact ⟨by assumption, by assumption⟩ | exact ⟨by decide, by decide⟩ | exact Or.inr ⟨by decide, by decide⟩ | exact Or.inl ⟨by omega, by omega⟩ | rfl)
local macro_rules | `(tactic| walk_at "st1") => `(tactic| first
  | refine ⟨_, rfl, ?_⟩
  | refine ⟨_, _, rfl, rfl, ?_⟩
  | refine ⟨_, _, rfl, ?_⟩
  | (refine ⟨_, _, _, _, rfl, rfl, L2.SqL.of (by walk_at "hl"), rfl, ?_⟩)
  | (refine ⟨_, _, _, _, rfl, rfl, L2.SqT.of (by walk_at "hl"), rfl, ?_⟩)
  | (refine ⟨_, _, _, _, rfl, rfl, (by walk_at "hl"), rfl, ?_⟩)
  | (refine And.intro (by walk_at "sd") ?_)
  )
local macro_rules | `(tactic| walk_at "st") => `(tactic| repeat walk_at "st1")
local macro_rules | `(tactic| walk_at "op") => `(tactic| try dsimp only [L2.tSeq, L2.tAsg, L2.tOp, L2.tVar, L2.tC, L2.gSub, L2.rI, L2.rI0, L2.rIxL, L2.rIxT, L2.rSetL, L2.tIfS, L2.tTest, L2.tRet, L2.gName, L2.tNext, L2.tAnd, L2.tOr, L2.tNot, L2.tAndV, L2.tOrV, L2.tNotV, L2.tB, L2.tCB, L2.tCons, L2.tNil, L2.tCall, L2.tTup, L2.tLst, L2.tChain, L2.tUn, L2.tPar, L2.tDrop, L2.tIf, L2.tBM, L2.tBM0, L2.rAppend, L2.rCat, L2.rIsi, L2.rIsiT, L2.gTup, L2.gCons, L2.gNil, Fm.tFor_eq, Fm.tLc_eq, Fm.tLc2_eq, L2.iTup, L2.iList, L2.iRng1, L2.iRng2, L2.tSl, L2.tPart, L2.tNoPart, L2.rSlL, L2.rEq, L2.rNe, L2.rU, L2.rEqD, L2.rNeD, Fm.tRevT, Fm.rLenS, Fm.rTupOf, Fm.rLstOf, L2.tDNewK, L2.tCallS, L2.WE, Fm.wKeep, Fm.rIsK, Fm.rIsKT, List.cons_append, List.nil_append, L2.tYes])
namespace Fm
open PySem PySem.Spec PyProof.Rows L2
abbrev s_threes : Stmt := top 25
abbrev N_threes : List Str := ["m", "a", "b", "c"]
theorem sc_threes : FnScope N_threes ["m"] (defScope s_threes) := ⟨rfl, rfl, rfl, by decide +kernel, rfl, by decide +kernel, by decide +kernel⟩
abbrev s_orders : Stmt := top 26
abbrev N_orders : List Str := ["three", "a", "b", "c"]
theorem sc_orders : FnScope N_orders ["three"] (defScope s_orders) := ⟨rfl, rfl, rfl, by decide +kernel, rfl, by decide +kernel, by decide +kernel⟩
section
variable {P : Program} {w : World} {K : PySem.W.Frag} {mg : Str → Option Value} {base : Heap}
def triD (x : Nat × Nat × Nat) : PyData := .tuple [.int (x.1 : Nat), .int (x.2.1 : Nat), .int (x.2.2 : Nat)]
def rowC (a b n : Nat) : List (Nat × Nat × Nat) := (List.range n).map fun k => (a, b, b + k)
def rowB (m a n : Nat) : List (Nat × Nat × Nat) := (List.range n).flatMap fun j => rowC a (a + j) (m - (a + j))
def thrN (m n : Nat) : List (Nat × Nat × Nat) := (List.range n).flatMap fun a => rowB m a (m - a)
def thr (m : Nat) : List (Nat × Nat × Nat) := thrN m m
theorem rowC_succ (a b n : Nat) : rowC a b (n + 1) = rowC a b n ++ [(a, b, b + n)] := by unfold rowC; rw [List.range_succ, List.map_append]; rfl
theorem rowB_succ (m a n : Nat) : rowB m a (n + 1) = rowB m a n ++ rowC a (a + n) (m - (a + n)) := by unfold rowB; rw [List.range_succ, List.flatMap_append, List.flatMap_singleton]
theorem thrN_succ (m n : Nat) : thrN m (n + 1) = thrN m n ++ rowB m n (m - n) := by unfold thrN; rw [List.range_succ, List.flatMap_append, List.flatMap_singleton]
theorem rowC_len (a b n : Nat) : (rowC a b n).length = n := by unfold rowC; rw [List.length_map, List.length_range]
theorem rowB_len {m : Nat} (hm : m ≤ 6) (a : Nat) : ∀ n, (rowB m a n).length ≤ n * 6
  | 0 => Nat.le_refl 0
  | n + 1 => by
    have := rowB_len hm a n
    rw [rowB_succ, List.length_append, rowC_len]
    omega
theorem thrN_len {m : Nat} (hm : m ≤ 6) : ∀ n, (thrN m n).length ≤ n * 36
  | 0 => Nat.le_refl 0
  | n + 1 => by
    have := thrN_len hm n
    have := rowB_len hm n (m - n)
    rw [thrN_succ, List.length_append]
    omega
theorem triD_no (x : Nat × Nat × Nat) : noList (triD x) = true := noList_of fun e he => by
  simp only [List.mem_cons, List.not_mem_nil, or_false] at he
  rcases he with rfl | rfl | rfl <;> (unfold noList; rfl)
theorem tris_no (l : List (Nat × Nat × Nat)) : ∀ d ∈ l.map triD, noList d = true := fun d hd => by
  obtain ⟨x, _, rfl⟩ := List.mem_map.mp hd
  exact triD_no x
theorem Dat.off {H : Hp} {p L : Addr} {o : HO} {v : V} {d : PyData} (h : Dat H p v d) (hL : H L = none) : Dat (upd H L o) p v d := h.same (same_new hL)
theorem Dats.off {H : Hp} {p L : Addr} {o : HO} {xs : List V} {ds : List PyData} (h : Dats H p xs ds) (hL : H L = none) : Dats (upd H L o) p xs ds := ⟨h.1, fun i x d a b => (h.2 i x d a b).off hL⟩
theorem small1000 {n : Nat} (h : n ≤ 1000) : n < sizeLine := by rw [sizeLine_eq]; omega
theorem Dat.setL {H : Hp} {p R : Addr} {xs ys : List V} {v : V} {d : PyData} (hR : H R = some (.lst xs)) (h : Dat H p v d) : noList d = true → Dat (upd H R (.lst ys)) p v d := by
  induction h with
  | non => exact fun _ => .non
  | bl b => exact fun _ => .bl b
  | int i => exact fun _ => .int i
  | str x => exact fun _ => .str x
  | tup h1 h2 h3 h4 ih => exact fun hn => .tup (by rw [upd_ne (ne_of h1 hR (by intro z; cases z))]; exact h1) h2 h3 fun i x d a b => ih i x d a b (noList_tup hn d (List.mem_of_getElem? b))
  | lst h1 h2 h3 h4 ih => exact fun hn => by unfold noList at hn; cases hn
  | dct h1 h2 => exact fun _ => .dct (by rw [upd_ne (ne_of h1 hR (by intro z; cases z))]; exact h1) h2
theorem Dats.setL {H : Hp} {p R : Addr} {xs ys zs : List V} {ds : List PyData} (hR : H R = some (.lst xs)) (h : Dats H p zs ds) (hn : ∀ d ∈ ds, noList d = true) : Dats (upd H R (.lst ys)) p zs ds :=
  ⟨h.1, fun i x d a b => (h.2 i x d a b).setL hR (hn d (List.mem_of_getElem? b))⟩
theorem rowC_mem {a b n : Nat} {x : Nat × Nat × Nat} (h : x ∈ rowC a b n) : x.1 = a ∧ x.2.1 = b ∧ b ≤ x.2.2 ∧ x.2.2 < b + n := by
  unfold rowC at h
  obtain ⟨k, hk, rfl⟩ := List.mem_map.mp h
  have := List.mem_range.mp hk
  exact ⟨rfl, rfl, Nat.le_add_right _ _, by show b + k < b + n; omega⟩
theorem thr_mem {m : Nat} {x : Nat × Nat × Nat} (h : x ∈ thr m) : x.1 < m ∧ x.2.1 < m ∧ x.2.2 < m := by
  unfold thr thrN at h
  obtain ⟨a, ha, h⟩ := List.mem_flatMap.mp h
  unfold rowB at h
  obtain ⟨j, hj, h⟩ := List.mem_flatMap.mp h
  obtain ⟨h1, h2, h3, h4⟩ := rowC_mem h
  have := List.mem_range.mp ha
  have := List.mem_range.mp hj
  omega
def spThrees : Sp := fun vs H Q _ => ∃ (m : Nat) (p : Addr) (u : HO), vs = [.int (m : Nat)] ∧ m ≤ 6 ∧ H p = some u ∧ ∀ q ws H', H q = none → H' q = some (.lst ws) → Dats H' p ws ((thr m).map triD) → Same H H' → Q (.ref q) H'
theorem ok_threes (D : Df K mg "threes" s_threes ["m"]) (T : Nms mg) : CallOk P w K mg base CX0 1 "threes" ["m"] spThrees := by
  refine df_ok D sc_threes (fun vs H Q E h => ?_) (fun f cdv A outer s H vs Q E hr h => ?_)
  · obtain ⟨m, p, u, rfl, _⟩ := h
    rfl
  · obtain ⟨m, p, u, rfl, hm, hp, k⟩ := h
    have nd := sc_threes.nd
    refine ⟨_, (pss_one (ps_ret (pe_lc3 (own := [("a", 1), ("b", 2), ("c", 3)]) (vs1 := [2, 3]) (vs2 := [3]) (g0 := gName 1) (g1 := gName 2) (g2 := gName 3) (by rfl) nd (blkOk_by (own := [("a", 1), ("b", 2), ("c", 3)]) (N := N_threes) (sc := defScope s_threes) (by decide +kernel)) (by decide) (by decide) (pi_range1 rfl T.n_range (pa_cons (pv 0) pa_nil)) (fun _ _ _ _ _ => (pg_name (i := 1) nd rfl (Or.inl rfl))) (fun _ _ _ _ _ => (pi_range2 rfl T.n_range (pa_cons (pv 1) (pa_cons (pv 0) pa_nil)))) (fun _ _ _ _ _ => (pg_name (i := 2) nd rfl (Or.inl rfl))) (fun _ _ _ _ _ => (pi_range2 rfl T.n_range (pa_cons (pv 2) (pa_cons (pv 0) pa_nil)))) (fun _ _ _ _ _ => (pg_name (i := 3) nd rfl (Or.inl rfl))) (fun _ _ _ _ _ => (pe_tup (pa_cons (pv 1) (pa_cons (pv 2) (pa_cons (pv 3) pa_nil)))))))), ?_⟩
    walk_at "op"
    walk_at "st"
    refine fun D0 hD0 => ?_
    have pne : ∀ {S : Addr} {G : Hp}, Same H G → G S = none → S ≠ p := fun {S G} e z q => by
      rw [q] at z
      have := e p u hp
      rw [z] at this
      cases this
    refine cN walk_range (fun i G => Same H G ∧ ∃ ws, G D0 = some (.lst ws) ∧ Dats G p ws ((thrN m i).map triD)) ⟨same_new hD0, [], upd_same, Dats.nil⟩ (fun _ _ _ _ => True.intro) ?_ ?_
    · rintro i x _ G hi ⟨sm, ws, hw, hW⟩ ⟨rfl, rfl⟩
      dsimp only
      rw [Int.zero_add]
      have hlA := thrN_len hm i
      walk_at "op"
      refine ⟨rfl, ?_⟩
      show iRng2 (tCons (tVar 1) (tCons (tVar 0) tNil)) _ _ _
      refine ⟨_, rfl, _, rfl, _, _, rfl, ⟨by omega, by omega, by omega, by omega⟩, ?_⟩
      rw [show ((m : Int) - (i : Nat)).toNat = m - i by omega]
      refine cI walk_range (fun j G => Same H G ∧ ∃ ws, G D0 = some (.lst ws) ∧ Dats G p ws ((thrN m i ++ rowB m i j).map triD)) ⟨sm, ws, hw, by rw [show rowB m i 0 = [] from rfl, List.append_nil]; exact hW⟩ (fun _ _ _ _ => True.intro) ?_ ?_
      · rintro j x _ G hj ⟨sm, ws, hw, hW⟩ ⟨rfl, rfl⟩
        have hlB := rowB_len hm i j
        walk_at "op"
        refine ⟨rfl, ?_⟩
        show iRng2 (tCons (tVar 2) (tCons (tVar 0) tNil)) _ _ _
        refine ⟨_, rfl, _, rfl, _, _, rfl, ⟨by omega, by omega, by omega, by omega⟩, ?_⟩
        rw [show ((m : Int) - ((i : Nat) + (j : Nat))).toNat = m - (i + j) by omega]
        refine cI walk_range (fun l G => Same H G ∧ ∃ ws, G D0 = some (.lst ws) ∧ Dats G p ws ((thrN m i ++ rowB m i j ++ rowC i (i + j) l).map triD)) ⟨sm, ws, hw, by rw [show rowC i (i + j) 0 = [] from rfl, List.append_nil]; exact hW⟩ (fun _ _ _ _ => True.intro) ?_ ?_
        · rintro l x _ G hl ⟨sm, ws, hw, hW⟩ ⟨rfl, rfl⟩
          refine ⟨rfl, ?_⟩
          refine ⟨_, rfl, _, rfl, _, rfl, ⟨by show 3 ≤ sizeLine; decide, fun t ht => ?_⟩⟩
          have nDt : D0 ≠ t := ne_of_none hw ht
          have htH := sameFree sm ht
          have hw2 := (same_new (o := .tup [.int (i : Nat), .int ((i : Nat) + (j : Nat)), .int ((i : Nat) + (j : Nat) + (l : Nat))]) ht) _ _ hw
          refine ⟨ws, hw2, small1000 ?_, sameOff (sm.trans (same_new ht)) hD0, ws ++ [.ref t], upd_same, ?_⟩
          · rw [hW.1, List.length_map, List.length_append, List.length_append, rowC_len]
            omega
          · rw [rowC_succ, ← List.append_assoc, List.map_append]
            refine ((hW.off ht).setL hw2 (tris_no _)).snoc (Dat.setL hw2 (Dat.new ht (pne sm ht) ?_) (triD_no _))
            have q := Dats.ints (H := G) (p := p) [(i : Int), ((i + j : Nat) : Int), ((i + j + l : Nat) : Int)]
            simpa using q
        · rintro G ⟨sm, ws, hw, hW⟩
          rw [List.append_assoc, ← rowB_succ] at hW
          exact ⟨sm, ws, hw, hW⟩
      · rintro G ⟨sm, ws, hw, hW⟩
        rw [← thrN_succ] at hW
        exact ⟨sm, ws, hw, hW⟩
    · rintro G ⟨sm, ws, hw, hW⟩
      exact k D0 ws G hD0 hw hW sm
theorem pne_of {H : Hp} {p : Addr} {u : HO} (hp : H p = some u) {S : Addr} {G : Hp} (e : Same H G) (q : G S = none) : S ≠ p := fun z => by
  rw [z, e p u hp] at q
  cases q
theorem tri_parts {H : Hp} {p : Addr} {v : V} {x : Nat × Nat × Nat} (h : Dat H p v (triD x)) : ∃ a, v = .ref a ∧ H a = some (.tup [.int (x.1 : Nat), .int (x.2.1 : Nat), .int (x.2.2 : Nat)]) ∧ a ≠ p := by
  obtain ⟨a, ys, rfl, ha, np, hs⟩ := h.isTup
  have e : ys = [.int (x.1 : Nat), .int (x.2.1 : Nat), .int (x.2.2 : Nat)] := dats_ints (ns := [((x.1 : Nat) : Int), ((x.2.1 : Nat) : Int), ((x.2.2 : Nat) : Int)]) hs
  rw [e] at ha
  exact ⟨a, rfl, ha, np⟩
def ords (x : Nat × Nat × Nat) : List (Nat × Nat × Nat) := [(x.1, x.2.1, x.2.2), (x.1, x.2.2, x.2.1), (x.2.1, x.2.2, x.1)]
def spOrders : Sp := fun vs H Q _ => ∃ (tv : V) (p : Addr) (u : HO) (x : Nat × Nat × Nat), vs = [tv] ∧ H p = some u ∧ Dat H p tv (triD x) ∧ ∀ v H', Dat H' p v (.tuple ((ords x).map triD)) → Same H H' → Q v H'
theorem ok_orders (D : Df K mg "orders" s_orders ["three"]) (T : Nms mg) : CallOk P w K mg base CX0 1 "orders" ["three"] spOrders := by
  refine df_ok D sc_orders (fun vs H Q E h => ?_) (fun f cdv A outer s H vs Q E hr h => ?_)
  · obtain ⟨tv, p, u, x, rfl, _⟩ := h
    rfl
  · obtain ⟨tv, p, u, x, rfl, hp, hd, k⟩ := h
    have nd := sc_orders.nd
    obtain ⟨ta, rfl, hta, _⟩ := tri_parts hd
    refine ⟨_, (pss_cons (ps_asg (pv 0) (pg_tup rfl (pgs_cons (pg_name (i := 1) nd rfl (Or.inl rfl)) (pgs_cons (pg_name (i := 2) nd rfl (Or.inl rfl)) (pgs_cons (pg_name (i := 3) nd rfl (Or.inl rfl)) pgs_nil)))))
      (pss_one (ps_ret (pe_tup (pa_cons (pe_tup (pa_cons (pv 1) (pa_cons (pv 2) (pa_cons (pv 3) pa_nil)))) (pa_cons (pe_tup (pa_cons (pv 1) (pa_cons (pv 3) (pa_cons (pv 2) pa_nil)))) (pa_cons (pe_tup (pa_cons (pv 2) (pa_cons (pv 3) (pa_cons (pv 1) pa_nil)))) pa_nil))))))), ?_⟩
    walk_at "op"
    walk_at "st"
    refine ⟨ta, _, rfl, SqT.of hta, rfl, _, _, rfl, _, _, rfl, _, _, rfl, rfl, ?_⟩
    walk_at "op"
    walk_at "st"
    refine ⟨by show 3 ≤ sizeLine; decide, fun t1 h1 => ?_⟩
    have s1 := same_new (o := .tup [.int (x.1 : Nat), .int (x.2.1 : Nat), .int (x.2.2 : Nat)]) h1
    have d1 : Dat (upd H t1 (.tup [.int (x.1 : Nat), .int (x.2.1 : Nat), .int (x.2.2 : Nat)])) p (.ref t1) (triD (x.1, x.2.1, x.2.2)) := Dat.new h1 (pne_of hp (fun _ _ z => z) h1) (Dats.ints [(x.1 : Int), (x.2.1 : Int), (x.2.2 : Int)])
    generalize upd H t1 (.tup [.int (x.1 : Nat), .int (x.2.1 : Nat), .int (x.2.2 : Nat)]) = G1 at s1 d1 ⊢
    refine ⟨_, rfl, _, rfl, _, rfl, by show 3 ≤ sizeLine; decide, fun t2 h2 => ?_⟩
    have s2 := same_new (o := .tup [.int (x.1 : Nat), .int (x.2.2 : Nat), .int (x.2.1 : Nat)]) h2
    have d2 : Dat (upd G1 t2 (.tup [.int (x.1 : Nat), .int (x.2.2 : Nat), .int (x.2.1 : Nat)])) p (.ref t2) (triD (x.1, x.2.2, x.2.1)) := Dat.new h2 (pne_of hp s1 h2) (Dats.ints [(x.1 : Int), (x.2.2 : Int), (x.2.1 : Int)])
    generalize upd G1 t2 (.tup [.int (x.1 : Nat), .int (x.2.2 : Nat), .int (x.2.1 : Nat)]) = G2 at s2 d2 ⊢
    have s02 := s1.trans s2
    refine ⟨_, rfl, _, rfl, _, rfl, by show 3 ≤ sizeLine; decide, fun t3 h3 => ?_⟩
    have s3 := same_new (o := .tup [.int (x.2.1 : Nat), .int (x.2.2 : Nat), .int (x.1 : Nat)]) h3
    have d3 : Dat (upd G2 t3 (.tup [.int (x.2.1 : Nat), .int (x.2.2 : Nat), .int (x.1 : Nat)])) p (.ref t3) (triD (x.2.1, x.2.2, x.1)) := Dat.new h3 (pne_of hp s02 h3) (Dats.ints [(x.2.1 : Int), (x.2.2 : Int), (x.1 : Int)])
    generalize upd G2 t3 (.tup [.int (x.2.1 : Nat), .int (x.2.2 : Nat), .int (x.1 : Nat)]) = G3 at s3 d3 ⊢
    have s03 := s02.trans s3
    refine ⟨by show 3 ≤ sizeLine; decide, fun t4 h4 => k _ _ ?_ (s03.trans (same_new h4))⟩
    exact Dat.new h4 (pne_of hp s03 h4) (.cons ((d1.same s2).same s3) (.cons (d2.same s3) (.cons d3 .nil)))
end
end Fm
end FTH
section FFmConf
/-! People on floors, told by how many there are of each number: three who come to one end in any order are enough. Pure arithmetic, nothing of the model. -/
set_option linter.all false
namespace FmC
/-- how many people of each number on each floor -/
abbrev St := Nat → Nat → Nat
def plus (c d : St) : St := fun f a => c f a + d f a
/-- one person -/
def one (f a : Nat) : St := fun g b => if g = f ∧ b = a then 1 else 0
instance : Add St := ⟨plus⟩
theorem add_at (c d : St) (f a : Nat) : (c + d) f a = c f a + d f a := rfl
theorem add_ac (c d e : St) : c + d + e = c + (d + e) := by funext f a; simp only [add_at]; omega
theorem add_cm (c d : St) : c + d = d + c := by funext f a; simp only [add_at]; omega
theorem add_rc (c d e : St) : c + d + e = c + e + d := by funext f a; simp only [add_at]; omega
theorem one_self (f a : Nat) : one f a f a = 1 := by simp [one]
theorem one_ne {f a g b : Nat} (h : ¬ (g = f ∧ b = a)) : one f a g b = 0 := by simp [one, h]
/-- a person is here, or the other states agree -/
theorem swap {c d : St} {f a g b : Nat} (h : c + one f a = d + one g b) : (f = g ∧ a = b ∧ c = d) ∨ ∃ e : St, c = e + one g b ∧ d = e + one f a := by
  by_cases e : f = g ∧ a = b
  · refine .inl ⟨e.1, e.2, ?_⟩
    obtain ⟨rfl, rfl⟩ := e
    funext x y
    have := congrFun (congrFun h x) y
    simp only [add_at] at this
    omega
  · refine .inr ⟨fun x y => c x y - one g b x y, ?_, ?_⟩
    · funext x y
      have h1 := congrFun (congrFun h x) y
      simp only [add_at] at h1 ⊢
      by_cases k : x = g ∧ y = b
      · obtain ⟨rfl, rfl⟩ := k
        have : one f a x y = 0 := one_ne fun q => e ⟨q.1.symm, q.2.symm⟩
        have := one_self x y
        omega
      · have := one_ne (f := g) (a := b) k
        omega
    · funext x y
      have h1 := congrFun (congrFun h x) y
      simp only [add_at] at h1 ⊢
      by_cases k : x = g ∧ y = b
      · obtain ⟨rfl, rfl⟩ := k
        have : one f a x y = 0 := one_ne fun q => e ⟨q.1.symm, q.2.symm⟩
        have := one_self x y
        omega
      · have := one_ne (f := g) (a := b) k
        omega
section
-- n floors of m numbers; who stays, who goes up
variable (n m : Nat) (S U : Nat → Nat → Nat → Nat)
/-- the tables are alike both ways about and within the numbers -/
structure Tables : Prop where
  sc : ∀ f a b, f < n → a < m → b < m → S f a b = S f b a
  uc : ∀ f a b, f < n → a < m → b < m → U f a b = U f b a
  sm : ∀ f a b, f < n → a < m → b < m → S f a b < m
  um : ∀ f a b, f < n → a < m → b < m → U f a b < m
/-- one meeting -/
def Step (c d : St) : Prop := ∃ (e : St) (f a b : Nat), f < n ∧ a < m ∧ b < m ∧ c = e + one f a + one f b ∧ d = e + one f (S f a b) + one (f + 1) (U f a b)
inductive Run : St → St → Prop
  | nil (c : St) : Run c c
  | cons {c d e : St} : Step n m S U c d → Run d e → Run c e
variable {n m S U}
theorem Run.one {c d : St} (h : Step n m S U c d) : Run n m S U c d := .cons h (.nil d)
theorem Run.trans {c d e : St} (h : Run n m S U c d) (k : Run n m S U d e) : Run n m S U c e := by
  induction h with
  | nil => exact k
  | cons s _ ih => exact .cons s (ih k)
/-- others beside don't matter -/
theorem Step.beside {c d : St} (h : Step n m S U c d) (x : St) : Step n m S U (x + c) (x + d) := by
  obtain ⟨e, f, a, b, hf, ha, hb, rfl, rfl⟩ := h
  exact ⟨x + e, f, a, b, hf, ha, hb, by simp only [add_ac], by simp only [add_ac]⟩
theorem Run.beside {c d : St} (h : Run n m S U c d) (x : St) : Run n m S U (x + c) (x + d) := by
  induction h with
  | nil => exact .nil _
  | cons s _ ih => exact .cons (s.beside x) ih
variable (n m S U)
/-- three on one floor, alone: whoever meets first, they can come to one state -/
def Three : Prop := ∀ f x y z, f < n → x < m → y < m → z < m → ∃ E, Run n m S U (one f (S f x y) + one (f + 1) (U f x y) + one f z) E ∧ Run n m S U (one f (S f x z) + one (f + 1) (U f x z) + one f y) E
variable {n m S U}
theorem join_three (T : Three n m S U) {e : St} {f x y z : Nat} (hf : f < n) (hx : x < m) (hy : y < m) (hz : z < m) : ∃ E, Run n m S U (e + one f z + one f (S f x y) + one (f + 1) (U f x y)) E ∧ Run n m S U (e + one f y + one f (S f x z) + one (f + 1) (U f x z)) E := by
  obtain ⟨E, h1, h2⟩ := T f x y z hf hx hy hz
  refine ⟨e + E, ?_, ?_⟩
  · have := h1.beside e
    rw [show e + (one f (S f x y) + one (f + 1) (U f x y) + one f z) = e + one f z + one f (S f x y) + one (f + 1) (U f x y) from by funext p q; simp only [add_at]; omega] at this
    exact this
  · have := h2.beside e
    rw [show e + (one f (S f x z) + one (f + 1) (U f x z) + one f y) = e + one f y + one f (S f x z) + one (f + 1) (U f x z) from by funext p q; simp only [add_at]; omega] at this
    exact this
/-- two meetings of four people come to one state -/
theorem join_four {e : St} {f a b g x y : Nat} (hf : f < n) (ha : a < m) (hb : b < m) (hg : g < n) (hx : x < m) (hy : y < m) :
    ∃ E, Run n m S U (e + one g x + one g y + one f (S f a b) + one (f + 1) (U f a b)) E ∧ Run n m S U (e + one f a + one f b + one g (S g x y) + one (g + 1) (U g x y)) E := by
  refine ⟨e + one f (S f a b) + one (f + 1) (U f a b) + one g (S g x y) + one (g + 1) (U g x y), .one ⟨e + one f (S f a b) + one (f + 1) (U f a b), g, x, y, hg, hx, hy, ?_, rfl⟩, .one ⟨e + one g (S g x y) + one (g + 1) (U g x y), f, a, b, hf, ha, hb, ?_, ?_⟩⟩
  · funext p q; simp only [add_at]; omega
  · funext p q; simp only [add_at]; omega
  · funext p q; simp only [add_at]; omega
/-- any two meetings come to one state -/
theorem local_join (B : Tables n m S U) (T : Three n m S U) {c d1 d2 : St} (h1 : Step n m S U c d1) (h2 : Step n m S U c d2) : ∃ E, Run n m S U d1 E ∧ Run n m S U d2 E := by
  obtain ⟨e, f, a, b, hf, ha, hb, hc, rfl⟩ := h1
  obtain ⟨e', g, x, y, hg, hx, hy, hc', rfl⟩ := h2
  rw [hc] at hc'
  rcases swap hc' with ⟨rfl, rfl, h⟩ | ⟨k, h, h'⟩
  · -- b = y
    rcases swap h with ⟨_, rfl, rfl⟩ | ⟨k, rfl, rfl⟩
    · exact ⟨_, .nil _, .nil _⟩
    · -- people a, x, b: meetings (a, b) and (x, b)
      obtain ⟨E, r1, r2⟩ := join_three T (e := k) hf hb ha hx
      rw [B.sc f b a hf hb ha, B.uc f b a hf hb ha] at r1
      rw [B.sc f b x hf hb hx, B.uc f b x hf hb hx] at r2
      exact ⟨E, r1, r2⟩
  · -- e + one f a = k + one g y, e' + one g x = k + one f b
    rcases swap h with ⟨rfl, rfl, rfl⟩ | ⟨l, rfl, rfl⟩
    · -- a = y
      rcases swap h' with ⟨_, rfl, rfl⟩ | ⟨l, rfl, rfl⟩
      · refine ⟨_, .nil _, ?_⟩
        rw [B.sc f x a hf hx ha, B.uc f x a hf hx ha]
        exact .nil _
      · -- people a, b, x: meetings (a, b) and (x, a)
        obtain ⟨E, r1, r2⟩ := join_three T (e := l) hf ha hb hx
        rw [B.sc f a x hf ha hx, B.uc f a x hf ha hx] at r2
        exact ⟨E, r1, r2⟩
    · -- e = l + one g y, k = l + one f a
      rcases swap h' with ⟨rfl, rfl, rfl⟩ | ⟨q, rfl, h3⟩
      · -- x = b: people a, b, y: meetings (a, b) and (b, y)
        obtain ⟨E, r1, r2⟩ := join_three T (e := l) hf hb ha hy
        rw [B.sc _ x a hf hb ha, B.uc _ x a hf hb ha] at r1
        exact ⟨E, r1, r2⟩
      · rcases swap h3 with ⟨rfl, rfl, rfl⟩ | ⟨r, rfl, rfl⟩
        · -- x = a: people a, b, y: meetings (a, b) and (a, y)
          exact join_three T (e := l) hf ha hb hy
        · exact join_four hf ha hb hg hx hy
/-! ### how many meetings are left -/
def sumTo : Nat → (Nat → Nat) → Nat
  | 0, _ => 0
  | k + 1, g => sumTo k g + g k
theorem sumTo_add (k : Nat) (g h : Nat → Nat) : sumTo k (fun i => g i + h i) = sumTo k g + sumTo k h := by
  induction k with
  | zero => rfl
  | succ k ih => simp only [sumTo, ih]; omega
theorem sumTo_at {k i : Nat} (hi : i < k) (v : Nat) : sumTo k (fun j => if j = i then v else 0) = v := by
  induction k with
  | zero => omega
  | succ k ih =>
    by_cases h : i = k
    · subst h
      have z : ∀ j, j ≤ i → sumTo j (fun j => if j = i then v else 0) = 0 := fun j => by
        induction j with
        | zero => intro _; rfl
        | succ j ih => intro hj; simp only [sumTo]; rw [ih (by omega), if_neg (by omega)]
      simp only [sumTo, if_pos]
      rw [z i (Nat.le_refl _)]
      omega
    · simp only [sumTo]
      rw [ih (by omega), if_neg (Ne.symm h)]
      omega
theorem sumTo_out {k i : Nat} (hi : k ≤ i) (v : Nat) : sumTo k (fun j => if j = i then v else 0) = 0 := by
  induction k with
  | zero => rfl
  | succ k ih => simp only [sumTo]; rw [ih (by omega), if_neg (by omega)]
theorem sumTo_zero (k : Nat) : sumTo k (fun _ => 0) = 0 := by
  induction k with
  | zero => rfl
  | succ k ih => simp only [sumTo, ih]
variable (n m)
def tall (c : St) : Nat := sumTo n fun f => (n - f) * sumTo m (c f)
variable {n m}
theorem tall_add (c d : St) : tall n m (c + d) = tall n m c + tall n m d := by
  unfold tall
  rw [← sumTo_add]
  congr 1
  funext f
  rw [← Nat.mul_add, ← sumTo_add]
  rfl
theorem tall_one {f a : Nat} (hf : f < n) (ha : a < m) : tall n m (one f a) = n - f := by
  unfold tall
  have : (fun g => (n - g) * sumTo m (one f a g)) = fun g => if g = f then n - f else 0 := by
    funext g
    by_cases h : g = f
    · subst h
      rw [if_pos rfl, show one g a g = fun b => if b = a then 1 else 0 from by funext b; simp [one], sumTo_at ha, Nat.mul_one]
    · rw [if_neg h, show one f a g = fun b => if b = 0 then 0 else 0 from by funext b; simp [one, h]]
      simp only [ite_self]
      rw [sumTo_zero, Nat.mul_zero]
  rw [this, sumTo_at hf]
theorem tall_up {f a : Nat} (hf : f ≤ n) (ha : a < m) : tall n m (one f a) = n - f := by
  by_cases h : f < n
  · exact tall_one h ha
  · have e : f = n := by omega
    subst e
    unfold tall
    have : (fun g => (f - g) * sumTo m (one f a g)) = fun g => if g = f then 0 else (fun g => (f - g) * sumTo m (one f a g)) g := by
      funext g
      by_cases h : g = f
      · rw [if_pos h, h, Nat.sub_self, Nat.zero_mul]
      · rw [if_neg h]
    have z : ∀ k, k ≤ f → sumTo k (fun g => (f - g) * sumTo m (one f a g)) = 0 := fun k => by
      induction k with
      | zero => intro _; rfl
      | succ k ih =>
        intro hk
        simp only [sumTo]
        rw [ih (by omega)]
        have : one f a k = fun _ => 0 := by funext b; exact one_ne (by omega)
        rw [this]
        rw [sumTo_zero, Nat.mul_zero]
    rw [z f (Nat.le_refl _), Nat.sub_self]
/-- each meeting makes it one less -/
theorem step_tall (B : Tables n m S U) {c d : St} (h : Step n m S U c d) : tall n m c = tall n m d + 1 := by
  obtain ⟨e, f, a, b, hf, ha, hb, rfl, rfl⟩ := h
  rw [tall_add, tall_add, tall_add, tall_add, tall_one hf ha, tall_one hf hb, tall_one hf (B.sm f a b hf ha hb), tall_up (by omega : f + 1 ≤ n) (B.um f a b hf ha hb)]
  omega
/-- all that can come of a state comes to one -/
theorem join (B : Tables n m S U) (T : Three n m S U) : ∀ (k : Nat) {c d1 d2 : St}, tall n m c ≤ k → Run n m S U c d1 → Run n m S U c d2 → ∃ E, Run n m S U d1 E ∧ Run n m S U d2 E := by
  intro k
  induction k with
  | zero =>
    intro c d1 d2 hk h1 h2
    cases h1 with
    | nil => exact ⟨_, h2, .nil _⟩
    | cons s r =>
      have := step_tall B s
      omega
  | succ k ih =>
    intro c d1 d2 hk h1 h2
    cases h1 with
    | nil => exact ⟨_, h2, .nil _⟩
    | cons s1 r1 =>
      cases h2 with
      | nil => exact ⟨_, .nil _, .cons s1 r1⟩
      | cons s2 r2 =>
        have t1 := step_tall B s1
        have t2 := step_tall B s2
        obtain ⟨F, j1, j2⟩ := local_join B T s1 s2
        obtain ⟨G, g1, g2⟩ := ih (by omega) r1 j1
        obtain ⟨H, e1, e2⟩ := ih (by omega) (j2.trans g2) r2
        exact ⟨H, g1.trans e1, e2⟩
/-- nobody can meet -/
def Still (n m : Nat) (S U : Nat → Nat → Nat → Nat) (c : St) : Prop := ∀ d, ¬ Step n m S U c d
/-- one end, whatever is met -/
theorem one_end (B : Tables n m S U) (T : Three n m S U) {c d1 d2 : St} (h1 : Run n m S U c d1) (h2 : Run n m S U c d2) (s1 : Still n m S U d1) (s2 : Still n m S U d2) : d1 = d2 := by
  obtain ⟨E, r1, r2⟩ := join B T _ (Nat.le_refl _) h1 h2
  cases r1 with
  | cons s _ => exact absurd s (s1 _)
  | nil =>
    cases r2 with
    | cons s _ => exact absurd s (s2 _)
    | nil => rfl
/-- what a run leads to leads to the end of the whole -/
theorem end_of_run (B : Tables n m S U) (T : Three n m S U) {c d e : St} (h : Run n m S U c d) (k : Run n m S U c e) (s : Still n m S U e) : Run n m S U d e := by
  obtain ⟨E, r1, r2⟩ := join B T _ (Nat.le_refl _) h k
  cases r2 with
  | cons t _ => exact absurd t (s _)
  | nil => exact r1
end
end FmC
end FFmConf
section FFmTri
/-! Of houses: what three alone come to, and floors by kinds. Pure arithmetic, nothing of the model. -/
set_option linter.all false
namespace FmC
section
variable {n m : Nat} {S U : Nat → Nat → Nat → Nat}
/-- who goes up: from the last floor everybody is told as 0 -/
def outU (n : Nat) (U : Nat → Nat → Nat → Nat) : Nat → Nat → Nat → Nat := fun f a b => if f + 1 < n then U f a b else 0
/-- what the program's look at threes tells: in all orders the same stays, and those who go up come to the same -/
def Tri (n m : Nat) (S U : Nat → Nat → Nat → Nat) : Prop := ∀ f x y z, f < n → x < m → y < m → z < m → S f (S f x y) z = S f (S f x z) y ∧
  (f + 1 < n → S (f + 1) (U f x y) (U f (S f x y) z) = S (f + 1) (U f x z) (U f (S f x z) y)) ∧
  (f + 2 < n → U (f + 1) (U f x y) (U f (S f x y) z) = U (f + 1) (U f x z) (U f (S f x z) y))
/-- the tables within -/
structure Tabs (n m : Nat) (S U : Nat → Nat → Nat → Nat) : Prop where
  pos : 1 ≤ m
  sc : ∀ f a b, f < n → a < m → b < m → S f a b = S f b a
  uc : ∀ f a b, f < n → a < m → b < m → U f a b = U f b a
  sm : ∀ f a b, f < n → a < m → b < m → S f a b < m
  um : ∀ f a b, f < n → a < m → b < m → U f a b < m
theorem Tabs.tables (B : Tabs n m S U) : Tables n m S (outU n U) := by
  refine ⟨B.sc, fun f a b hf ha hb => ?_, B.sm, fun f a b hf ha hb => ?_⟩
  · unfold outU
    rw [B.uc f a b hf ha hb]
  · unfold outU
    have := B.um f a b hf ha hb
    have := B.pos
    split <;> omega
theorem three_of (B : Tabs n m S U) (T : Tri n m S U) : Three n m S (outU n U) := by
  intro f x y z hf hx hy hz
  obtain ⟨t1, t2, t3⟩ := T f x y z hf hx hy hz
  have sxy := B.sm f x y hf hx hy
  have sxz := B.sm f x z hf hx hz
  -- two meetings on the floor
  have two : ∀ p q, p < m → q < m → Run n m S (outU n U) (one f (S f x p) + one (f + 1) (outU n U f x p) + one f q) (one f (S f (S f x p) q) + one (f + 1) (outU n U f x p) + one (f + 1) (outU n U f (S f x p) q)) := fun p q hp hq => by
    refine .one ⟨one (f + 1) (outU n U f x p), f, S f x p, q, hf, B.sm f x p hf hx hp, hq, ?_, ?_⟩
    · funext i j; simp only [add_at]; omega
    · funext i j; simp only [add_at]; omega
  by_cases h1 : f + 1 < n
  · -- and one above
    have u1 : ∀ a b, outU n U f a b = U f a b := fun a b => if_pos h1
    have more : ∀ r u v, u < m → v < m → Run n m S (outU n U) (r + one (f + 1) u + one (f + 1) v) (r + one (f + 1) (S (f + 1) u v) + one (f + 2) (outU n U (f + 1) u v)) := fun r u v hu hv => .one ⟨r, f + 1, u, v, h1, hu, hv, rfl, rfl⟩
    have r1 := (two y z hy hz).trans (more _ _ _ (by rw [u1]; exact B.um f x y hf hx hy) (by rw [u1]; exact B.um f _ z hf sxy hz))
    have r2 := (two z y hz hy).trans (more _ _ _ (by rw [u1]; exact B.um f x z hf hx hz) (by rw [u1]; exact B.um f _ y hf sxz hy))
    refine ⟨_, r1, ?_⟩
    have e : outU n U (f + 1) (U f x y) (U f (S f x y) z) = outU n U (f + 1) (U f x z) (U f (S f x z) y) := by
      unfold outU
      by_cases h2 : f + 2 < n
      · rw [if_pos h2, if_pos h2, t3 h2]
      · rw [if_neg h2, if_neg h2]
    simp only [u1] at r2 ⊢
    rw [t1, t2 h1, e]
    exact r2
  · have u0 : ∀ a b, outU n U f a b = 0 := fun a b => if_neg h1
    refine ⟨_, two y z hy hz, ?_⟩
    have r2 := two z y hz hy
    rw [← t1] at r2
    simp only [u0] at r2 ⊢
    exact r2
/-! ### floors by kinds -/
/-- those who go up are the same in all orders -/
def Even (m : Nat) (s u : Nat → Nat → Nat) : Prop := ∀ x y z, x < m → y < m → z < m → (u x y = u x z ∧ u (s x y) z = u (s x z) y) ∨ (u x y = u (s x z) y ∧ u (s x y) z = u x z)
def Forgets (m : Nat) (s u : Nat → Nat → Nat) : Prop := ∀ x y z w, x < m → y < m → z < m → w < m → s x y = s z w ∧ u x y = u z w
theorem tri_of (B : Tabs n m S U) (hs : ∀ f x y z, f < n → x < m → y < m → z < m → S f (S f x y) z = S f (S f x z) y) (hk : ∀ f, f + 1 < n → Even m (S f) (U f) ∨ Forgets m (S (f + 1)) (U (f + 1))) : Tri n m S U := by
  intro f x y z hf hx hy hz
  have sxy := B.sm f x y hf hx hy
  have sxz := B.sm f x z hf hx hz
  have b1 := B.um f x y hf hx hy
  have b2 := B.um f x z hf hx hz
  have b3 := B.um f _ z hf sxy hz
  have b4 := B.um f _ y hf sxz hy
  refine ⟨hs f x y z hf hx hy hz, fun h1 => ?_, fun h2 => ?_⟩
  · rcases hk f h1 with E | F
    · rcases E x y z hx hy hz with ⟨e1, e2⟩ | ⟨e1, e2⟩
      · rw [e1, e2]
      · rw [e1, e2]
        exact B.sc _ _ _ h1 b4 b2
    · exact (F _ _ _ _ b1 b3 b2 b4).1
  · have h1 : f + 1 < n := by omega
    rcases hk f h1 with E | F
    · rcases E x y z hx hy hz with ⟨e1, e2⟩ | ⟨e1, e2⟩
      · rw [e1, e2]
      · rw [e1, e2]
        exact B.uc _ _ _ h1 b4 b2
    · exact (F _ _ _ _ b1 b3 b2 b4).2
end
/-! ### the words of the law's houses -/
def word (kind a b m : Nat) : Nat := match kind with
  | 0 => max a b
  | 1 => (a + b) % m
  | 2 => 0
  | 3 => min (a + b) (m - 1)
  | 4 => a * b % m
  | _ => if a = b then a else m - 1
def goesAt (way a b m : Nat) : Nat := match way with
  | 0 => min a b
  | 1 => (a + b) / m
  | _ => 0
theorem word_facts : ∀ m < 7, ∀ kind < 6, ∀ a < m, ∀ b < m, word kind a b m < m ∧ word kind a b m = word kind b a m ∧ ∀ c < m, word kind (word kind a b m) c m = word kind (word kind a c m) b m := by decide +kernel
def evenAt (way kind a b c m : Nat) : Prop := (goesAt way a b m = goesAt way a c m ∧ goesAt way (word kind a b m) c m = goesAt way (word kind a c m) b m) ∨ (goesAt way a b m = goesAt way (word kind a c m) b m ∧ goesAt way (word kind a b m) c m = goesAt way a c m)
instance (way kind a b c m : Nat) : Decidable (evenAt way kind a b c m) := by unfold evenAt; exact inferInstance
theorem even0 : ∀ m < 7, ∀ a < m, ∀ b < m, ∀ c < m, evenAt 0 0 a b c m := by decide +kernel
theorem even1 : ∀ m < 7, ∀ a < m, ∀ b < m, ∀ c < m, evenAt 1 1 a b c m := by decide +kernel
theorem goes_facts {m way kind : Nat} (hm : m < 7) (hw : way < 3) (e : kind = way ∨ way = 2) {a b c : Nat} (ha : a < m) (hb : b < m) (hc : c < m) : evenAt way kind a b c m := by
  have : way = 0 ∨ way = 1 ∨ way = 2 := by omega
  rcases this with rfl | rfl | rfl
  · obtain rfl : kind = 0 := by omega
    exact even0 m hm a ha b hb c hc
  · obtain rfl : kind = 1 := by omega
    exact even1 m hm a ha b hb c hc
  · exact .inl ⟨rfl, rfl⟩
theorem goes_in {m way a b : Nat} (ha : a < m) (hb : b < m) : goesAt way a b m < m + 2 ∧ goesAt way a b m = goesAt way b a m := by
  unfold goesAt
  split
  · exact ⟨by omega, Nat.min_comm a b⟩
  · refine ⟨?_, by rw [Nat.add_comm]⟩
    have : (a + b) / m < 2 := Nat.div_lt_of_lt_mul (by omega)
    omega
  · exact ⟨by omega, rfl⟩
/-- numbers called otherwise, and back -/
structure Calls (m : Nat) (calls back : Nat → Nat) : Prop where
  cm : ∀ a, a < m → calls a < m
  bm : ∀ a, a < m → back a < m
  cb : ∀ a, a < m → calls (back a) = a
  bc : ∀ a, a < m → back (calls a) = a
def stayOf (kind m : Nat) (calls back : Nat → Nat) : Nat → Nat → Nat := fun a b => calls (word kind (back a) (back b) m)
def upOf (way m : Nat) (back goes : Nat → Nat) : Nat → Nat → Nat := fun a b => goes (goesAt way (back a) (back b) m)
theorem stay_facts {m kind : Nat} {calls back : Nat → Nat} (hm : m < 7) (hk : kind < 6) (C : Calls m calls back) {a b : Nat} (ha : a < m) (hb : b < m) :
    stayOf kind m calls back a b < m ∧ stayOf kind m calls back a b = stayOf kind m calls back b a ∧ ∀ c < m, stayOf kind m calls back (stayOf kind m calls back a b) c = stayOf kind m calls back (stayOf kind m calls back a c) b := by
  obtain ⟨h1, h2, h3⟩ := word_facts m hm kind hk _ (C.bm a ha) _ (C.bm b hb)
  refine ⟨C.cm _ h1, by unfold stayOf; rw [h2], fun c hc => ?_⟩
  have h4 := (word_facts m hm kind hk _ (C.bm a ha) _ (C.bm c hc)).1
  unfold stayOf
  rw [C.bc _ h1, C.bc _ h4, h3 _ (C.bm c hc)]
theorem up_even {m way kind : Nat} {calls back goes : Nat → Nat} (hm : m < 7) (hw : way < 3) (hk : kind < 6) (e : kind = way ∨ way = 2) (C : Calls m calls back) : Even m (stayOf kind m calls back) (upOf way m back goes) := by
  intro x y z hx hy hz
  have h1 := (word_facts m hm kind hk _ (C.bm x hx) _ (C.bm y hy)).1
  have h2 := (word_facts m hm kind hk _ (C.bm x hx) _ (C.bm z hz)).1
  have h3 := goes_facts hm hw e (C.bm x hx) (C.bm y hy) (C.bm z hz)
  unfold upOf stayOf
  rw [C.bc _ h1, C.bc _ h2]
  rcases h3 with ⟨g1, g2⟩ | ⟨g1, g2⟩
  · exact .inl ⟨by rw [g1], by rw [g2]⟩
  · exact .inr ⟨by rw [g1], by rw [g2]⟩
theorem forgets_of {m : Nat} {calls back back' goes : Nat → Nat} : Forgets m (stayOf 2 m calls back) (upOf 2 m back' goes) := fun x y z w _ _ _ _ => ⟨rfl, rfl⟩
end FmC
end FFmTri
section FFmNever
set_option Elab.async false
set_option linter.all false
namespace Fm
open PySem PySem.Spec PyProof.Rows L2
/-- what is never come to -/
theorem ps_never {X : Cx} {st : Stmt} : PS X st (fun _ _ _ => False) := ⟨fun pins s σ H D I h => h.elim⟩
theorem pss_never {X : Cx} {sts : List Stmt} : PSs X sts (fun _ _ _ => False) := ⟨fun pins s σ H D I h => h.elim⟩
end Fm
end FFmNever
section FFA
set_option Elab.async false
set_option linter.all false
set_option maxRecDepth 100000
set_option maxHeartbeats 4000000
local macro_rules | `(tactic| walk_at "ne") => `(tactic| first | assumption | (apply Ne.symm; assumption) | exact L2.ne_of_none (by assumption) (by assumption) | exact Ne.symm (L2.ne_of_none (by assumption) (by assumption)))
local macro_rules | `(tactic| walk_at "hl") => `(tactic| first | assumption | exact L2.upd_same | (refine Eq.trans (L2.upd_ne (by walk_at "ne")) ?_; walk_at "hl"))
local macro_rules | `(tactic| walk_at "sd") => `(tactic| first | (with_reducible show (_ : Int) < _; omega) | (with_reducible show (_ : Int) ≤ _; omega) | assumption | decide | exact ⟨by assumption, by assumption⟩ | exact ⟨by decide, by decide⟩ | exact Or.inr ⟨by decide, by decide⟩ | exact Or.inl ⟨by omega, by omega⟩ | rfl)
local macro_rules | `(tactic| walk_at "st1") => `(tactic| first
  | refine ⟨_, rfl, ?_⟩
  | refine ⟨_, _, rfl, rfl, ?_⟩
  | refine ⟨_, _, rfl, ?_⟩
  | (refine ⟨_, _, _, _, rfl, rfl, L2.SqL.of (by walk_at "hl"), rfl, ?_⟩)
  | (refine ⟨_, _, _, _, rfl, rfl, L2.SqT.of (by walk_at "hl"), rfl, ?_⟩)
  | (refine ⟨_, _, _, _, rfl, rfl, (by walk_at "hl"), rfl, ?_⟩)
  | (refine And.intro (by walk_at "sd") ?_)
  )
local macro_rules | `(tactic| walk_at "st") => `(tactic| repeat walk_at "st1")
local macro_rules | `(tactic| walk_at "op") => `(tactic| try dsimp only [L2.tSeq, L2.tAsg, L2.tOp, L2.tVar, L2.tC, L2.gSub, L2.rI, L2.rI0, L2.rIxL, L2.rIxT, L2.rSetL, L2.tIfS, L2.tTest, L2.tRet, L2.gName, L2.tNext, L2.tAnd, L2.tOr, L2.tNot, L2.tAndV, L2.tOrV, L2.tNotV, L2.tB, L2.tCB, L2.tCons, L2.tNil, L2.tCall, L2.tTup, L2.tLst, L2.tChain, L2.tUn, L2.tPar, L2.tDrop, L2.tIf, L2.tBM, L2.tBM0, L2.rAppend, L2.rCat, L2.rIsi, L2.rIsiT, L2.gTup, L2.gCons, L2.gNil, Fm.tFor_eq, Fm.tLc_eq, Fm.tLc2_eq, L2.iTup, L2.iList, L2.iRng1, L2.iRng2, L2.tSl, L2.tPart, L2.tNoPart, L2.rSlL, L2.rEq, L2.rNe, L2.rU, L2.rEqD, L2.rNeD, Fm.tRevT, Fm.rLenS, Fm.rTupOf, Fm.rLstOf, L2.tDNewK, L2.tCallS, L2.WE, Fm.wKeep, Fm.rIsK, Fm.rIsKT, List.cons_append, List.nil_append, L2.tYes])
namespace Fm
open PySem PySem.Spec PyProof.Rows L2
abbrev s_left_of_three : Stmt := top 28
abbrev N_left_of_three : List Str := ["tables", "order", "stay", "up", "a", "b", "c", "between"]
theorem sc_left_of_three : FnScope N_left_of_three ["tables", "order"] (defScope s_left_of_three) := ⟨rfl, rfl, rfl, by decide +kernel, rfl, by decide +kernel, by decide +kernel⟩
abbrev s_end_of_three : Stmt := top 29
abbrev N_end_of_three : List Str := ["house", "floor", "order", "rest", "one", "other", "stay", "up"]
theorem sc_end_of_three : FnScope N_end_of_three ["house", "floor", "order"] (defScope s_end_of_three) := ⟨rfl, rfl, rfl, by decide +kernel, rfl, by decide +kernel, by decide +kernel⟩
abbrev s_is_parted : Stmt := top 27
abbrev N_is_parted : List Str := ["house", "floor", "three", "first", "second", "third", "end"]
theorem sc_is_parted : FnScope N_is_parted ["house", "floor", "three"] (defScope s_is_parted) := ⟨rfl, rfl, rfl, by decide +kernel, rfl, by decide +kernel, by decide +kernel⟩
abbrev s_least_parted : Stmt := top 24
abbrev N_least_parted : List Str := ["house", "every_three", "floor", "three"]
theorem sc_least_parted : FnScope N_least_parted ["house"] (defScope s_least_parted) := ⟨rfl, rfl, rfl, by decide +kernel, rfl, by decide +kernel, by decide +kernel⟩
abbrev s_paper : Stmt := top 22
abbrev N_paper : List Str := ["house", "parted", "floor", "three", "shown", "order", "run", "end", "unlike", "other", "its_end"]
theorem sc_paper : FnScope N_paper ["house"] (defScope s_paper) := ⟨rfl, rfl, rfl, by decide +kernel, rfl, by decide +kernel, by decide +kernel⟩
abbrev s_check_fair : Stmt := top 23
abbrev N_check_fair : List Str := ["house", "shown"]
theorem sc_check_fair : FnScope N_check_fair ["house"] (defScope s_check_fair) := ⟨rfl, rfl, rfl, by decide +kernel, rfl, by decide +kernel, by decide +kernel⟩
section
variable {P : Program} {w : World} {K : PySem.W.Frag} {mg : Str → Option Value} {base : Heap}
/-! ### the look at threes -/
theorem atI_of {xs : List V} {i : Int} {v : V} (h0 : 0 ≤ i) (h : xs[i.toNat]? = some v) : atI xs i = some v := by
  have e := atI_nat h
  rw [Int.toNat_of_nonneg h0] at e
  exact e
/-- a floor's two tables at af -/
structure FloorAt (H : Hp) (af : Addr) (m : Nat) (S U : Nat → Nat → Nat) (t0 t1 : Addr) : Prop where
  at_ : H af = some (.tup [.ref t0, .ref t1])
  s : ∀ a b, a < m → b < m → ∃ (ss : List V) (ra : Addr) (ya : List V), H t0 = some (.tup ss) ∧ ss[a]? = some (V.ref ra) ∧ H ra = some (.tup ya) ∧ ya[b]? = some (V.int (S a b : Nat)) ∧ S a b < m
  u : ∀ a b, a < m → b < m → ∃ (ss : List V) (ra : Addr) (ya : List V), H t1 = some (.tup ss) ∧ ss[a]? = some (V.ref ra) ∧ H ra = some (.tup ya) ∧ ya[b]? = some (V.int (U a b : Nat)) ∧ U a b < m
theorem FloorAt.same {H H' : Hp} {af t0 t1 : Addr} {m : Nat} {S U : Nat → Nat → Nat} (h : FloorAt H af m S U t0 t1) (e : Same H H') : FloorAt H' af m S U t0 t1 := by
  refine ⟨e _ _ h.at_, fun a b ha hb => ?_, fun a b ha hb => ?_⟩
  · obtain ⟨ss, ra, ya, h1, h2, h3, h4, h5⟩ := h.s a b ha hb
    exact ⟨ss, ra, ya, e _ _ h1, h2, e _ _ h3, h4, h5⟩
  · obtain ⟨ss, ra, ya, h1, h2, h3, h4, h5⟩ := h.u a b ha hb
    exact ⟨ss, ra, ya, e _ _ h1, h2, e _ _ h3, h4, h5⟩
theorem floor_at {H : Hp} {ph : Addr} {hv : V} {fs : List PyData} {m n f : Nat} (hD : Dat H ph hv (.tuple fs)) (hN : HouseN m n (.tuple fs)) (hf : f < n) :
    ∃ (ah af : Addr) (hs : List V) (t0 t1 : Addr), hv = .ref ah ∧ H ah = some (.tup hs) ∧ hs.length = n ∧ hs[f]? = some (V.ref af) ∧ FloorAt H af m (goN fs 0 f) (goN fs 1 f) t0 t1 := by
  obtain ⟨ah, af, hs, tb, rfl, h1, h2, h3, h4, h5⟩ := house_goes hD hN hf
  exact ⟨ah, af, hs, tb 0, tb 1, rfl, h1, h2, h3, h4, h5 0 (by decide), h5 1 (by decide)⟩
def spLeft : Sp := fun vs H Q _ => ∃ (af t0 t1 : Addr) (ov : V) (p : Addr) (m : Nat) (S U : Nat → Nat → Nat) (x : Nat × Nat × Nat), vs = [.ref af, ov] ∧ FloorAt H af m S U t0 t1 ∧ Dat H p ov (triD x) ∧ x.1 < m ∧ x.2.1 < m ∧ x.2.2 < m ∧
  ∀ q H', H q = none → H' q = some (.tup [.int (S (S x.1 x.2.1) x.2.2 : Nat), .int (U x.1 x.2.1 : Nat), .int (U (S x.1 x.2.1) x.2.2 : Nat)]) → Same H H' → Q (.ref q) H'
theorem ok_left_of_three (D : Df K mg "left_of_three" s_left_of_three ["tables", "order"]) (T : Nms mg) : CallOk P w K mg base CX0 1 "left_of_three" ["tables", "order"] spLeft := by
  refine df_ok D sc_left_of_three (fun vs H Q E h => ?_) (fun f cdv A outer s H vs Q E hr h => ?_)
  · obtain ⟨af, t0, t1, ov, p, m, S, U, x, rfl, _⟩ := h
    rfl
  · obtain ⟨af, t0, t1, ov, p, m, S, U, x, rfl, hF, hO, hx, hy, hz, k⟩ := h
    have nd := sc_left_of_three.nd
    obtain ⟨oa, rfl, hoa, _⟩ := tri_parts hO
    obtain ⟨s1, r1, y1, a1, a2, a3, a4, a5⟩ := hF.s _ _ hx hy
    obtain ⟨s2, r2, y2, b1, b2, b3, b4, b5⟩ := hF.s _ _ a5 hz
    obtain ⟨s3, r3, y3, c1, c2, c3, c4, c5⟩ := hF.u _ _ hx hy
    obtain ⟨s4, r4, y4, d1, d2, d3, d4, d5⟩ := hF.u _ _ a5 hz
    refine ⟨_, (pss_cons (ps_asg (pv 0) (pg_tup rfl (pgs_cons (pg_name (i := 2) nd rfl (Or.inl rfl)) (pgs_cons (pg_name (i := 3) nd rfl (Or.inl rfl)) pgs_nil))))
      (pss_cons (ps_asg (pv 1) (pg_tup rfl (pgs_cons (pg_name (i := 4) nd rfl (Or.inl rfl)) (pgs_cons (pg_name (i := 5) nd rfl (Or.inl rfl)) (pgs_cons (pg_name (i := 6) nd rfl (Or.inl rfl)) pgs_nil)))))
      (pss_cons (ps_set (i := 7) nd rfl (Or.inl rfl) (pe_ix (r := rIxT K) ix_tup (pe_ix (r := rIxT K) ix_tup (pv 2) (pv 4) (fun _ _ => rfl)) (pv 5) (fun _ _ => rfl)))
      (pss_one (ps_ret (pe_tup (pa_cons (pe_ix (r := rIxT K) ix_tup (pe_ix (r := rIxT K) ix_tup (pv 2) (pv 7) (fun _ _ => rfl)) (pv 6) (fun _ _ => rfl)) (pa_cons (pe_ix (r := rIxT K) ix_tup (pe_ix (r := rIxT K) ix_tup (pv 3) (pv 4) (fun _ _ => rfl)) (pv 5) (fun _ _ => rfl)) (pa_cons (pe_ix (r := rIxT K) ix_tup (pe_ix (r := rIxT K) ix_tup (pv 3) (pv 7) (fun _ _ => rfl)) (pv 6) (fun _ _ => rfl)) pa_nil))))))))), ?_⟩
    walk_at "op"
    walk_at "st"
    refine ⟨af, _, rfl, SqT.of hF.at_, rfl, _, _, rfl, _, _, rfl, rfl, ?_⟩
    refine ⟨_, rfl, oa, _, rfl, SqT.of hoa, rfl, _, _, rfl, _, _, rfl, _, _, rfl, rfl, ?_⟩
    walk_at "op"
    refine ⟨_, rfl, _, rfl, t0, s1, _, _, rfl, rfl, SqT.of a1, atI_nat a2, _, rfl, r1, y1, _, _, rfl, rfl, SqT.of a3, atI_nat a4, ?_⟩
    refine ⟨_, rfl, _, rfl, t0, s2, _, _, rfl, rfl, SqT.of b1, atI_nat b2, _, rfl, r2, y2, _, _, rfl, rfl, SqT.of b3, atI_nat b4, ?_⟩
    refine ⟨_, rfl, _, rfl, t1, s3, _, _, rfl, rfl, SqT.of c1, atI_nat c2, _, rfl, r3, y3, _, _, rfl, rfl, SqT.of c3, atI_nat c4, ?_⟩
    refine ⟨_, rfl, _, rfl, t1, s4, _, _, rfl, rfl, SqT.of d1, atI_nat d2, _, rfl, r4, y4, _, _, rfl, rfl, SqT.of d3, atI_nat d4, ?_⟩
    refine ⟨by show 3 ≤ sizeLine; decide, fun q hq => ?_⟩
    exact k q _ hq upd_same (same_new hq)
def endL (n : Nat) (S U : Nat → Nat → Nat → Nat) (f : Nat) (x : Nat × Nat × Nat) : List Int :=
  let r : Int := (S f (S f x.1 x.2.1) x.2.2 : Nat)
  let one := U f x.1 x.2.1
  let other := U f (S f x.1 x.2.1) x.2.2
  if f + 1 = n then [r] else if f + 2 = n then [r, (S (f + 1) one other : Nat)] else [r, (S (f + 1) one other : Nat), (U (f + 1) one other : Nat)]
def spEnd3 : Sp := fun vs H Q _ => ∃ (hv ov : V) (p ph : Addr) (u : HO) (fs : List PyData) (m n f : Nat) (x : Nat × Nat × Nat), vs = [hv, .int (f : Nat), ov] ∧ H p = some u ∧ Dat H ph hv (.tuple fs) ∧ HouseN m n (.tuple fs) ∧ f < n ∧ Dat H p ov (triD x) ∧ x.1 < m ∧ x.2.1 < m ∧ x.2.2 < m ∧
  ∀ v H', Dat H' p v (rowD (endL n (goN fs 0) (goN fs 1) f x)) → Same H H' → Q v H'
theorem ok_end_of_three (D : Df K mg "end_of_three" s_end_of_three ["house", "floor", "order"]) (T : Nms mg) (c_left_of_three : CallOk P w K mg base CX0 1 "left_of_three" ["tables", "order"] spLeft) : CallOk P w K mg base CX0 2 "end_of_three" ["house", "floor", "order"] spEnd3 := by
  refine df_ok D sc_end_of_three (fun vs H Q E h => ?_) (fun f cdv A outer s H vs Q E hr h => ?_)
  · obtain ⟨hv, ov, p, ph, u, fs, m, n, f, x, rfl, _⟩ := h
    rfl
  · obtain ⟨hv, ov, p, ph, u, fs, m, n, fl, x, rfl, hp, hD, hN, hf, hO, hx, hy, hz, k⟩ := h
    have nd := sc_end_of_three.nd
    obtain ⟨ah, af, hs, t0, t1, rfl, g1, g2, g3, hF⟩ := floor_at hD hN hf
    have hn4 : n ≤ 4 := by
      obtain ⟨_, _, _, _, z, _⟩ := hN
      exact z
    obtain ⟨_, _, _, _, _, _, _, b5⟩ := hF.s _ _ hx hy
    obtain ⟨_, _, _, _, _, _, _, u1⟩ := hF.u _ _ hx hy
    obtain ⟨_, _, _, _, _, _, _, u2⟩ := hF.u _ _ b5 hz
    refine ⟨_, (pss_cons (ps_asg (pe_cc c_left_of_three (hr.mono (by omega)) (pa_cons (pe_ix (r := rIxT K) ix_tup (pv 0) (pv 1) (fun _ _ => rfl)) (pa_cons (pv 2) pa_nil))) (pg_tup rfl (pgs_cons (pg_name (i := 3) nd rfl (Or.inl rfl)) (pgs_cons (pg_name (i := 4) nd rfl (Or.inl rfl)) (pgs_cons (pg_name (i := 5) nd rfl (Or.inl rfl)) pgs_nil)))))
      (pss_cons (ps_if (pt_cmpR op_eq (pe_op op_add (pv 1) pe_int) (pe_callB (r := rLenS K) call_lenS (by rfl) T.n_len (by decide +kernel) (pa_cons (pv 0) pa_nil)) (nomark _)) (pss_one (ps_ret (pe_tup (pa_cons (pv 3) pa_nil)))) pss_nil)
      (pss_cons (ps_asg (pe_ix (r := rIxT K) ix_tup (pv 0) (pe_op op_add (pv 1) pe_int) (fun _ _ => rfl)) (pg_tup rfl (pgs_cons (pg_name (i := 6) nd rfl (Or.inl rfl)) (pgs_cons (pg_name (i := 7) nd rfl (Or.inl rfl)) pgs_nil))))
      (pss_cons (ps_if (pt_cmpR op_eq (pe_op op_add (pv 1) pe_int) (pe_callB (r := rLenS K) call_lenS (by rfl) T.n_len (by decide +kernel) (pa_cons (pv 0) pa_nil)) (nomark _)) (pss_one (ps_ret (pe_tup (pa_cons (pv 3) (pa_cons (pe_ix (r := rIxT K) ix_tup (pe_ix (r := rIxT K) ix_tup (pv 6) (pv 4) (fun _ _ => rfl)) (pv 5) (fun _ _ => rfl)) pa_nil))))) pss_nil)
      (pss_one (ps_ret (pe_tup (pa_cons (pv 3) (pa_cons (pe_ix (r := rIxT K) ix_tup (pe_ix (r := rIxT K) ix_tup (pv 6) (pv 4) (fun _ _ => rfl)) (pv 5) (fun _ _ => rfl)) (pa_cons (pe_ix (r := rIxT K) ix_tup (pe_ix (r := rIxT K) ix_tup (pv 7) (pv 4) (fun _ _ => rfl)) (pv 5) (fun _ _ => rfl)) pa_nil)))))))))), ?_⟩
    walk_at "op"
    refine ⟨_, rfl, _, rfl, ah, hs, _, _, rfl, rfl, SqT.of g1, atI_nat g3, _, rfl, af, t0, t1, ov, p, m, _, _, x, rfl, hF, hO, hx, hy, hz, fun q G hq hq' sG => ?_⟩
    refine ⟨q, _, rfl, SqT.of hq', rfl, _, _, rfl, _, _, rfl, _, _, rfl, rfl, ?_⟩
    walk_at "op"
    have fit1 : ∀ {l : List Int} {q : Addr} {G2 : Hp}, Same G G2 → G q = none → G2 q = some (.tup (l.map V.int)) → Dat G2 p (.ref q) (rowD l) := fun {l q G2} s hq h2 => .tup h2 (pne_of hp sG hq) (by rw [List.length_map, List.length_map]) fun i x d a b => (Dats.ints (p := p) l).2 i x d a b
    have hlen : hs.length = n := g2
    refine ⟨_, rfl, _, 1, rfl, rfl, _, rfl, ah, hs, rfl, .inr (SqT.of (sG _ _ g1)), rfl, ?_⟩
    rw [hlen]
    by_cases h1 : fl + 1 = n
    · rw [show decide (V.int ((fl : Int) + 1) = V.int (n : Nat)) = true from decide_eq_true (by rw [← h1]; rfl)]
      refine ⟨_, rfl, iteT ?_⟩
      refine ⟨_, rfl, by show 1 ≤ sizeLine; decide, fun r hr => ?_⟩
      refine k _ _ ?_ (sG.trans (same_new hr))
      refine fit1 (same_new hr) hr ?_
      unfold endL
      rw [if_pos h1]
      exact upd_same
    · rw [show decide (V.int ((fl : Int) + 1) = V.int (n : Nat)) = false from decide_eq_false fun z => h1 (by injection z with z; omega)]
      refine ⟨_, rfl, iteF ?_⟩
      have hf1 : fl + 1 < n := by omega
      obtain ⟨ah', af', hs', t0', t1', e', g1', g2', g3', hF'⟩ := floor_at hD hN hf1
      cases e'
      rw [g1] at g1'
      cases g1'
      obtain ⟨s1, r1, y1, a1, a2, a3, a4, a5⟩ := (hF'.same sG).s _ _ u1 u2
      obtain ⟨s2, r2, y2, b1, b2, b3, b4, b5'⟩ := (hF'.same sG).u _ _ u1 u2
      refine ⟨_, rfl, _, rfl, _, 1, rfl, rfl, ah, hs, _, _, rfl, rfl, SqT.of (sG _ _ g1), atI_of (by omega) (by rw [show ((fl : Int) + 1).toNat = fl + 1 from by omega]; exact g3'), af', _, rfl, SqT.of (sG _ _ hF'.at_), rfl, _, _, rfl, _, _, rfl, rfl, ?_⟩
      walk_at "op"
      refine ⟨_, rfl, _, 2, rfl, rfl, _, rfl, ah, hs, rfl, .inr (SqT.of (sG _ _ g1)), rfl, ?_⟩
      rw [hlen]
      by_cases h2 : fl + 2 = n
      · rw [show decide (V.int ((fl : Int) + 2) = V.int (n : Nat)) = true from decide_eq_true (by rw [← h2]; rfl)]
        refine ⟨_, rfl, iteT ?_⟩
        refine ⟨_, rfl, _, rfl, _, rfl, t0', s1, _, _, rfl, rfl, SqT.of a1, atI_nat a2, _, rfl, r1, y1, _, _, rfl, rfl, SqT.of a3, atI_nat a4, by show 2 ≤ sizeLine; decide, fun r hr => ?_⟩
        refine k _ _ ?_ (sG.trans (same_new hr))
        refine fit1 (same_new hr) hr ?_
        unfold endL
        rw [if_neg h1, if_pos h2]
        exact upd_same
      · rw [show decide (V.int ((fl : Int) + 2) = V.int (n : Nat)) = false from decide_eq_false fun z => h2 (by injection z with z; omega)]
        refine ⟨_, rfl, iteF ?_⟩
        refine ⟨_, rfl, _, rfl, _, rfl, t0', s1, _, _, rfl, rfl, SqT.of a1, atI_nat a2, _, rfl, r1, y1, _, _, rfl, rfl, SqT.of a3, atI_nat a4, _, rfl, _, rfl, t1', s2, _, _, rfl, rfl, SqT.of b1, atI_nat b2, _, rfl, r2, y2, _, _, rfl, rfl, SqT.of b3, atI_nat b4, by show 3 ≤ sizeLine; decide, fun r hr => ?_⟩
        refine k _ _ ?_ (sG.trans (same_new hr))
        refine fit1 (same_new hr) hr ?_
        unfold endL
        rw [if_neg h1, if_neg h2]
        exact upd_same
theorem dpAll_of {K : PySem.W.Frag} {H : Hp} : ∀ {xs : List V} {ds : List PyData}, xs.length = ds.length → (∀ (i : Nat) (x : V) (d : PyData), xs[i]? = some x → ds[i]? = some d → Dp K H x d) → DpAll K H xs ds
  | [], [], _, _ => .nil
  | [], _ :: _, h, _ => by simp at h
  | _ :: _, [], h, _ => by simp at h
  | x :: xs, d :: ds, h, k => .cons (k 0 x d rfl rfl) (dpAll_of (by simpa using h) fun i y e a b => k (i + 1) y e (by simpa using a) (by simpa using b))
theorem hasDict_parts : ∀ {ds : List PyData}, PyData.hasDictAll ds = false → ∀ e ∈ ds, e.hasDict = false
  | [], _, e, he => by simp at he
  | d :: r, h, e, he => by
    simp only [PyData.hasDictAll, Bool.or_eq_false_iff] at h
    rcases List.mem_cons.mp he with rfl | he
    · exact h.1
    · exact hasDict_parts h.2 e he
theorem Dat.dp {K : PySem.W.Frag} {H : Hp} {p : Addr} {d : PyData} {v : V} (h : Dat H p v d) : d.hasDict = false → Dp K H v d := by
  induction h with
  | non => exact fun _ => .non
  | bl b => exact fun _ => .bl b
  | int i => exact fun _ => .int i
  | str x => exact fun _ => .str x
  | tup h1 _ h3 h4 ih => exact fun z => .tup (SqT.of h1) (dpAll_of h3 fun i x d a b => ih i x d a b (hasDict_parts (by simpa only [PyData.hasDict] using z) d (List.mem_of_getElem? b)))
  | lst h1 _ h3 h4 ih => exact fun z => .lst (SqL.of h1) (dpAll_of h3 fun i x d a b => ih i x d a b (hasDict_parts (by simpa only [PyData.hasDict] using z) d (List.mem_of_getElem? b)))
  | dct h1 _ => exact fun z => by simp only [PyData.hasDict] at z; cases z
theorem lay_ints : ∀ ns : List Int, PyData.canLayAll0 (ns.map PyData.int) = true ∧ PyData.depthAll (ns.map PyData.int) = 0
  | [] => by simp [PyData.canLayAll0, PyData.depthAll]
  | n :: r => by
    obtain ⟨h1, h2⟩ := lay_ints r
    simp [PyData.canLayAll0, PyData.canLay0, PyData.depthAll, PyData.depth, h1, h2]

theorem eqv_ints : ∀ l : List Int, PyData.eqvAll (l.map PyData.int) (l.map PyData.int) = true
  | [] => by simp [PyData.eqvAll]
  | x :: r => by simp [PyData.eqvAll, PyData.eqv, eqv_ints r]
theorem rowD_shaped (l : List Int) : SeqAt.shaped (rowD l) = true ∧ (rowD l).hasDict = false ∧ PyData.eqv (rowD l) (rowD l) = true := by
  obtain ⟨h1, h2⟩ := lay_ints l
  refine ⟨?_, ?_, ?_⟩
  · unfold SeqAt.shaped rowD
    simp only [PyData.canLay0, PyData.depth, h1, h2, Bool.true_and]
    decide
  · unfold rowD
    simp only [PyData.hasDict]
    refine hasDict_all fun d hd => ?_
    obtain ⟨c, _, rfl⟩ := List.mem_map.mp hd
    simp only [PyData.hasDict]
  · unfold rowD
    rw [PyData.eqv]
    exact eqv_ints l
/-- in all three orders one end -/
theorem endL_tri {fs : List PyData} {m n f : Nat} {x : Nat × Nat × Nat} (hN : HouseN m n (.tuple fs)) (hf : f < n) (hT : FmC.Tri n m (goN fs 0) (goN fs 1)) (hx : x.1 < m) (hy : x.2.1 < m) (hz : x.2.2 < m)
    (hm : ∀ k, k < 2 → ∀ g, g < n → ∀ a b, a < m → b < m → goN fs k g a b < m) : ∀ y ∈ ords x, endL n (goN fs 0) (goN fs 1) f y = endL n (goN fs 0) (goN fs 1) f x := by
  obtain ⟨a, b, c⟩ := x
  dsimp only at hx hy hz
  have key : ∀ p q r, p < m → q < m → r < m → endL n (goN fs 0) (goN fs 1) f (p, q, r) = endL n (goN fs 0) (goN fs 1) f (p, r, q) := fun p q r hp hq hr => by
    obtain ⟨t1, t2, t3⟩ := hT f p q r hf hp hq hr
    unfold endL
    dsimp only
    by_cases h1 : f + 1 = n
    · rw [if_pos h1, if_pos h1, t1]
    · rw [if_neg h1, if_neg h1]
      have h1' : f + 1 < n := by omega
      by_cases h2 : f + 2 = n
      · rw [if_pos h2, if_pos h2, t1, t2 h1']
      · rw [if_neg h2, if_neg h2, t1, t2 h1', t3 (by omega)]
  have comm : ∀ p q r, p < m → q < m → endL n (goN fs 0) (goN fs 1) f (p, q, r) = endL n (goN fs 0) (goN fs 1) f (q, p, r) := fun p q r hp hq => by
    unfold endL
    dsimp only
    rw [goN_comm hN hf (k := 0) (by decide) hp hq, goN_comm hN hf (k := 1) (by decide) hp hq]
  intro y hy'
  unfold ords at hy'
  simp only [List.mem_cons, List.not_mem_nil, or_false] at hy'
  rcases hy' with rfl | rfl | rfl
  · rfl
  · exact (key a b c hx hy hz).symm
  · rw [key b c a hy hz hx, comm b a c hy hx]
def goLt (fs : List PyData) (m n : Nat) : Prop := ∀ k, k < 2 → ∀ g, g < n → ∀ a b, a < m → b < m → goN fs k g a b < m
theorem goLt_of {H : Hp} {ph : Addr} {hv : V} {fs : List PyData} {m n : Nat} (hD : Dat H ph hv (.tuple fs)) (hN : HouseN m n (.tuple fs)) : goLt fs m n := fun k hk g hg a b ha hb => by
  obtain ⟨_, _, _, _, _, _, _, _, _, hF⟩ := floor_at hD hN hg
  match k, hk with
  | 0, _ => obtain ⟨_, _, _, _, _, _, _, z⟩ := hF.s a b ha hb; exact z
  | 1, _ => obtain ⟨_, _, _, _, _, _, _, z⟩ := hF.u a b ha hb; exact z
def spParted : Sp := fun vs H Q _ => ∃ (hv tv : V) (p ph : Addr) (u : HO) (fs : List PyData) (m n f : Nat) (x : Nat × Nat × Nat), vs = [hv, .int (f : Nat), tv] ∧ H p = some u ∧ Dat H ph hv (.tuple fs) ∧ HouseN m n (.tuple fs) ∧ f < n ∧ Dat H p tv (triD x) ∧ x.1 < m ∧ x.2.1 < m ∧ x.2.2 < m ∧
  FmC.Tri n m (goN fs 0) (goN fs 1) ∧ ∀ H', Same H H' → Q (.bl false) H'
theorem ok_is_parted (D : Df K mg "is_parted" s_is_parted ["house", "floor", "three"]) (T : Nms mg) (c_orders : CallOk P w K mg base CX0 1 "orders" ["three"] spOrders) (c_end_of_three : CallOk P w K mg base CX0 2 "end_of_three" ["house", "floor", "order"] spEnd3) : CallOk P w K mg base CX0 3 "is_parted" ["house", "floor", "three"] spParted := by
  refine df_ok D sc_is_parted (fun vs H Q E h => ?_) (fun f cdv A outer s H vs Q E hr h => ?_)
  · obtain ⟨hv, tv, p, ph, u, fs, m, n, f, x, rfl, _⟩ := h
    rfl
  · obtain ⟨hv, tv, p, ph, u, fs, m, n, fl, x, rfl, hp, hD, hN, hf, hO, hx, hy, hz, hT, k⟩ := h
    have nd := sc_is_parted.nd
    have hgo := goLt_of hD hN
    have heq := endL_tri hN hf hT hx hy hz hgo
    refine ⟨_, (pss_cons (ps_asg (pe_cc c_orders (hr.mono (by omega)) (pa_cons (pv 2) pa_nil)) (pg_tup rfl (pgs_cons (pg_name (i := 3) nd rfl (Or.inl rfl)) (pgs_cons (pg_name (i := 4) nd rfl (Or.inl rfl)) (pgs_cons (pg_name (i := 5) nd rfl (Or.inl rfl)) pgs_nil)))))
      (pss_cons (ps_set (i := 6) nd rfl (Or.inl rfl) (pe_cc c_end_of_three (hr.mono (by omega)) (pa_cons (pv 0) (pa_cons (pv 1) (pa_cons (pv 3) pa_nil)))))
      (pss_one (ps_ret (pe_or (pe_cmpR (r := rNeD K) (op_neD hr.units) (pe_cc c_end_of_three (hr.mono (by omega)) (pa_cons (pv 0) (pa_cons (pv 1) (pa_cons (pv 4) pa_nil)))) (pv 6) (nomark _)) (pe_one (pe_cmpR (r := rNeD K) (op_neD hr.units) (pe_cc c_end_of_three (hr.mono (by omega)) (pa_cons (pv 0) (pa_cons (pv 1) (pa_cons (pv 5) pa_nil)))) (pv 6) (nomark _)))))))), ?_⟩
    walk_at "op"
    refine ⟨_, rfl, tv, p, u, x, rfl, hp, hO, fun v G hv1 sG => ?_⟩
    obtain ⟨ov, os, rfl, hos, _, hds⟩ := hv1.isTup
    have hl3 : os.length = 3 := by rw [hds.1]; rfl
    match os, hl3 with
    | [o1, o2, o3], _ =>
    have w1 : Dat G p o1 (triD (x.1, x.2.1, x.2.2)) := hds.2 0 o1 _ rfl rfl
    have w2 : Dat G p o2 (triD (x.1, x.2.2, x.2.1)) := hds.2 1 o2 _ rfl rfl
    have w3 : Dat G p o3 (triD (x.2.1, x.2.2, x.1)) := hds.2 2 o3 _ rfl rfl
    refine ⟨ov, _, rfl, SqT.of hos, rfl, _, _, rfl, _, _, rfl, _, _, rfl, rfl, ?_⟩
    walk_at "op"
    refine ⟨_, rfl, _, rfl, _, rfl, hv, o1, p, ph, u, fs, m, n, fl, _, rfl, sG _ _ hp, hD.same sG, hN, hf, w1, hx, hy, hz, fun v1 G1 d1 s1 => ?_⟩
    have s01 := sG.trans s1
    refine ⟨_, rfl, _, rfl, _, rfl, hv, o2, p, ph, u, fs, m, n, fl, _, rfl, s01 _ _ hp, hD.same s01, hN, hf, w2.same s1, hx, hz, hy, fun v2 G2 d2 s2 => ?_⟩
    have s02 := s01.trans s2
    rw [heq _ (by unfold ords; simp)] at d2
    have d1 : Dat G1 p v1 (rowD (endL n (goN fs 0) (goN fs 1) fl x)) := d1
    obtain ⟨z1, z2, z3⟩ := rowD_shaped (endL n (goN fs 0) (goN fs 1) fl x)
    refine ⟨_, rfl, _, _, d2.dp z2, (d1.same s2).dp z2, z1, z1, ?_⟩
    rw [z3]
    refine ⟨false, rfl, iteF ?_⟩
    refine ⟨_, rfl, _, rfl, _, rfl, hv, o3, p, ph, u, fs, m, n, fl, _, rfl, s02 _ _ hp, hD.same s02, hN, hf, w3.same (s1.trans s2), hy, hz, hx, fun v3 G3 d3 s3 => ?_⟩
    rw [heq _ (by unfold ords; simp)] at d3
    refine ⟨_, rfl, _, _, d3.dp z2, (d1.same (s2.trans s3)).dp z2, z1, z1, ?_⟩
    rw [z3]
    exact k _ (s02.trans s3)
/-- the house is fair -/
def FairH (fs : List PyData) (m n : Nat) : Prop := FmC.Tri n m (goN fs 0) (goN fs 1)
def spLeast : Sp := fun vs H Q _ => ∃ (hv : V) (p ph : Addr) (u : HO) (fs : List PyData) (m n : Nat), vs = [hv] ∧ H p = some u ∧ Dat H ph hv (.tuple fs) ∧ HouseN m n (.tuple fs) ∧ FairH fs m n ∧ ∀ H', Same H H' → Q .non H'
theorem ok_least_parted (D : Df K mg "least_parted" s_least_parted ["house"]) (T : Nms mg) (c_threes : CallOk P w K mg base CX0 1 "threes" ["m"] spThrees) (c_is_parted : CallOk P w K mg base CX0 3 "is_parted" ["house", "floor", "three"] spParted) : CallOk P w K mg base CX0 4 "least_parted" ["house"] spLeast := by
  refine df_ok D sc_least_parted (fun vs H Q E h => ?_) (fun f cdv A outer s H vs Q E hr h => ?_)
  · obtain ⟨hv, p, ph, u, fs, m, n, rfl, _⟩ := h
    rfl
  · obtain ⟨hv, p, ph, u, fs, m, n, rfl, hp, hD, hN, hT, k⟩ := h
    have nd := sc_least_parted.nd
    have hmn : 1 ≤ n ∧ n ≤ 4 ∧ 1 ≤ m ∧ m ≤ 6 := by
      obtain ⟨_, _, _, z1, z2, z3, z4, _⟩ := hN
      exact ⟨z1, z2, z3, z4⟩
    obtain ⟨ah, af, hs, t0, t1, rfl, g1, g2, g3, hF⟩ := floor_at hD hN (f := 0) (by omega)
    obtain ⟨ss, hss, hsl⟩ : ∃ ss : List V, H t0 = some (.tup ss) ∧ ss.length = m := by
      obtain ⟨fs', e, hl, _, _, _, _, hFl⟩ := id hN
      cases e
      obtain ⟨sd, ud, e1, ⟨rs, e2, l2, _⟩, _⟩ := hFl fs[0] (List.getElem_mem (by omega))
      subst e2
      obtain ⟨ah', hs', e', hah', _, hh⟩ := hD.isTup
      cases e'
      rw [g1] at hah'
      cases hah'
      obtain ⟨x, hx, hdx⟩ := hh.back (i := 0) (d := fs[0]) (List.getElem?_eq_getElem _)
      rw [g3] at hx
      cases hx
      rw [e1] at hdx
      obtain ⟨af', ys, e3, haf, _, hy⟩ := hdx.isTup
      cases e3
      rw [hF.at_] at haf
      cases haf
      obtain ⟨s0, ss, e4, hs0, _, hss⟩ := (hy.2 0 _ _ rfl rfl).isTup
      cases e4
      exact ⟨ss, hs0, by rw [hss.1, l2]⟩
    refine ⟨_, (pss_cons (ps_set (i := 1) nd rfl (Or.inl rfl) (pe_cc c_threes (hr.mono (by omega)) (pa_cons (pe_callB (r := rLenS K) call_lenS (by rfl) T.n_len (by decide +kernel) (pa_cons (pe_ix (r := rIxT K) ix_tup (pe_ix (r := rIxT K) ix_tup (pv 0) pe_int (fun _ _ => rfl)) pe_int (fun _ _ => rfl)) pa_nil)) pa_nil)))
      (pss_cons (ps_for PassesOwn.never rfl (pi_range1 rfl T.n_range (pa_cons (pe_callB (r := rLenS K) call_lenS (by rfl) T.n_len (by decide +kernel) (pa_cons (pv 0) pa_nil)) pa_nil)) (pg_name (i := 2) nd rfl (Or.inl rfl)) (pss_one (ps_for PassesOwn.never rfl (pi_list (pv 1)) (pg_name (i := 3) nd rfl (Or.inl rfl)) (pss_one (ps_if (pt_val (pe_cc c_is_parted (hr.mono (by omega)) (pa_cons (pv 0) (pa_cons (pv 2) (pa_cons (pv 3) pa_nil))))) (pss_one (ps_ret (pe_tup (pa_cons (pv 2) (pa_cons (pv 3) pa_nil))))) pss_nil)))))
      (pss_one (ps_ret pe_non)))), ?_⟩
    walk_at "op"
    walk_at "st"
    refine ⟨ah, hs, 0, _, rfl, rfl, SqT.of g1, atI_nat (j := 0) g3, af, _, 0, _, rfl, rfl, SqT.of hF.at_, rfl, t0, ss, rfl, .inr (SqT.of hss), ?_⟩
    rw [hsl]
    refine ⟨m, p, u, rfl, hmn.2.2.2, hp, fun q ws G hq hq' hW sG => ?_⟩
    refine ⟨_, rfl, ah, hs, rfl, .inr (SqT.of (sG _ _ g1)), ?_⟩
    rw [g2]
    refine ⟨_, rfl, by omega, by omega, ?_⟩
    rw [Int.toNat_natCast]
    refine fI walk_range (fun i σ G2 => Same G G2 ∧ ∃ u2 u3, σ = [some (.ref ah), some (.ref q), u2, u3]) ⟨Same.refl _, _, _, rfl⟩ (fun _ _ _ _ _ => True.intro) ?_ ?_
    · rintro i x σ _ G2 hi ⟨s2, u2, u3, rfl⟩ ⟨rfl, rfl⟩
      dsimp only
      rw [Int.zero_add]
      walk_at "op"
      refine ⟨_, rfl, q, rfl, ⟨_, SqL.of (s2 _ _ hq')⟩, ?_⟩
      refine fI walk_list (fun j σ G3 => Same G G3 ∧ ∃ u3, σ = [some (.ref ah), some (.ref q), some (.int (i : Nat)), u3]) ⟨s2, _, rfl⟩ (fun _ _ _ _ ⟨e, _⟩ => SqL.of (e _ _ hq')) ?_ ?_
      · rintro j x σ _ G3 hj ⟨s3, u3, rfl⟩ ⟨rfl, hxj⟩
        obtain ⟨d, hd1, hd2⟩ := hW.at hxj
        obtain ⟨y, hy, rfl⟩ := List.mem_map.mp (List.mem_of_getElem? hd1)
        obtain ⟨y1, y2, y3⟩ := thr_mem hy
        walk_at "op"
        refine ⟨_, rfl, _, rfl, _, rfl, .ref ah, x, p, ph, u, fs, m, n, i, y, rfl, (sG.trans s3) _ _ hp, hD.same (sG.trans s3), hN, hi, hd2.same s3, y1, y2, y3, hT, fun G4 s4 => ?_⟩
        exact ⟨_, rfl, iteF ⟨s3.trans s4, _, rfl⟩⟩
      · rintro σ G3 ⟨s3, u3, rfl⟩
        exact ⟨s3, _, _, rfl⟩
    · rintro σ G2 ⟨s2, u2, u3, rfl⟩
      walk_at "op"
      exact k _ (sG.trans s2)
def spPaper : Sp := spLeast
theorem ok_paper (D : Df K mg "paper" s_paper ["house"]) (T : Nms mg) {C : Addr} (c_size : CallOk P w K mg base (L2.CX P w) 6 "size" ["house"] (spSize C)) (c_least_parted : CallOk P w K mg base CX0 4 "least_parted" ["house"] spLeast) : CallOk P w K mg base (L2.CX P w) 7 "paper" ["house"] spPaper := by
  refine df_okX D sc_paper (fun vs H Q E h => ?_) (fun f cdv A outer s H vs Q E hr h => ?_)
  · obtain ⟨hv, p, ph, u, fs, m, n, rfl, _⟩ := h
    rfl
  · obtain ⟨hv, p, ph, u, fs, m, n, rfl, hp, hD, hN, hT, k⟩ := h
    have nd := sc_paper.nd
    refine ⟨_, (pss_cons (ps_expr (pe_cx c_size (hr.mono (by omega)) (pa_cons (pv 0) pa_nil)))
      (pss_cons (ps_set (i := 1) nd rfl (Or.inl rfl) (pe_cc c_least_parted (hr.mono (by omega)) (pa_cons (pv 0) pa_nil)))
      (pss_cons (ps_if (pt_cmpR op_isN (pv 1) pe_non (nomark _)) (pss_one (ps_ret pe_non)) pss_nil)
      pss_never))), ?_⟩
    walk_at "op"
    refine ⟨_, rfl, hv, ph, .tuple fs, rfl, hD, fun m' n' hN' q G hq hq2 sG => ?_, fun no => (no ⟨m, n, hN⟩).elim⟩
    refine ⟨_, rfl, hv, p, ph, u, fs, m, n, rfl, sG _ _ hp, hD.same sG, hN, hT, fun G2 s2 => ?_⟩
    refine ⟨_, rfl, rfl, true, by rw [decide_eq_true rfl], ?_⟩
    exact iteT (k _ (sG.trans s2))
theorem ok_check_fair (D : Df K mg "check_fair" s_check_fair ["house"]) (T : Nms mg) (c_paper : CallOk P w K mg base (L2.CX P w) 7 "paper" ["house"] spPaper) : CallOk P w K mg base (L2.CX P w) 8 "check_fair" ["house"] spLeast := by
  refine df_okX D sc_check_fair (fun vs H Q E h => ?_) (fun f cdv A outer s H vs Q E hr h => ?_)
  · obtain ⟨hv, p, ph, u, fs, m, n, rfl, _⟩ := h
    rfl
  · obtain ⟨hv, p, ph, u, fs, m, n, rfl, hp, hD, hN, hT, k⟩ := h
    have nd := sc_check_fair.nd
    refine ⟨_, (pss_cons (ps_set (i := 1) nd rfl (Or.inl rfl) (pe_cx c_paper (hr.mono (by omega)) (pa_cons (pv 0) pa_nil)))
      (pss_one (ps_if (pt_cmpR op_notN (pv 1) pe_non (nomark _)) (pss_one ps_never) pss_nil))), ?_⟩
    walk_at "op"
    refine ⟨_, rfl, hv, p, ph, u, fs, m, n, rfl, hp, hD, hN, hT, fun G2 s2 => ?_⟩
    refine ⟨_, rfl, rfl, false, by rw [decide_eq_true rfl]; rfl, ?_⟩
    exact iteF (k _ s2)
end
end Fm
end FFA
section FFmBatch
/-! Many meetings of like people at once; rows of counts. Pure arithmetic, nothing of the model. -/
set_option linter.all false
namespace FmC
def addI (c : List Int) (i : Nat) (z : Int) : List Int := c.set i (c.getD i 0 + z)
def cnt (c : List Int) (a : Nat) : Nat := (c.getD a 0).toNat
def NN (c : List Int) : Prop := ∀ x ∈ c, 0 ≤ x
def rowSt (f : Nat) (c : List Int) : St := fun g a => if g = f then cnt c a else 0
def upsSt (n f : Nat) (r : List Int) : St := fun g a => if g = f + 1 then (if f + 1 < n then cnt r a else if a = 0 then r.sum.toNat else 0) else 0
def many (t : Nat) (s : St) : St := fun g a => t * s g a
theorem addI_len (c : List Int) (i : Nat) (z : Int) : (addI c i z).length = c.length := by unfold addI; rw [List.length_set]
theorem getD_addI {c : List Int} {i : Nat} (hi : i < c.length) (z : Int) (a : Nat) : (addI c i z).getD a 0 = if a = i then c.getD i 0 + z else c.getD a 0 := by
  unfold addI
  rw [List.getD_eq_getElem?_getD, List.getElem?_set]
  by_cases h : i = a
  · subst h
    rw [if_pos rfl, if_pos hi, if_pos rfl]
    rfl
  · rw [if_neg h, if_neg (Ne.symm h), List.getD_eq_getElem?_getD]
theorem NN.get {c : List Int} (h : NN c) (a : Nat) : 0 ≤ c.getD a 0 := by
  rw [List.getD_eq_getElem?_getD]
  cases e : c[a]? with
  | none => exact Int.le_refl _
  | some x => exact h x (List.mem_of_getElem? e)
theorem NN.cnt {c : List Int} (h : NN c) (a : Nat) : ((cnt c a : Nat) : Int) = c.getD a 0 := by
  have := h.get a
  show (((c.getD a 0).toNat : Nat) : Int) = _
  omega
theorem NN.add {c : List Int} (h : NN c) {i : Nat} {z : Int} (hz : 0 ≤ c.getD i 0 + z) : NN (addI c i z) := fun x hx => by
  rcases List.mem_or_eq_of_mem_set hx with q | rfl
  · exact h x q
  · exact hz
theorem sum_addI : ∀ {c : List Int} {i : Nat}, i < c.length → ∀ z, (addI c i z).sum = c.sum + z
  | x :: c, 0, _, z => by
    show (x + z) + c.sum = x + c.sum + z
    omega
  | x :: c, i + 1, h, z => by
    have := sum_addI (c := c) (i := i) (by simpa using h) z
    show x + (addI c i z).sum = x + c.sum + z
    omega
theorem NN.sum : ∀ {c : List Int}, NN c → 0 ≤ c.sum
  | [], _ => Int.le_refl _
  | x :: c, h => by
    have h1 := h x List.mem_cons_self
    have h2 := NN.sum (c := c) fun y hy => h y (List.mem_cons_of_mem _ hy)
    show 0 ≤ x + c.sum
    omega
section
variable {n m : Nat} {S U : Nat → Nat → Nat → Nat}
/-- t meetings of two alike -/
theorem run_many {f k : Nat} (hf : f < n) (hk : k < m) (e : St) : ∀ t, Run n m S U (e + many (2 * t) (one f k)) (e + many t (one f (S f k k)) + many t (one (f + 1) (U f k k)))
  | 0 => by
    have : e + many (2 * 0) (one f k) = e + many 0 (one f (S f k k)) + many 0 (one (f + 1) (U f k k)) := by
      funext p q; simp only [add_at, many, Nat.mul_zero, Nat.zero_mul, Nat.add_zero]
    rw [this]
    exact .nil _
  | t + 1 => by
    have ih := run_many hf hk (e + one f (S f k k) + one (f + 1) (U f k k)) t
    refine .cons ⟨e + many (2 * t) (one f k), f, k, k, hf, hk, hk, ?_, rfl⟩ ?_
    · funext p q
      simp only [add_at, many]
      rw [show 2 * (t + 1) = 2 * t + 2 from rfl, Nat.add_mul]
      omega
    · have e1 : e + many (2 * t) (one f k) + one f (S f k k) + one (f + 1) (U f k k) = e + one f (S f k k) + one (f + 1) (U f k k) + many (2 * t) (one f k) := by
        funext p q; simp only [add_at]; omega
      have e2 : e + many (t + 1) (one f (S f k k)) + many (t + 1) (one (f + 1) (U f k k)) = e + one f (S f k k) + one (f + 1) (U f k k) + many t (one f (S f k k)) + many t (one (f + 1) (U f k k)) := by
        funext p q; simp only [add_at, many, Nat.add_mul, Nat.one_mul]; omega
      rw [e1, e2]
      exact ih
theorem row_add {f i : Nat} {c : List Int} (hc : NN c) (hi : i < c.length) (t : Nat) : rowSt f (addI c i t) = rowSt f c + many t (one f i) := by
  funext g a
  simp only [add_at, rowSt, many]
  by_cases hg : g = f
  · subst hg
    rw [if_pos rfl, if_pos rfl]
    unfold cnt
    rw [getD_addI hi]
    by_cases ha : a = i
    · subst ha
      rw [if_pos rfl, one_self]
      have := hc.get a
      omega
    · rw [if_neg ha, one_ne (fun q => ha q.2)]
      omega
  · rw [if_neg hg, if_neg hg, one_ne (fun q => hg q.1)]
    omega
theorem row_take {f i : Nat} {c : List Int} (hc : NN c) (hi : i < c.length) {t : Nat} (ht : (t : Int) ≤ c.getD i 0) : rowSt f c = rowSt f (addI c i (-(t : Int))) + many t (one f i) := by
  have h1 : NN (addI c i (-(t : Int))) := hc.add (by omega)
  have h2 := row_add (f := f) h1 (by rw [addI_len]; exact hi) t (i := i)
  rw [← h2]
  congr 1
  unfold addI
  rw [List.set_set, List.getD_eq_getElem?_getD (l := c.set _ _), List.getElem?_set_self hi]
  show c = c.set i (c.getD i 0 + -↑t + ↑t)
  rw [show c.getD i 0 + -(t : Int) + t = c.getD i 0 by omega, List.getD_eq_getElem?_getD, List.getElem?_eq_getElem hi]
  exact (List.set_getElem_self hi).symm
theorem ups_add {f i : Nat} {r : List Int} (hr : NN r) (hi : i < r.length) (t : Nat) : upsSt n f (addI r i t) = upsSt n f r + many t (one (f + 1) (if f + 1 < n then i else 0)) := by
  funext g a
  simp only [add_at, upsSt, many]
  by_cases hg : g = f + 1
  · subst hg
    rw [if_pos rfl, if_pos rfl]
    by_cases hn : f + 1 < n
    · rw [if_pos hn, if_pos hn, if_pos hn]
      have := congrFun (congrFun (row_add (f := f + 1) hr hi t) (f + 1)) a
      simp only [add_at, rowSt, many, if_pos] at this
      exact this
    · rw [if_neg hn, if_neg hn, if_neg hn, sum_addI hi]
      have := hr.sum
      by_cases ha : a = 0
      · subst ha
        rw [if_pos rfl, if_pos rfl, one_self]
        omega
      · rw [if_neg ha, if_neg ha, one_ne (fun q => ha q.2)]
        omega
  · rw [if_neg hg, if_neg hg, one_ne (fun q => hg q.1)]
    omega
/-- what meet_all keeps: from c on the floor, nobody risen, to c' and r' -/
structure Met (n m : Nat) (S U : Nat → Nat → Nat → Nat) (f : Nat) (c0 c r : List Int) : Prop where
  cl : c.length = m
  rl : r.length = m
  cn : NN c
  rn : NN r
  run : Run n m S (outU n U) (rowSt f c0) (rowSt f c + upsSt n f r)
  sum : c.sum + r.sum = c0.sum
/-- t meetings of two alike, in rows -/
theorem Met.twos (B : Tabs n m S U) {f : Nat} {c0 c r : List Int} (h : Met n m S U f c0 c r) (hf : f < n) {k : Nat} (hk : k < m) (t : Nat) (ht : 2 * (t : Int) ≤ c.getD k 0) :
    Met n m S U f c0 (addI (addI c k (-(2 * (t : Int)))) (S f k k) t) (addI r (U f k k) t) := by
  have hs := B.sm f k k hf hk hk
  have hu := B.um f k k hf hk hk
  have n1 : NN (addI c k (-(2 * (t : Int)))) := h.cn.add (by omega)
  have l1 : (addI c k (-(2 * (t : Int)))).length = m := by rw [addI_len, h.cl]
  have n2 : NN (addI (addI c k (-(2 * (t : Int)))) (S f k k) t) := n1.add (by have := n1.get (S f k k); omega)
  have n3 : NN (addI r (U f k k) t) := h.rn.add (by have := h.rn.get (U f k k); omega)
  refine ⟨by rw [addI_len, l1], by rw [addI_len, h.rl], n2, n3, ?_, ?_⟩
  · refine h.run.trans ?_
    have e1 := row_take (f := f) h.cn (i := k) (by rw [h.cl]; exact hk) (t := 2 * t) (by omega)
    rw [show (-((2 * t : Nat) : Int)) = -(2 * (t : Int)) by omega] at e1
    rw [e1, row_add n1 (by rw [l1]; exact hs), ups_add h.rn (by rw [h.rl]; exact hu)]
    have := run_many (S := S) (U := outU n U) hf hk (rowSt f (addI c k (-(2 * (t : Int)))) + upsSt n f r) t
    rw [show rowSt f (addI c k (-(2 * (t : Int)))) + many (2 * t) (one f k) + upsSt n f r = rowSt f (addI c k (-(2 * (t : Int)))) + upsSt n f r + many (2 * t) (one f k) from by funext p q; simp only [add_at]; omega]
    rw [show rowSt f (addI c k (-(2 * (t : Int)))) + many t (one f (S f k k)) + (upsSt n f r + many t (one (f + 1) (if f + 1 < n then U f k k else 0))) = rowSt f (addI c k (-(2 * (t : Int)))) + upsSt n f r + many t (one f (S f k k)) + many t (one (f + 1) (outU n U f k k)) from by
      show _ = _ + many t (one (f + 1) (if f + 1 < n then U f k k else 0))
      funext p q; simp only [add_at]; omega]
    exact this
  · rw [sum_addI (by rw [l1]; exact hs), sum_addI (by rw [h.cl]; exact hk), sum_addI (by rw [h.rl]; exact hu)]
    have := h.sum
    omega
/-- one meeting of two unlike, in rows -/
theorem Met.pair (B : Tabs n m S U) {f : Nat} {c0 c r : List Int} (h : Met n m S U f c0 c r) (hf : f < n) {a b : Nat} (ha : a < m) (hb : b < m) (hab : a ≠ b) (h1 : 1 ≤ c.getD a 0) (h2 : 1 ≤ c.getD b 0) :
    Met n m S U f c0 (addI (addI (addI c a (-1)) b (-1)) (S f a b) 1) (addI r (U f a b) 1) := by
  have hs := B.sm f a b hf ha hb
  have hu := B.um f a b hf ha hb
  have n1 : NN (addI c a (-1)) := h.cn.add (by omega)
  have l1 : (addI c a (-1)).length = m := by rw [addI_len, h.cl]
  have g1 : (addI c a (-1)).getD b 0 = c.getD b 0 := by rw [getD_addI (by rw [h.cl]; exact ha), if_neg (Ne.symm hab)]
  have n2 : NN (addI (addI c a (-1)) b (-1)) := n1.add (by omega)
  have l2 : (addI (addI c a (-1)) b (-1)).length = m := by rw [addI_len, l1]
  have n3 : NN (addI (addI (addI c a (-1)) b (-1)) (S f a b) 1) := n2.add (by have := n2.get (S f a b); omega)
  have n4 : NN (addI r (U f a b) 1) := h.rn.add (by have := h.rn.get (U f a b); omega)
  refine ⟨by rw [addI_len, l2], by rw [addI_len, h.rl], n3, n4, ?_, ?_⟩
  · refine h.run.trans ?_
    have e1 := row_take (f := f) h.cn (i := a) (by rw [h.cl]; exact ha) (t := 1) (by omega)
    have e2 := row_take (f := f) n1 (i := b) (by rw [l1]; exact hb) (t := 1) (by omega)
    have e3 := row_add (f := f) n2 (i := S f a b) (by rw [l2]; exact hs) 1
    have e4 := ups_add (n := n) (f := f) h.rn (i := U f a b) (by rw [h.rl]; exact hu) 1
    rw [show (-((1 : Nat) : Int)) = -1 from rfl] at e1 e2
    rw [show ((1 : Nat) : Int) = 1 from rfl] at e3 e4
    rw [e1, e2, e3, e4]
    refine .one ⟨rowSt f (addI (addI c a (-1)) b (-1)) + upsSt n f r, f, a, b, hf, ha, hb, ?_, ?_⟩
    · funext p q; simp only [add_at, many, Nat.one_mul]; omega
    · show _ = _ + _ + one (f + 1) (if f + 1 < n then U f a b else 0)
      funext p q; simp only [add_at, many, Nat.one_mul]; omega
  · rw [sum_addI (by rw [l2]; exact hs), sum_addI (by rw [l1]; exact hb), sum_addI (by rw [h.cl]; exact ha), sum_addI (by rw [h.rl]; exact hu)]
    have := h.sum
    omega
end
/-- who is here -/
def here (c : List Int) : List Nat := (List.range c.length).filter fun k => decide (c.getD k 0 ≠ 0)
end FmC
namespace FmC
section
variable {n m : Nat} {S U : Nat → Nat → Nat → Nat}
theorem met_start {f : Nat} {c : List Int} (hl : c.length = m) (hc : NN c) : Met n m S U f c c (List.replicate m 0) := by
  have z : ∀ a, (List.replicate m (0 : Int)).getD a 0 = 0 := fun a => by
    rw [List.getD_eq_getElem?_getD, List.getElem?_replicate]
    split <;> rfl
  have s : ∀ k, (List.replicate k (0 : Int)).sum = 0 := fun k => by
    induction k with
    | zero => rfl
    | succ k ih => rw [List.replicate_succ, List.sum_cons, ih]; rfl
  have u : upsSt n f (List.replicate m 0) = fun _ _ => 0 := by
    funext g a
    unfold upsSt cnt
    rw [z, s]
    simp
  refine ⟨hl, List.length_replicate, hc, fun x hx => by rw [List.eq_of_mem_replicate hx]; exact Int.le_refl _, ?_, by rw [s]; omega⟩
  have : rowSt f c + upsSt n f (List.replicate m 0) = rowSt f c := by
    rw [u]
    funext g a
    simp only [add_at]
    omega
  rw [this]
  exact .nil _
/-- rows of none and one -/
theorem sum_here {c : List Int} (hc : NN c) (h1 : ∀ k, k < c.length → c.getD k 0 ≤ 1) : ∀ i, i ≤ c.length → (c.take i).sum = (((List.range i).filter fun k => decide (c.getD k 0 ≠ 0)).length : Nat)
  | 0, _ => rfl
  | i + 1, hi => by
    have ih := sum_here hc h1 i (by omega)
    have hg : c[i]? = some (c.getD i 0) := by rw [List.getD_eq_getElem?_getD, List.getElem?_eq_getElem (by omega)]; rfl
    rw [List.take_add_one, hg, List.sum_append, ih, List.range_succ, List.filter_append, List.length_append]
    have a := hc.get i
    have b := h1 i (by omega)
    by_cases z : c.getD i 0 = 0
    · rw [z, show ([i].filter fun k => decide (c.getD k 0 ≠ 0)) = [] from by
        rw [List.filter_cons, if_neg (by rw [decide_eq_false (fun q => q z)]; decide)]; rfl]
      rfl
    · have e : c.getD i 0 = 1 := by omega
      rw [show ([i].filter fun k => decide (c.getD k 0 ≠ 0)) = [i] from by
        rw [List.filter_cons, if_pos (decide_eq_true z)]; rfl, e]
      show _ + (1 + 0 : Int) = ((_ + 1 : Nat) : Int)
      omega
theorem here_sum {c : List Int} (hc : NN c) (h1 : ∀ k, k < c.length → c.getD k 0 ≤ 1) : c.sum = ((here c).length : Nat) := by
  have := sum_here hc h1 c.length (Nat.le_refl _)
  rw [List.take_length] at this
  exact this
theorem here_mem {c : List Int} {k : Nat} (h : k ∈ here c) : k < c.length ∧ c.getD k 0 ≠ 0 := by
  unfold here at h
  rw [List.mem_filter, List.mem_range] at h
  exact ⟨h.1, of_decide_eq_true h.2⟩
theorem here_two {c : List Int} {a b : Nat} {l : List Nat} (h : here c = a :: b :: l) : a ≠ b := by
  have nd : (here c).Nodup := (List.nodup_range).filter _
  rw [h] at nd
  intro e
  subst e
  simp at nd
end
theorem addI_zero (c : List Int) (i : Nat) : addI c i 0 = c := by
  unfold addI
  rw [show c.getD i 0 + 0 = c.getD i 0 by omega, List.getD_eq_getElem?_getD]
  cases e : c[i]? with
  | none => exact List.set_eq_of_length_le (List.getElem?_eq_none_iff.mp e)
  | some x =>
    obtain ⟨h, rfl⟩ := List.getElem?_eq_some_iff.mp e
    exact List.set_getElem_self h
theorem addI_zero2 (c : List Int) (i j : Nat) : addI (addI c i (-(2 * ((0 : Nat) : Int)))) j ((0 : Nat) : Int) = c := by
  show addI (addI c i (-(2 * 0))) j 0 = c
  rw [show (-(2 * 0) : Int) = 0 from rfl, addI_zero, addI_zero]
end FmC
end FFmBatch
section FEN
set_option Elab.async false
set_option linter.all false
set_option maxRecDepth 100000
set_option maxHeartbeats 4000000
local macro_rules | `(tactic| walk_at "ne") => `(tactic| first | assumption | (apply Ne.symm; assumption) | exact L2.ne_of_none (by assumption) (by assumption) | exact Ne.symm (L2.ne_of_none (by assumption) (by assumption)))
local macro_rules | `(tactic| walk_at "hl") => `(tactic| first | assumption | exact L2.upd_same | (refine Eq.trans (L2.upd_ne (by walk_at "ne")) ?_; walk_at "hl"))
local macro_rules | `(tactic| walk_at "sd") => `(tactic| first | (with_reducible show (_ : Int) < _; omega) | (with_reducible show (_ : Int) ≤ _; omega) | assumption | decide | exact ⟨by assumption, by assumption⟩ | exact ⟨by decide, by decide⟩ | exact Or.inr ⟨by decide, by decide⟩ | exact Or.inl ⟨by omega, by omega⟩ | rfl)
local macro_rules | `(tactic| walk_at "st1") => `(tactic| first
  | refine ⟨_, rfl, ?_⟩
  | refine ⟨_, _, rfl, rfl, ?_⟩
  | refine ⟨_, _, rfl, ?_⟩
  | (refine ⟨_, _, _, _, rfl, rfl, L2.SqL.of (by walk_at "hl"), rfl, ?_⟩)
  | (refine ⟨_, _, _, _, rfl, rfl, L2.SqT.of (by walk_at "hl"), rfl, ?_⟩)
  | (refine ⟨_, _, _, _, rfl, rfl, (by walk_at "hl"), rfl, ?_⟩)
  | (refine And.intro (by walk_at "sd") ?_)
  )
local macro_rules | `(tactic| walk_at "st") => `(tactic| repeat walk_at "st1")
local macro_rules | `(tactic| walk_at "op") => `(tactic| try dsimp only [L2.tSeq, L2.tAsg, L2.tOp, L2.tVar, L2.tC, L2.gSub, L2.rI, L2.rI0, L2.rIxL, L2.rIxT, L2.rSetL, L2.tIfS, L2.tTest, L2.tRet, L2.gName, L2.tNext, L2.tAnd, L2.tOr, L2.tNot, L2.tAndV, L2.tOrV, L2.tNotV, L2.tB, L2.tCB, L2.tCons, L2.tNil, L2.tCall, L2.tTup, L2.tLst, L2.tChain, L2.tUn, L2.tPar, L2.tDrop, L2.tIf, L2.tBM, L2.tBM0, L2.rAppend, L2.rCat, L2.rIsi, L2.rIsiT, L2.gTup, L2.gCons, L2.gNil, Fm.tFor_eq, Fm.tLc_eq, Fm.tLc2_eq, L2.iTup, L2.iList, L2.iRng1, L2.iRng2, L2.tSl, L2.tPart, L2.tNoPart, L2.rSlL, L2.rEq, L2.rNe, L2.rU, L2.rEqD, L2.rNeD, Fm.tRevT, Fm.rLenS, Fm.rTupOf, Fm.rLstOf, L2.tDNewK, L2.tCallS, L2.WE, Fm.wKeep, Fm.rIsK, Fm.rIsKT, List.cons_append, List.nil_append, L2.tYes])
namespace Fm
open PySem PySem.Spec PyProof.Rows L2
abbrev s_meet_all : Stmt := top 34
abbrev N_meet_all : List Str := ["tables", "here", "stay", "up", "rising", "number", "row", "twos", "left", "many", "a", "b"]
theorem sc_meet_all : FnScope N_meet_all ["tables", "here"] (defScope s_meet_all) := ⟨rfl, rfl, rfl, by decide +kernel, rfl, by decide +kernel, by decide +kernel⟩
section
variable {P : Program} {w : World} {K : PySem.W.Frag} {mg : Str → Option Value} {base : Heap}
/-! ### all that meet on a floor -/
theorem addI_is (c : List Int) (i : Nat) (z : Int) : FmC.addI c i z = addAt c i z := rfl
theorem aug_at {K : PySem.W.Frag} {to ti te : TE} {σ : L2.St} {G : Hp} {B : Addr} {c : List Int} {i : Nat} {op : Int → Int → Int} {Dn : Ends} {v z : Int} (ho : ∀ Q : VK, Q (.ref B) G → to σ G Q) (hi : ∀ Q : VK, Q (.int (i : Nat)) G → ti σ G Q) (he : ∀ Q : VK, Q (.int v) G → te σ G Q)
    (hB : G B = some (.lst (c.map V.int))) (h : i < c.length) (e : ∀ x, op x v = x + z) (hn : Dn.nx σ (upd G B (.lst ((FmC.addI c i z).map V.int)))) : tAugS to ti te (rGetL K) (ipI op) rSetL Dn σ G := by
  refine ho _ (hi _ ?_)
  refine ⟨B, _, i, _, rfl, rfl, SqL.of hB, getD_at h, he _ ?_⟩
  refine ⟨_, _, rfl, rfl, ?_⟩
  refine ⟨B, _, _, i, rfl, rfl, hB, ixN_of (by rw [List.length_map]; exact h), ?_⟩
  rw [e, ← map_addAt]
  exact hn
theorem FloorAt.ext {H H' : Hp} {af t0 t1 L : Addr} {m : Nat} {S U : Nat → Nat → Nat} {xs : List V} (h : FloorAt H af m S U t0 t1) (hL : H L = some (.lst xs)) (e : Ext L H H') : FloorAt H' af m S U t0 t1 := by
  have ne : ∀ {b : Addr} {ys : List V}, H b = some (.tup ys) → b ≠ L := fun {b ys} hb z => by
    rw [z, hL] at hb
    cases hb
  refine ⟨e _ _ h.at_ (ne h.at_), fun a b ha hb => ?_, fun a b ha hb => ?_⟩
  · obtain ⟨ss, ra, ya, h1, h2, h3, h4, h5⟩ := h.s a b ha hb
    exact ⟨ss, ra, ya, e _ _ h1 (ne h1), h2, e _ _ h3 (ne h3), h4, h5⟩
  · obtain ⟨ss, ra, ya, h1, h2, h3, h4, h5⟩ := h.u a b ha hb
    exact ⟨ss, ra, ya, e _ _ h1 (ne h1), h2, e _ _ h3 (ne h3), h4, h5⟩
theorem rep_zero (m : Nat) : (List.replicate (m : Int).toNat [V.int 0]).flatten = (List.replicate m (0 : Int)).map V.int := by
  rw [Int.toNat_natCast, List.map_replicate]
  induction m with
  | zero => rfl
  | succ n ih => rw [List.replicate_succ, List.flatten_cons, ih, List.replicate_succ]; rfl
def hereTo (c : List Int) (i : Nat) : List Nat := (List.range i).filter fun k => decide (c.getD k 0 ≠ 0)
theorem hereTo_succ (c : List Int) (i : Nat) : hereTo c (i + 1) = hereTo c i ++ if c.getD i 0 = 0 then [] else [i] := by
  unfold hereTo
  rw [List.range_succ, List.filter_append]
  congr 1
  by_cases z : c.getD i 0 = 0
  · rw [if_pos z, List.filter_cons, if_neg (by rw [decide_eq_false (fun q => q z)]; decide)]
    rfl
  · rw [if_neg z, List.filter_cons, if_pos (decide_eq_true z)]
    rfl
theorem hereTo_len (c : List Int) (i : Nat) : (hereTo c i).length ≤ i := by
  unfold hereTo
  refine Nat.le_trans (List.length_filter_le _ _) ?_
  rw [List.length_range]
  exact Nat.le_refl _
def spMeetAll : Sp := fun vs H Q _ => ∃ (af t0 t1 L : Addr) (ss : List V) (n m f : Nat) (S U : Nat → Nat → Nat → Nat) (c : List Int), vs = [.ref af, .ref L] ∧ FloorAt H af m (S f) (U f) t0 t1 ∧ H t0 = some (.tup ss) ∧ ss.length = m ∧ f < n ∧ FmC.Tabs n m S U ∧ m ≤ 6 ∧
  H L = some (.lst (c.map V.int)) ∧ c.length = m ∧ FmC.NN c ∧ c.sum < 10 ^ 40 ∧
  ∀ R c' r H', FmC.Met n m S U f c c' r → c'.sum ≤ 1 → H R = none → H' L = some (.lst (c'.map V.int)) → H' R = some (.lst (r.map V.int)) → Ext L H H' → Q (.ref R) H'
theorem ok_meet_all (D : Df K mg "meet_all" s_meet_all ["tables", "here"]) (T : Nms mg) : CallOk P w K mg base CX0 1 "meet_all" ["tables", "here"] spMeetAll := by
  refine df_ok D sc_meet_all (fun vs H Q E h => ?_) (fun f cdv A outer s H vs Q E hr h => ?_)
  · obtain ⟨af, t0, t1, L, ss, n, m, f, S, U, c, rfl, _⟩ := h
    rfl
  · obtain ⟨af, t0, t1, L, ss, n, m, fl, S, U, c, rfl, hF, ht0, hsl, hf, B, hm, hL, hcl, hcn, hcb, k⟩ := h
    have nd := sc_meet_all.nd
    refine ⟨_, (pss_cons (ps_asg (pv 0) (pg_tup rfl (pgs_cons (pg_name (i := 2) nd rfl (Or.inl rfl)) (pgs_cons (pg_name (i := 3) nd rfl (Or.inl rfl)) pgs_nil))))
      (pss_cons (ps_set (i := 4) nd rfl (Or.inl rfl) (pe_op op_rep (pe_lst (pa_cons pe_int pa_nil)) (pe_callB (r := rLenS K) call_lenS (by rfl) T.n_len (by decide +kernel) (pa_cons (pv 1) pa_nil))))
      (pss_cons (ps_while PassesOwn.never (pt_cmpR op_gt (pe_callB (r := rSumI K) (cr_sumI rfl) (by rfl) T.n_sum (by decide +kernel) (pa_cons (pv 1) pa_nil)) pe_int (nomark _)) (pss_cons (ps_for PassesOwn.never rfl (pi_enumT (by rfl) T.n_enumerate (pa_cons (pv 2) pa_nil)) (pg_tup rfl (pgs_cons (pg_name (i := 5) nd rfl (Or.inl rfl)) (pgs_cons (pg_name (i := 6) nd rfl (Or.inl rfl)) pgs_nil))) (pss_cons (ps_set (i := 7) nd rfl (Or.inl rfl) (pe_op op_fdivW (pe_ix (r := rIxL K) ix_list (pv 1) (pv 5) (fun _ _ => rfl)) pe_int))
      (pss_cons (ps_augS (pv 1) (pv 5) get_list (pe_op op_mul pe_int (pv 7)) ip_sub set_list)
      (pss_cons (ps_augS (pv 1) (pe_ix (r := rIxT K) ix_tup (pv 6) (pv 5) (fun _ _ => rfl)) get_list (pv 7) ip_add set_list)
      (pss_one (ps_augS (pv 4) (pe_ix (r := rIxT K) ix_tup (pe_ix (r := rIxT K) ix_tup (pv 3) (pv 5) (fun _ _ => rfl)) (pv 5) (fun _ _ => rfl)) get_list (pv 7) ip_add set_list))))))
      (pss_cons (ps_setLc (i := 8) (own := [("number", 5), ("many", 9)]) (g := (gTup K 2 (gCons (gName 5) (gCons (gName 9) gNil)))) (by rfl) nd rfl rfl (sw_true rfl rfl rfl (by decide +kernel)) (pi_enum (by rfl) T.n_enumerate (pa_cons (pv 1) pa_nil)) (blkOk_by (own := [("number", 5), ("many", 9)]) (N := N_meet_all) (sc := defScope s_meet_all) (by decide +kernel)) (fun _ _ _ _ _ => (pg_tup rfl (pgs_cons (pg_name (i := 5) nd rfl (Or.inl rfl)) (pgs_cons (pg_name (i := 9) nd rfl (Or.inl rfl)) pgs_nil)))) (fun _ _ _ _ _ => (pts_one (pt_truthK (K := K) rfl (pv 9) (fun _ => rfl)))) (fun _ _ _ _ _ => (pv 5)))
      (pss_one (ps_if (pt_cmpR op_gt (pe_callB (r := rLenS K) call_lenS (by rfl) T.n_len (by decide +kernel) (pa_cons (pv 8) pa_nil)) pe_int (nomark _)) (pss_cons (ps_asg (pe_slice (r := rSlL K) sl_list (pv 8) po_none (po_some pe_int)) (pg_lst rfl (pgs_cons (pg_name (i := 10) nd rfl (Or.inl rfl)) (pgs_cons (pg_name (i := 11) nd rfl (Or.inl rfl)) pgs_nil))))
      (pss_cons (ps_augS (pv 1) (pv 10) get_list pe_int ip_sub set_list)
      (pss_cons (ps_augS (pv 1) (pv 11) get_list pe_int ip_sub set_list)
      (pss_cons (ps_augS (pv 1) (pe_ix (r := rIxT K) ix_tup (pe_ix (r := rIxT K) ix_tup (pv 2) (pv 10) (fun _ _ => rfl)) (pv 11) (fun _ _ => rfl)) get_list pe_int ip_add set_list)
      (pss_one (ps_augS (pv 4) (pe_ix (r := rIxT K) ix_tup (pe_ix (r := rIxT K) ix_tup (pv 3) (pv 10) (fun _ _ => rfl)) (pv 11) (fun _ _ => rfl)) get_list pe_int ip_add set_list)))))) pss_nil)))))
      (pss_one (ps_ret (pv 4)))))), ?_⟩
    walk_at "op"
    refine ⟨_, rfl, af, _, rfl, SqT.of hF.at_, rfl, _, _, rfl, _, _, rfl, rfl, ?_⟩
    walk_at "op"
    refine ⟨by show 1 ≤ sizeLine; decide, fun t ht => ?_⟩
    have nLt : L ≠ t := ne_of_none hL ht
    refine ⟨_, rfl, L, _, rfl, .inl (SqL.of (by rw [upd_ne nLt]; exact hL)), t, _, _, rfl, rfl, upd_same, by omega, by rw [List.length_map]; omega, by rw [sizeLine_eq, List.length_map]; show 1 * _ ≤ _; omega, fun R hR => ?_⟩
    rw [List.length_map, hcl, rep_zero]
    have nLR : L ≠ R := ne_of_none (by rw [upd_ne nLt]; exact hL) hR
    have s0 : Same H (upd (upd H t (.lst [V.int 0])) R (.lst ((List.replicate m (0 : Int)).map V.int))) := (same_new ht).trans (same_new hR)
    have hRH := sameFree (same_new (o := .lst [V.int 0]) ht) hR
    have hL1 := s0 _ _ hL
    have hR1 : upd (upd H t (.lst [V.int 0])) R (.lst ((List.replicate m (0 : Int)).map V.int)) R = some (.lst ((List.replicate m (0 : Int)).map V.int)) := upd_same
    generalize upd (upd H t (.lst [V.int 0])) R (.lst ((List.replicate m (0 : Int)).map V.int)) = G1 at *
    have M0 : FmC.Met n m S U fl c c (List.replicate m 0) := FmC.met_start hcl hcn
    refine ⟨fun k' σ G => ∃ (u5 u6 u7 u8 u9 u10 u11 : Option V) (c' r : List Int), σ = [some (.ref af), some (.ref L), some (.ref t0), some (.ref t1), some (.ref R), u5, u6, u7, u8, u9, u10, u11] ∧ FmC.Met n m S U fl c c' r ∧ G L = some (.lst (c'.map V.int)) ∧ G R = some (.lst (r.map V.int)) ∧ Ext L H G ∧ k' = c'.sum.toNat,
      ⟨_, none, none, none, none, none, none, none, c, List.replicate m 0, rfl, M0, hL1, hR1, Same.ext s0 L, rfl⟩, ?_⟩
    rintro k' σ G ⟨u5, u6, u7, u8, u9, u10, u11, c', r, rfl, M, hGL, hGR, hX, rfl⟩
    walk_at "op"
    refine ⟨_, rfl, .inl ⟨L, c', rfl, SqL.of hGL, ?_⟩⟩
    refine ⟨_, 1, rfl, rfl, _, rfl, ?_⟩
    have nRL : R ≠ L := Ne.symm nLR
    refine ite2 (fun c0 => ?_) (fun c0 => ?_)
    · have c1 := of_decide_eq_true c0
      refine ⟨fun σ' H' => ∃ (u5 u6 u7 u8 u9 u10 u11 : Option V) (c2 r2 : List Int), σ' = [some (.ref af), some (.ref L), some (.ref t0), some (.ref t1), some (.ref R), u5, u6, u7, u8, u9, u10, u11] ∧ FmC.Met n m S U fl c c2 r2 ∧ H' L = some (.lst (c2.map V.int)) ∧ H' R = some (.lst (r2.map V.int)) ∧ Ext L H H' ∧ c2.sum < c'.sum, fun σ' H' ⟨v5, v6, v7, v8, v9, v10, v11, c2, r2, e, M2, g1, g2, g3, g4⟩ => ⟨c2.sum.toNat, by have := M2.cn.sum; omega, v5, v6, v7, v8, v9, v10, v11, c2, r2, e, M2, g1, g2, g3, rfl⟩, ?_⟩
      have ht0G := hX _ _ ht0 (fun z => by rw [z, hL] at ht0; cases ht0)
      refine ⟨_, rfl, t0, ss, rfl, SqT.of ht0G, ?_⟩
      refine fI walk_enumT (fun i σ G2 => ∃ (u5 u6 u7 u8 u9 u10 u11 : Option V) (c2 r2 : List Int), σ = [some (.ref af), some (.ref L), some (.ref t0), some (.ref t1), some (.ref R), u5, u6, u7, u8, u9, u10, u11] ∧ FmC.Met n m S U fl c c2 r2 ∧ G2 L = some (.lst (c2.map V.int)) ∧ G2 R = some (.lst (r2.map V.int)) ∧ Ext L H G2 ∧ (c2.sum < c'.sum ∨ (c2 = c' ∧ ∀ k, k < i → c'.getD k 0 ≤ 1)))
        ⟨_, _, _, _, _, _, _, c', r, rfl, M, hGL, hGR, hX, .inr ⟨rfl, fun k hk => by omega⟩⟩ (fun i σ G2 _ ⟨_, _, _, _, _, _, _, _, _, _, _, _, _, hx, _⟩ => SqT.of (hx _ _ ht0 (fun z => by rw [z, hL] at ht0; cases ht0))) ?_ ?_
      · rintro i x σ G2 _ hi ⟨u5, u6, u7, u8, u9, u10, u11, c2, r2, rfl, M2, hL2, hR2, hX2, hc2⟩ ⟨T1, y1, y2, rfl, hT1, rfl, g1, g2⟩
        dsimp only at g1 g2
        cases g1
        have him : i < m := by omega
        obtain ⟨ss', ra, ya, a1, a2, a3, a4, a5⟩ := hF.s i i him him
        rw [ht0] at a1
        cases a1
        rw [g2] at a2
        cases a2
        obtain ⟨us, rb, yb, b1, b2, b3, b4, b5⟩ := hF.u i i him him
        have sT := same_new (o := .tup [V.int (i : Nat), .ref ra]) hT1
        have hL3 := sT _ _ hL2
        have hR3 := sT _ _ hR2
        have hX3 : Ext L H (upd G2 T1 (.tup [V.int (i : Nat), .ref ra])) := hX2.trans (Same.ext sT L)
        have neL : ∀ {b : Addr} {ys : List V}, H b = some (.tup ys) → b ≠ L := fun {b ys} hb z => by
          rw [z, hL] at hb
          cases hb
        refine ⟨T1, _, rfl, SqT.of upd_same, rfl, _, _, rfl, _, _, rfl, rfl, ?_⟩
        generalize upd G2 T1 (.tup [V.int (i : Nat), .ref ra]) = G3 at *
        have hil : i < c2.length := by rw [M2.cl]; exact him
        have h0 := M2.cn.get i
        obtain ⟨tw, etw⟩ : ∃ tw : Nat, c2.getD i 0 / 2 = (tw : Int) := ⟨(c2.getD i 0 / 2).toNat, by omega⟩
        have h2t : 2 * (tw : Int) ≤ c2.getD i 0 := by omega
        have MT := M2.twos B hf him tw h2t
        refine ⟨_, rfl, _, rfl, L, _, i, _, rfl, rfl, SqL.of hL3, atI_nat (getD_at hil), _, 2, rfl, rfl, ⟨by decide, by decide⟩, ?_⟩
        show gName 7 (V.int (c2.getD i 0 / 2)) _ _ _
        rw [etw]
        dsimp only [gName]
        refine aug_at (K := K) (op := fun i j => i - j) (i := i) (v := 2 * (tw : Int)) (z := -(2 * (tw : Int))) (fun Q q => ⟨_, rfl, q⟩) (fun Q q => ⟨_, rfl, q⟩) (fun Q q => ⟨_, rfl, 2, _, rfl, rfl, .inl ⟨by decide, by decide⟩, q⟩) hL3 hil (fun x => by omega) ?_
        have e1 : upd G3 L (.lst ((FmC.addI c2 i (-(2 * (tw : Int)))).map V.int)) L = some (.lst ((FmC.addI c2 i (-(2 * (tw : Int)))).map V.int)) := upd_same
        have x1 : Ext L G3 (upd G3 L (.lst ((FmC.addI c2 i (-(2 * (tw : Int)))).map V.int))) := ext_at
        have hR4 := x1 _ _ hR3 nRL
        have hX4 := hX3.trans x1
        generalize upd G3 L (.lst ((FmC.addI c2 i (-(2 * (tw : Int)))).map V.int)) = G4 at *
        dsimp only [tSeq]
        refine aug_at (K := K) (op := fun i j => i + j) (i := S fl i i) (v := (tw : Int)) (z := (tw : Int)) (fun Q q => ⟨_, rfl, q⟩) (fun Q q => ⟨_, rfl, _, rfl, ra, ya, _, _, rfl, rfl, SqT.of (hX4 _ _ a3 (neL a3)), atI_nat a4, q⟩) (fun Q q => ⟨_, rfl, q⟩) e1 (by rw [FmC.addI_len, M2.cl]; exact a5) (fun x => rfl) ?_
        have e2 : upd G4 L (.lst ((FmC.addI (FmC.addI c2 i (-(2 * (tw : Int)))) (S fl i i) tw).map V.int)) L = some (.lst ((FmC.addI (FmC.addI c2 i (-(2 * (tw : Int)))) (S fl i i) tw).map V.int)) := upd_same
        have x2 : Ext L G4 (upd G4 L (.lst ((FmC.addI (FmC.addI c2 i (-(2 * (tw : Int)))) (S fl i i) tw).map V.int))) := ext_at
        have hR5 := x2 _ _ hR4 nRL
        have hX5 := hX4.trans x2
        generalize upd G4 L (.lst ((FmC.addI (FmC.addI c2 i (-(2 * (tw : Int)))) (S fl i i) tw).map V.int)) = G5 at *
        dsimp only [tSeq]
        refine aug_at (K := K) (op := fun i j => i + j) (i := U fl i i) (v := (tw : Int)) (z := (tw : Int)) (fun Q q => ⟨_, rfl, q⟩) (fun Q q => ⟨_, rfl, _, rfl, t1, us, _, _, rfl, rfl, SqT.of (hX5 _ _ b1 (neL b1)), atI_nat b2, _, rfl, rb, yb, _, _, rfl, rfl, SqT.of (hX5 _ _ b3 (neL b3)), atI_nat b4, q⟩) (fun Q q => ⟨_, rfl, q⟩) hR5 (by rw [M2.rl]; exact b5) (fun x => rfl) ?_
        have hRfree : H R = none := hRH
        refine ⟨_, _, _, _, _, _, _, _, _, rfl, MT, by rw [upd_ne nLR]; exact e2, upd_same, fun b u eb nb => ?_, ?_⟩
        · rw [upd_ne (ne_of_none eb hRfree)]
          exact hX5 b u eb nb
        · have q1 := MT.sum
          have q2 := M2.sum
          have q3 : (FmC.addI r2 (U fl i i) tw).sum = r2.sum + tw := FmC.sum_addI (by rw [M2.rl]; exact b5) _
          by_cases z : tw = 0
          · subst z
            rcases hc2 with h | ⟨rfl, h⟩
            · exact .inl (by omega)
            · refine .inr ⟨?_, fun k hk => ?_⟩
              · exact FmC.addI_zero2 c2 i _
              · by_cases e : k = i
                · subst e; omega
                · exact h k (by omega)
          · refine .inl ?_
            rcases hc2 with h | ⟨rfl, h⟩ <;> omega
      · rintro σ G2 ⟨u5, u6, u7, u8, u9, u10, u11, c2, r2, rfl, M2, hL2, hR2, hX2, hc2⟩
        rw [hsl] at hc2
        walk_at "op"
        have hl2 : (c2.map V.int).length = m := by rw [List.length_map, M2.cl]
        refine ⟨_, rfl, L, _, rfl, SqL.of hL2, fun Bq hB => ?_⟩
        refine lI walk_enum (fun i G3 => Same G2 G3 ∧ G3 Bq = some (.lst ((hereTo c2 i).map fun k : Nat => V.int (k : Nat)))) ⟨same_new hB, upd_same⟩ (fun i G3 _ ⟨e, _⟩ => SqL.of (e _ _ hL2)) ?_ ?_
        · rintro i v G3 _ hi ⟨sm, hB3⟩ ⟨t9, x, y, rfl, ht9, rfl, hxi, hyi⟩
          dsimp only at hxi hyi
          cases hxi
          rw [hl2] at hi
          rw [getD_at (by rw [M2.cl]; exact hi)] at hyi
          cases hyi
          have nBt : Bq ≠ t9 := ne_of_none hB3 ht9
          have hhl := hereTo_len c2 i
          walk_at "op"
          refine ⟨t9, _, rfl, SqT.of upd_same, rfl, _, _, rfl, _, _, rfl, rfl, ?_⟩
          refine ⟨rfl, ?_⟩
          refine ⟨_, rfl, _, rfl, ?_⟩
          rw [hereTo_succ]
          cases e : (c2.getD i 0 != 0) with
          | true =>
            refine iteT ⟨_, rfl, _, by rw [upd_ne nBt]; exact hB3, by rw [List.length_map]; exact Nat.lt_of_le_of_lt (Nat.le_trans hhl (show i ≤ 6 by omega)) (by rw [sizeLine_eq]; omega), sameOff (sameOff sm (sameFree sm ht9)) hB, ?_⟩
            rw [upd_same, if_neg (by simpa using e), List.map_append]
            rfl
          | false =>
            refine iteF ⟨sameOff sm (sameFree sm ht9), ?_⟩
            rw [upd_ne nBt, if_pos (by simpa using e), List.append_nil]
            exact hB3
        · rintro G3 ⟨sm, hB3⟩
          rw [hl2] at hB3
          have hL3 := sm _ _ hL2
          have hR3 := sm _ _ hR2
          have hX3 := hX2.trans (Same.ext sm L)
          walk_at "op"
          refine ⟨_, rfl, Bq, _, rfl, .inl (SqL.of hB3), _, 1, rfl, rfl, _, rfl, ?_⟩
          rw [List.length_map]
          have hh : hereTo c2 m = FmC.here c2 := by unfold FmC.here hereTo; rw [M2.cl]
          rw [hh] at hB3 ⊢
          refine ite2 (fun d0 => ?_) (fun d0 => ?_)
          · have d1 := of_decide_eq_true d0
            obtain ⟨a, b, tl, eh⟩ : ∃ a b tl, FmC.here c2 = a :: b :: tl := by
              cases q : FmC.here c2 with
              | nil => rw [q] at d1; simp at d1
              | cons a r =>
                cases r with
                | nil => rw [q] at d1; simp at d1
                | cons b tl => exact ⟨a, b, tl, rfl⟩
            obtain ⟨ham, han⟩ := FmC.here_mem (c := c2) (k := a) (by rw [eh]; simp)
            obtain ⟨hbm, hbn⟩ := FmC.here_mem (c := c2) (k := b) (by rw [eh]; simp)
            rw [M2.cl] at ham hbm
            have hab := FmC.here_two eh
            have ha1 : 1 ≤ c2.getD a 0 := by have := M2.cn.get a; omega
            have hb1 : 1 ≤ c2.getD b 0 := by have := M2.cn.get b; omega
            have MP := M2.pair B hf ham hbm hab ha1 hb1
            rw [eh] at hB3
            have neL : ∀ {b : Addr} {ys : List V}, H b = some (.tup ys) → b ≠ L := fun {b ys} hb z => by
              rw [z, hL] at hb
              cases hb
            obtain ⟨ss', ra, ya, a1, a2, a3, a4, a5⟩ := hF.s a b ham hbm
            obtain ⟨us, rb, yb, b1, b2, b3, b4, b5⟩ := hF.u a b ham hbm
            refine ⟨_, rfl, 2, rfl, Bq, _, rfl, SqL.of hB3, fun P2 hP2 => ?_⟩
            have ecut : cutV ((a :: b :: tl).map fun k : Nat => V.int (k : Nat)) none (some 2) = [V.int (a : Nat), V.int (b : Nat)] := by
              unfold cutV
              simp
              rfl
            rw [ecut]
            have sP := same_new (o := .lst [V.int (a : Nat), V.int (b : Nat)]) hP2
            have hL4 := sP _ _ hL3
            have hR4 := sP _ _ hR3
            have hX4 := hX3.trans (Same.ext sP L)
            refine ⟨P2, _, rfl, SqL.of upd_same, rfl, _, _, rfl, _, _, rfl, rfl, ?_⟩
            generalize upd G3 P2 (.lst [V.int (a : Nat), V.int (b : Nat)]) = G4 at *
            dsimp only [tSeq]
            refine aug_at (K := K) (op := fun i j => i - j) (i := a) (v := 1) (z := -1) (fun Q q => ⟨_, rfl, q⟩) (fun Q q => ⟨_, rfl, q⟩) (fun Q q => q) hL4 (by rw [M2.cl]; exact ham) (fun x => rfl) ?_
            have e1 : upd G4 L (.lst ((FmC.addI c2 a (-1)).map V.int)) L = some (.lst ((FmC.addI c2 a (-1)).map V.int)) := upd_same
            have x1 : Ext L G4 (upd G4 L (.lst ((FmC.addI c2 a (-1)).map V.int))) := ext_at
            have hR5 := x1 _ _ hR4 nRL
            have hX5 := hX4.trans x1
            generalize upd G4 L (.lst ((FmC.addI c2 a (-1)).map V.int)) = G5 at *
            dsimp only [tSeq]
            refine aug_at (K := K) (op := fun i j => i - j) (i := b) (v := 1) (z := -1) (fun Q q => ⟨_, rfl, q⟩) (fun Q q => ⟨_, rfl, q⟩) (fun Q q => q) e1 (by rw [FmC.addI_len, M2.cl]; exact hbm) (fun x => rfl) ?_
            have e2 : upd G5 L (.lst ((FmC.addI (FmC.addI c2 a (-1)) b (-1)).map V.int)) L = some (.lst ((FmC.addI (FmC.addI c2 a (-1)) b (-1)).map V.int)) := upd_same
            have x2 : Ext L G5 (upd G5 L (.lst ((FmC.addI (FmC.addI c2 a (-1)) b (-1)).map V.int))) := ext_at
            have hR6 := x2 _ _ hR5 nRL
            have hX6 := hX5.trans x2
            generalize upd G5 L (.lst ((FmC.addI (FmC.addI c2 a (-1)) b (-1)).map V.int)) = G6 at *
            dsimp only [tSeq]
            refine aug_at (K := K) (op := fun i j => i + j) (i := S fl a b) (v := 1) (z := 1) (fun Q q => ⟨_, rfl, q⟩) (fun Q q => ⟨_, rfl, _, rfl, t0, ss', _, _, rfl, rfl, SqT.of (hX6 _ _ a1 (neL a1)), atI_nat a2, _, rfl, ra, ya, _, _, rfl, rfl, SqT.of (hX6 _ _ a3 (neL a3)), atI_nat a4, q⟩) (fun Q q => q) e2 (by rw [FmC.addI_len, FmC.addI_len, M2.cl]; exact a5) (fun x => rfl) ?_
            have e3 : upd G6 L (.lst ((FmC.addI (FmC.addI (FmC.addI c2 a (-1)) b (-1)) (S fl a b) 1).map V.int)) L = some (.lst ((FmC.addI (FmC.addI (FmC.addI c2 a (-1)) b (-1)) (S fl a b) 1).map V.int)) := upd_same
            have x3 : Ext L G6 (upd G6 L (.lst ((FmC.addI (FmC.addI (FmC.addI c2 a (-1)) b (-1)) (S fl a b) 1).map V.int))) := ext_at
            have hR7 := x3 _ _ hR6 nRL
            have hX7 := hX6.trans x3
            generalize upd G6 L (.lst ((FmC.addI (FmC.addI (FmC.addI c2 a (-1)) b (-1)) (S fl a b) 1).map V.int)) = G7 at *
            dsimp only [tSeq]
            refine aug_at (K := K) (op := fun i j => i + j) (i := U fl a b) (v := 1) (z := 1) (fun Q q => ⟨_, rfl, q⟩) (fun Q q => ⟨_, rfl, _, rfl, t1, us, _, _, rfl, rfl, SqT.of (hX7 _ _ b1 (neL b1)), atI_nat b2, _, rfl, rb, yb, _, _, rfl, rfl, SqT.of (hX7 _ _ b3 (neL b3)), atI_nat b4, q⟩) (fun Q q => q) hR7 (by rw [M2.rl]; exact b5) (fun x => rfl) ?_
            refine ⟨_, _, _, _, _, _, _, _, _, rfl, MP, by rw [upd_ne nLR]; exact e3, upd_same, fun b' u eb nb => ?_, ?_⟩
            · rw [upd_ne (ne_of_none eb hRH)]
              exact hX7 b' u eb nb
            · have q1 := MP.sum
              have q2 := M2.sum
              have q3 : (FmC.addI r2 (U fl a b) 1).sum = r2.sum + 1 := FmC.sum_addI (by rw [M2.rl]; exact b5) _
              rcases hc2 with h | ⟨rfl, h⟩ <;> omega
          · have d1 : ¬ (1 : Int) < ((FmC.here c2).length : Nat) := fun z => d0 (decide_eq_true z)
            refine ⟨_, _, _, _, _, _, _, c2, r2, rfl, M2, hL3, hR3, hX3, ?_⟩
            rcases hc2 with h | ⟨rfl, h⟩
            · exact h
            · have := FmC.here_sum M2.cn (fun k hk => h k (by rw [← M2.cl]; exact hk))
              omega
    · have c1 : c'.sum ≤ 1 := by
        have := of_decide_eq_false (Bool.eq_false_iff.mpr c0)
        omega
      walk_at "op"
      exact ⟨_, rfl, k R c' r G M c1 hRH hGL hGR hX⟩
end
end Fm
end FEN
section FFmEnds
/-! Floor by floor to the end. Pure arithmetic, nothing of the model. -/
set_option linter.all false
namespace FmC
def stSt (n : Nat) (rows : List (List Int)) (out : Int) : St := fun g a => if g < n then cnt (rows.getD g []) a else if g = n ∧ a = 0 then out.toNat else 0
/-- the floors below i are told, r come to floor i -/
def curSt (n : Nat) (rows : List (List Int)) (out : Int) (i : Nat) (told : List (List Int)) (r : List Int) : St := fun g a =>
  (if g < i then cnt (told.getD g []) a else if g < n then cnt (rows.getD g []) a else if g = n ∧ a = 0 then out.toNat else 0) + (if g = i then (if i < n then cnt r a else if a = 0 then r.sum.toNat else 0) else 0)
def addR (c r : List Int) : List Int := List.zipWith (· + ·) c r
theorem addR_len {c r : List Int} {m : Nat} (h1 : c.length = m) (h2 : r.length = m) : (addR c r).length = m := by unfold addR; rw [List.length_zipWith]; omega
theorem addR_get {c r : List Int} (h : c.length = r.length) (a : Nat) : (addR c r).getD a 0 = c.getD a 0 + r.getD a 0 := by
  unfold addR
  rw [List.getD_eq_getElem?_getD, List.getD_eq_getElem?_getD, List.getD_eq_getElem?_getD, List.getElem?_zipWith]
  by_cases ha : a < c.length
  · rw [List.getElem?_eq_getElem ha, List.getElem?_eq_getElem (by omega)]
    rfl
  · rw [List.getElem?_eq_none (by omega), List.getElem?_eq_none (by omega)]
    rfl
theorem addR_nn {c r : List Int} (hc : NN c) (hr : NN r) : NN (addR c r) := fun x hx => by
  unfold addR at hx
  obtain ⟨i, hi⟩ := List.mem_iff_getElem?.mp hx
  rw [List.getElem?_zipWith] at hi
  cases e1 : c[i]? with
  | none => rw [e1] at hi; cases hi
  | some p =>
    cases e2 : r[i]? with
    | none => rw [e1, e2] at hi; cases hi
    | some q =>
      rw [e1, e2] at hi
      cases hi
      have h1 := hc p (List.mem_of_getElem? e1)
      have h2 := hr q (List.mem_of_getElem? e2)
      show 0 ≤ p + q
      omega
theorem addR_sum : ∀ {c r : List Int}, c.length = r.length → (addR c r).sum = c.sum + r.sum
  | [], [], _ => rfl
  | x :: c, y :: r, h => by
    have := addR_sum (c := c) (r := r) (by simpa using h)
    show (x + y) + (addR c r).sum = (x + c.sum) + (y + r.sum)
    omega
section
variable {n m : Nat} {S U : Nat → Nat → Nat → Nat}
theorem cur_start (rows : List (List Int)) (out : Int) (hn : 1 ≤ n) : curSt n rows out 0 [] (List.replicate m 0) = stSt n rows out := by
  funext g a
  unfold curSt stSt
  rw [if_neg (Nat.not_lt_zero g)]
  by_cases h : g = 0
  · subst h
    have hn0 : 0 < n := by omega
    simp only [if_pos hn0, if_true]
    have : cnt (List.replicate m (0 : Int)) a = 0 := by
      unfold cnt
      rw [List.getD_eq_getElem?_getD, List.getElem?_replicate]
      split <;> rfl
    rw [this]
    omega
  · rw [if_neg h]
    omega
theorem cur_step {rows : List (List Int)} {out : Int} {i : Nat} {told : List (List Int)} {c r c' r' : List Int} (hi : i < n) (hc : rows[i]? = some c) (hcl : c.length = m) (hrl : r.length = m) (hcn : NN c) (hrn : NN r) (ht : told.length = i) (M : Met n m S U i (addR c r) c' r') :
    Run n m S (outU n U) (curSt n rows out i told r) (curSt n rows out (i + 1) (told ++ [c']) r') := by
  have hgd : rows.getD i [] = c := by rw [List.getD_eq_getElem?_getD, hc]; rfl
  have e1 : curSt n rows out i told r = (fun g a => if g < i then cnt (told.getD g []) a else if g = i then 0 else if g < n then cnt (rows.getD g []) a else if g = n ∧ a = 0 then out.toNat else 0) + rowSt i (addR c r) := by
    funext g a
    simp only [add_at]
    unfold curSt rowSt
    by_cases h : g = i
    · subst h
      rw [if_neg (Nat.lt_irrefl _), if_pos hi, if_pos rfl, if_pos hi, if_neg (Nat.lt_irrefl _), if_pos rfl, if_pos rfl, hgd]
      unfold cnt
      rw [addR_get (by omega)]
      have := hcn.get a
      have := hrn.get a
      omega
    · rw [if_neg h, if_neg h, if_neg h]
  have e2 : curSt n rows out (i + 1) (told ++ [c']) r' = (fun g a => if g < i then cnt (told.getD g []) a else if g = i then 0 else if g < n then cnt (rows.getD g []) a else if g = n ∧ a = 0 then out.toNat else 0) + (rowSt i c' + upsSt n i r') := by
    funext g a
    simp only [add_at]
    unfold curSt rowSt upsSt
    by_cases h : g = i
    · subst h
      rw [if_pos (Nat.lt_succ_self _), if_neg (by omega : ¬ g = g + 1), if_neg (Nat.lt_irrefl _), if_pos rfl, if_pos rfl]
      have : (told ++ [c']).getD g [] = c' := by
        rw [List.getD_eq_getElem?_getD, List.getElem?_append_right (by omega), ht, Nat.sub_self]
        rfl
      rw [this]
      omega
    · rw [if_neg h, if_neg h]
      by_cases h2 : g < i
      · rw [if_pos (by omega : g < i + 1), if_pos h2, if_neg (by omega : ¬ g = i + 1)]
        have : (told ++ [c']).getD g [] = told.getD g [] := by
          rw [List.getD_eq_getElem?_getD, List.getElem?_append_left (by omega), List.getD_eq_getElem?_getD]
        rw [this]
      · rw [if_neg (by omega : ¬ g < i + 1), if_neg h2]
        omega
  rw [e1, e2]
  exact M.run.beside _
theorem cur_end {rows told : List (List Int)} {out : Int} {r : List Int} (hr : NN r) (ho : 0 ≤ out) : curSt n rows out n told r = stSt n told (out + r.sum) := by
  funext g a
  unfold curSt stSt
  by_cases h : g < n
  · rw [if_pos h, if_pos h, if_neg (by omega : ¬ g = n)]
    omega
  · rw [if_neg h, if_neg h, if_neg h]
    by_cases e : g = n
    · subst e
      rw [if_pos rfl, if_neg (Nat.lt_irrefl _)]
      have := hr.sum
      by_cases z : a = 0
      · rw [if_pos ⟨rfl, z⟩, if_pos z, if_pos ⟨rfl, z⟩]
        omega
      · rw [if_neg (fun q => z q.2), if_neg z, if_neg (fun q => z q.2)]
    · rw [if_neg e, if_neg (fun q => e q.1), if_neg (fun q => e q.1)]
end
end FmC
end FFmEnds
section FFmZipTM
set_option Elab.async false
set_option linter.all false
set_option maxRecDepth 100000
set_option maxHeartbeats 4000000
namespace Fm
open PySem PySem.Spec PyProof.Rows L2
/-! ### zip(a list, a tuple) -/
def ItzTM (K : PySem.W.Frag) (a b : Addr) : It :=
  ⟨fun i H => ∃ (xs ys : List V) (x y : V), SqT K H a xs ∧ SqL K H b ys ∧ xs[i]? = some x ∧ ys[i]? = some y,
    fun i H v H' => ∃ (T : Addr) (x y : V), v = .ref T ∧ H T = none ∧ H' = upd H T (.tup [x, y]) ∧ (∀ xs, SqT K H a xs → xs[i]? = some x) ∧ ∀ ys, SqL K H b ys → ys[i]? = some y,
    fun i H => ∃ xs ys : List V, SqT K H a xs ∧ SqL K H b ys ∧ i ≤ xs.length ∧ i ≤ ys.length ∧ (i = xs.length ∨ i = ys.length)⟩
abbrev h1TM (h : Heap) (a : Addr) : Heap := h.push { cls := .type "tuple_iterator", data := .fields #[.ref a, .int 0 0] }
abbrev h2TM (h : Heap) (a b : Addr) : Heap := (h1TM h a).push { cls := .type "list_iterator", data := .fields #[.ref b, .int 0 0] }
abbrev h3TM (h : Heap) (a b : Addr) : Heap := (h2TM h a b).push { cls := .type "tuple", data := .seq #[.ref h.objs.size, .ref (h1TM h a).objs.size] }
abbrev h4TM (h : Heap) (a b : Addr) : Heap := (h3TM h a b).push { cls := .type "tuple", data := .seq #[.none, .none] }
abbrev h5TM (h : Heap) (a b : Addr) : Heap := (h4TM h a b).push { cls := .type "zip", data := .fields #[.none, .bool false, .bool false, .ref (h2TM h a b).objs.size, .ref (h3TM h a b).objs.size] }
theorem meetsTM (a b : Addr) (xs ys : Array Value) : Meets (Builtin.«zip.__new__» ⟨[.type "zip", .ref a, .ref b], []⟩) (fun _ R s => s.heap.IsTuple a xs ∧ s.heap.IsList b ys ∧ R (.ok (.ret (.ref (h4TM s.heap a b).objs.size))) { s with heap := h5TM s.heap a b }) :=
  .of_wp fun prog w A R s h => by
    obtain ⟨hp, g, d, tk, os⟩ := s
    obtain ⟨ha, hb, h⟩ := h
    have sz := sub_zip
    have hA : Heap.IsTuple (Shared.heap ⟨hp, g, d, tk, os⟩) a xs := ha
    have hB : Heap.IsList (Shared.heap ⟨hp.push { cls := .type "tuple_iterator", data := .fields #[.ref a, .int 0 0] }, g, d, tk, os⟩) b ys := Heap.IsList.push hb _
    wp_walk using wpAny_pyIter_tuple hA, wpAny_pyIter_list hB
    exact ⟨_, rfl, h⟩
theorem callTM {prog : Program} {w : World} {A : Around} {E : Value → Shared → Prop} {s : Shared} {a b : Addr} {xs ys : Array Value} {Q : Value → Shared → Prop} (ha : s.heap.IsTuple a xs) (hb : s.heap.IsList b ys)
    (h : ∀ h', IsZip h' (s.heap.objs.size + 4) (s.heap.objs.size + 2) (s.heap.objs.size + 3) .none → IsPair h' (s.heap.objs.size + 2) (.ref s.heap.objs.size) (.ref (s.heap.objs.size + 1)) → IsPair h' (s.heap.objs.size + 3) .none .none →
      h'.IsTupleIter s.heap.objs.size a 0 → h'.IsListIter (s.heap.objs.size + 1) b 0 → (∀ c o, s.heap.get? c = some o → h'.get? c = some o) → Q (.ref (s.heap.objs.size + 4)) { s with heap := h' }) : wpAny (model prog w) A (call (.type "zip") [.ref a, .ref b]) Q E s := by
  refine callType_new F.called_zip (by decide) (F.typeCall_zip_2 _ _) (F.newCall_zip_2 _ _) (fun obj => F.args_object_init_3 obj _ _) F.entry_zip_new (meetsTM a b xs ys) ⟨ha, hb, ?_⟩
  have e1 : (h1TM s.heap a).objs.size = s.heap.objs.size + 1 := Heap.size_push ..
  have e2 : (h2TM s.heap a b).objs.size = s.heap.objs.size + 2 := by rw [Heap.size_push, e1]
  have e3 : (h3TM s.heap a b).objs.size = s.heap.objs.size + 3 := by rw [Heap.size_push, e2]
  have e4 : (h4TM s.heap a b).objs.size = s.heap.objs.size + 4 := by rw [Heap.size_push, e3]
  have f5 : (h5TM s.heap a b).get? (h4TM s.heap a b).objs.size = some _ := Heap.get?_push_size _ rfl
  have f4 : (h5TM s.heap a b).get? (h3TM s.heap a b).objs.size = some _ := Heap.get?_push_of_some _ (Heap.get?_push_size _ rfl)
  have f3 : (h5TM s.heap a b).get? (h2TM s.heap a b).objs.size = some _ := Heap.get?_push_of_some _ (Heap.get?_push_of_some _ (Heap.get?_push_size _ rfl))
  have f2 : (h5TM s.heap a b).get? (h1TM s.heap a).objs.size = some _ := Heap.get?_push_of_some _ (Heap.get?_push_of_some _ (Heap.get?_push_of_some _ (Heap.get?_push_size _ rfl)))
  have f1 : (h5TM s.heap a b).get? s.heap.objs.size = some _ := Heap.get?_push_of_some _ (Heap.get?_push_of_some _ (Heap.get?_push_of_some _ (Heap.get?_push_of_some _ (Heap.get?_push_size _ rfl))))
  rw [e2, e3, e4] at f5
  rw [e3] at f4
  rw [e1, e2] at f3
  rw [e1] at f2
  show _ ∧ _
  rw [e4]
  exact ⟨⟨_, f5, rfl⟩, h _ f5 f3 f4 ⟨_, f1, rfl, rfl⟩ ⟨_, f2, rfl, rfl⟩ fun c o x => Heap.get?_push_of_some _ (Heap.get?_push_of_some _ (Heap.get?_push_of_some _ (Heap.get?_push_of_some _ (Heap.get?_push_of_some _ x))))⟩
theorem turn_zipTM {P : Program} {w : World} {K : PySem.W.Frag} {elts : List Expr} {kk : Nat} {tpos : Pos} {a b z TI TO i1 i2 : Addr} (D : ZipApart z TI TO i1 i2 a b) :
    Turn P w K (.Tuple elts kk tpos) (ItzTM K a b) [z, TI, TO, i1, i2] z (fun i h => IsZip h z TI TO .none ∧ IsPair h TI (.ref i1) (.ref i2) ∧ (∃ x y, IsPair h TO x y) ∧ h.IsTupleIter i1 a i ∧ h.IsListIter i2 b i) := by
  have Sp : ZipSep2 z TI TO i1 i2 [i1, a] [i2, b] := ⟨D.TIz, D.TOz, D.TITO, D.TIi1, by simp, by simp [D.i1z.symm, D.l1z.symm], by simp [D.TOi1, D.l1TO.symm], D.TIi2, by simp, by simp [D.i2z.symm, D.l2z.symm], by simp [D.TOi2, D.l2TO.symm], by simp [D.i12, D.l2i1.symm], by simp [D.i12.symm, D.l1i2.symm]⟩
  exact {
    mem := by simp
    obj := fun i h st c hc => by
      obtain ⟨hz, hTI, ⟨x, y, hTO⟩, ⟨o1, e1, _, d1⟩, ⟨o2, e2, _, d2⟩⟩ := st
      simp only [List.mem_cons, List.not_mem_nil, or_false] at hc
      rcases hc with rfl | rfl | rfl | rfl | rfl
      · exact ⟨_, hz, fun v q => nomatch q⟩
      · exact ⟨_, hTI, fun v q => nomatch q⟩
      · exact ⟨_, hTO, fun v q => nomatch q⟩
      · exact ⟨o1, e1, fun v q => by rw [d1] at q; cases q⟩
      · exact ⟨o2, e2, fun v q => by rw [d2] at q; cases q⟩
    keep := fun i h h' st k => by
      obtain ⟨hz, hTI, ⟨x, y, hTO⟩, h1, h2⟩ := st
      exact ⟨k z (by simp) _ hz, k TI (by simp) _ hTI, ⟨x, y, k TO (by simp) _ hTO⟩, h1.at fun o q => k i1 (by simp) o q, h2.at fun o q => k i2 (by simp) o q⟩
    item := by
      intro X hP hw hK hc i pins s σ H E I hf st hg
      subst hP hw hK
      obtain ⟨hz, hTI, ⟨x0, y0, hTO⟩, h1, h2⟩ := st
      obtain ⟨xs, ys, x, y, qx, qy, hx, hy⟩ := hg
      obtain ⟨its2, rv2, pl, _⟩ := I.list qy
      obtain ⟨its, rv, ⟨o2, ho2, hc2, n2, hd2⟩, _⟩ := I.tuple qx
      have ht : s.heap.IsTuple a its.toArray := ⟨o2, ho2, hc2, n2, hd2⟩
      obtain ⟨u, hu, ru⟩ := rv.get hx
      obtain ⟨u2, hu2, ru2⟩ := rv2.get hy
      have lt1 : i < its.toArray.size := by
        rw [List.size_toArray, ← rv.length]
        exact (List.getElem?_eq_some_iff.mp hx).1
      have lt2 : i < its2.toArray.size := by
        rw [List.size_toArray, ← rv2.length]
        exact (List.getElem?_eq_some_iff.mp hy).1
      have hzl : z < s.heap.objs.size := Heap.lt_size hz
      refine wpAny_pyNext_zipD2_item Sp (Draws.tuple (prog := X.prog) (w := X.w) (A := X.A.in1) (show X.A.in1.handled = none from I.ok.hd hc) i1 a D.l1i1 its.toArray) (Draws.list (prog := X.prog) (w := X.w) (A := X.A.in1) (show X.A.in1.handled = none from I.ok.hd hc) i2 b D.l2i2 its2.toArray)
        hz hTI hTO ⟨h1, ht⟩ ⟨h2, pl.isList⟩ lt1 lt2 fun v1 v2 h' tk e1 e2 hz' hTO' st1 st2 hnew hsz hk => ?_
      have ev1 : v1 = u := by
        have q : its.toArray[i]? = some u := by simpa using hu
        exact (Option.some.inj (q.symm.trans e1)).symm
      have ev2 : v2 = u2 := by
        have q : its2.toArray[i]? = some u2 := by simpa using hu2
        exact (Option.some.inj (q.symm.trans e2)).symm
      subst ev1 ev2
      refine ⟨_, rfl, wpAny_letOwnedTupleGo_zip (s := { s with heap := h', toks := tk }) hz' fun h3 hz3 sb => ?_⟩
      have hT3 : h3.get? s.heap.objs.size = some { cls := .type "tuple", data := .seq #[v1, v2] } := (sb.2 _ (Nat.ne_of_gt hzl)).trans hnew
      have new : ObjOk X.prog X.w (upd H s.heap.objs.size (.tup [x, y])) h3 s.heap.objs.size (.tup [x, y]) := ⟨show 2 ≤ sizeLine by decide, [v1, v2], .cons ru (.cons ru2 .nil), _, hT3, rfl, _, rfl⟩
      have old : ∀ c ob, c ∉ [z, TI, TO, i1, i2] → s.heap.get? c = some ob → h3.get? c = some ob := fun c ob hb q => by
        simp only [List.mem_cons, List.not_mem_nil, or_false, not_or] at hb
        exact (sb.2 c hb.1).trans (hk c ob hb.1 hb.2.2.1 hb.2.2.2.1 hb.2.2.2.2 q)
      have I1 := I.turnedNew (t' := tk) (ch := [z, TI, TO, i1, i2]) old hf (Nat.le_refl _) new
      refine ⟨.ref s.heap.objs.size, _, I1, rfl, ⟨_, x, y, rfl, I.hok.fresh (Nat.le_refl _), rfl, fun l hl => by rw [I.tuple_inj hl qx]; exact hx, fun l hl => by rw [I.list_inj hl qy]; exact hy⟩, ⟨hz3, ?_, ⟨_, _, (sb.2 _ D.TOz).trans hTO'⟩, st1.1.at fun ob q => (sb.2 i1 D.i1z).trans q, st2.1.at fun ob q => (sb.2 i2 D.i2z).trans q⟩, fun c hcm => ?_⟩
      · exact (sb.2 _ D.TIz).trans (hk _ _ D.TIz D.TITO D.TIi1 D.TIi2 hTI)
      · have lt : c < s.heap.objs.size := by
          have q := hcm
          simp only [List.mem_cons, List.not_mem_nil, or_false] at q
          rcases q with rfl | rfl | rfl | rfl | rfl
          · exact hzl
          · exact Heap.lt_size hTI
          · exact Heap.lt_size hTO
          · obtain ⟨_, q, _⟩ := h1; exact Heap.lt_size q
          · obtain ⟨_, q, _⟩ := h2; exact Heap.lt_size q
        rw [upd_ne (Nat.ne_of_lt lt)]
        exact (hf c hcm).1
    done := by
      intro X hP hw hK hc i pins s σ H E I hf st hg
      subst hP hw hK
      obtain ⟨hz, hTI, ⟨x0, y0, hTO⟩, h1, h2⟩ := st
      obtain ⟨xs, ys, qx, qy, l1, l2, hend⟩ := hg
      obtain ⟨its2, rv2, pl, _⟩ := I.list qy
      obtain ⟨its, rv, ⟨o2, ho2, hc2, n2, hd2⟩, _⟩ := I.tuple qx
      have ht : s.heap.IsTuple a its.toArray := ⟨o2, ho2, hc2, n2, hd2⟩
      have z1 : its.toArray.size = xs.length := by rw [List.size_toArray, rv.length]
      have z2 : its2.toArray.size = ys.length := by rw [List.size_toArray, rv2.length]
      refine wpAny_pyNext_zipD2_end Sp (Draws.tuple (prog := X.prog) (w := X.w) (A := X.A.in1) (show X.A.in1.handled = none from I.ok.hd hc) i1 a D.l1i1 its.toArray) (Draws.list (prog := X.prog) (w := X.w) (A := X.A.in1) (show X.A.in1.handled = none from I.ok.hd hc) i2 b D.l2i2 its2.toArray)
        hz hTI hTO ⟨h1, ht⟩ ⟨h2, pl.isList⟩ (by omega) (by omega) (by omega) fun h' tk hk => ⟨rfl, I.turnedL (t' := tk) (ch := [z, TI, TO, i1, i2]) (fun c o hb q => ?_) hf⟩
      simp only [List.mem_cons, List.not_mem_nil, or_false, not_or] at hb
      exact hk c o hb.1 hb.2.2.1 hb.2.2.2.1 hb.2.2.2.2 q
    self := fun A i s Q E st h => wpAny_pyIter_zip st.1 h }
def iZipTM (K : PySem.W.Frag) (ta : TA) : TI := fun σ H R => ta σ H fun vs H1 => ∃ (a b : Addr) (xs ys : List V), vs = [.ref a, .ref b] ∧ SqT K H1 a xs ∧ SqL K H1 b ys ∧ R (ItzTM K a b) H1
theorem pi_zipTM {X : Cx} {e e2 : Expr} {ta : TA} {p pos tpos : Pos} {elts : List Expr} {kk : Nat} (hg : Gl X "zip") (hm : X.mg "zip" = none) (ha : PA X [e, e2] ta)
    (hs : starEach [e, e2] X.env = (false, eval e X.env) :: starEach [e2] X.env := by rfl) (hpl : (backTo pos (starEach [e2] X.env)).any (·.1) = false := by rfl) : PI X (.Tuple elts kk tpos) (.Call (.Name "zip" p) [e, e2] [] pos) (iZipTM X.K ta) := by
  refine ⟨fun pins s σ H R I h => Call_ (ld_blt I hg hm PyProof.Rows.boot_zip (PyProof.Rows.callWith_type1 (thn (ha.run pos pins s σ H _ I h) fun us s1 ⟨vs, H1, I1, r1, a, b, xs, ys, ex, qx, qy, q⟩ => ?_) hs hpl))⟩
  subst ex
  obtain ⟨w1, w2, rfl, ra, rb⟩ := vals2 r1
  cases ra
  cases rb
  obtain ⟨its2, rv2, pl, _⟩ := I1.list qy
  obtain ⟨its, rv, ⟨o2, ho2, hc2, n2, hd2⟩, _⟩ := I1.tuple qx
  have ht : s1.heap.IsTuple a its.toArray := ⟨o2, ho2, hc2, n2, hd2⟩
  refine callTM ht pl.isList fun h' hz hTI hTO h1 h2 hk => wpAny_pyIter_zip hz ?_
  have I2 : Inv X pins σ H1 { s1 with heap := h' } := I1.kept (t' := s1.toks) hk
  refine ⟨s1.heap.objs.size + 4, [s1.heap.objs.size + 4, s1.heap.objs.size + 2, s1.heap.objs.size + 3, s1.heap.objs.size, s1.heap.objs.size + 1], _, _, H1, rfl, I2, turn_zipTM (PySem.W.ktu_apart s1.heap.objs.size a b (Heap.lt_size ho2) pl.lt), ⟨hz, hTI, ⟨_, _, hTO⟩, h1, h2⟩, fun c hc => ?_, q⟩
  have le : s1.heap.objs.size ≤ c := by
    simp only [List.mem_cons, List.not_mem_nil, or_false] at hc
    rcases hc with rfl | rfl | rfl | rfl | rfl
    · exact Nat.le_add_right _ _
    · exact Nat.le_add_right _ _
    · exact Nat.le_add_right _ _
    · exact Nat.le_refl _
    · exact Nat.le_add_right _ _
  exact I1.fpOk le (I1.hok.fresh le)
theorem walk_zipTM {K : PySem.W.Frag} {a b : Addr} {xs ys : List V} (hl : xs.length = ys.length) : Walk (ItzTM K a b) xs.length (fun H => SqT K H a xs ∧ SqL K H b ys) (YPair (fun i => xs[i]?) (fun i => ys[i]?)) := by
  refine ⟨fun i H hi q => ⟨xs, ys, xs[i], ys[i]'(by omega), q.1, q.2, List.getElem?_eq_getElem hi, List.getElem?_eq_getElem _⟩, fun H q => ⟨xs, ys, q.1, q.2, Nat.le_refl _, by omega, .inl rfl⟩, fun i H v H' hi q y => ?_⟩
  obtain ⟨T, x, y, h1, h2, h3, h4, h5⟩ := y
  exact ⟨T, x, y, h1, h2, h3, h4 xs q.1, h5 ys q.2⟩
end Fm
end FFmZipTM
section FEO
set_option Elab.async false
set_option linter.all false
set_option maxRecDepth 100000
set_option maxHeartbeats 4000000
local macro_rules | `(tactic| walk_at "ne") => `(tactic| first | assumption | (apply Ne.symm; assumption) | exact L2.ne_of_none (by assumption) (by assumption) | exact Ne.symm (L2.ne_of_none (by assumption) (by assumption)))
local macro_rules | `(tactic| walk_at "hl") => `(tactic| first | assumption | exact L2.upd_same | (refine Eq.trans (L2.upd_ne (by walk_at "ne")) ?_; walk_at "hl"))
local macro_rules | `(tactic| walk_at "sd") => `(tactic| first | (with_reducible show (_ : Int) < _; omega) | (with_reducible show (_ : Int) ≤ _; omega) | assumption | decide | exact ⟨by assumption, by assumption⟩ | exact ⟨by decide, by decide⟩ | exact Or.inr ⟨by decide, by decide⟩ | exact Or.inl ⟨by omega, by omega⟩ | rfl)
local macro_rules | `(tactic| walk_at "st1") => `(tactic| first
  | refine ⟨_, rfl, ?_⟩
  | refine ⟨_, _, rfl, rfl, ?_⟩
  | refine ⟨_, _, rfl, ?_⟩
  | (refine ⟨_, _, _, _, rfl, rfl, L2.SqL.of (by walk_at "hl"), rfl, ?_⟩)
  | (refine ⟨_, _, _, _, rfl, rfl, L2.SqT.of (by walk_at "hl"), rfl, ?_⟩)
  | (refine ⟨_, _, _, _, rfl, rfl, (by walk_at "hl"), rfl, ?_⟩)
  | (refine And.intro (by walk_at "sd") ?_)
  )
local macro_rules | `(tactic| walk_at "st") => `(tactic| repeat walk_at "st1")
local macro_rules | `(tactic| walk_at "op") => `(tactic| try dsimp only [L2.tSeq, L2.tAsg, L2.tOp, L2.tVar, L2.tC, L2.gSub, L2.rI, L2.rI0, L2.rIxL, L2.rIxT, L2.rSetL, L2.tIfS, L2.tTest, L2.tRet, L2.gName, L2.tNext, L2.tAnd, L2.tOr, L2.tNot, L2.tAndV, L2.tOrV, L2.tNotV, L2.tB, L2.tCB, L2.tCons, L2.tNil, L2.tCall, L2.tTup, L2.tLst, L2.tChain, L2.tUn, L2.tPar, L2.tDrop, L2.tIf, L2.tBM, L2.tBM0, L2.rAppend, L2.rCat, L2.rIsi, L2.rIsiT, L2.gTup, L2.gCons, L2.gNil, Fm.tFor_eq, Fm.tLc_eq, Fm.tLc2_eq, L2.iTup, L2.iList, L2.iRng1, L2.iRng2, L2.tSl, L2.tPart, L2.tNoPart, L2.rSlL, L2.rEq, L2.rNe, L2.rU, L2.rEqD, L2.rNeD, Fm.tRevT, Fm.rLenS, Fm.rTupOf, Fm.rLstOf, L2.tDNewK, L2.tCallS, L2.WE, Fm.wKeep, Fm.rIsK, Fm.rIsKT, List.cons_append, List.nil_append, L2.tYes])
namespace Fm
open PySem PySem.Spec PyProof.Rows L2
abbrev s_end_of : Stmt := top 33
abbrev N_end_of : List Str := ["house", "standing", "rows", "rising", "tables", "counts", "here", "many", "more"]
theorem sc_end_of : FnScope N_end_of ["house", "standing"] (defScope s_end_of) := ⟨rfl, rfl, rfl, by decide +kernel, rfl, by decide +kernel, by decide +kernel⟩
section
variable {P : Program} {w : World} {K : PySem.W.Frag} {mg : Str → Option Value} {base : Heap}
/-! ### the end -/
theorem tk_snoc {α : Type} {l : List α} {i : Nat} {x : α} (h : l[i]? = some x) : l.take (i + 1) = l.take i ++ [x] := by rw [List.take_add_one, h]; rfl
theorem e36 : (10 : Int) ^ 36 = 1000000000000000000000000000000000000 := by decide
theorem e40 : (10 : Int) ^ 40 = 10000000000000000000000000000000000000000 := by decide
theorem noList_ints' (r : List Int) : noList (rowD r) = true := noList_of fun e he => by
  obtain ⟨n, _, rfl⟩ := List.mem_map.mp he
  unfold noList
  rfl
theorem tabs_of {fs : List PyData} {m n : Nat} (hN : HouseN m n (.tuple fs)) (hgo : goLt fs m n) : FmC.Tabs n m (goN fs 0) (goN fs 1) := by
  obtain ⟨_, _, _, _, _, h1, _⟩ := id hN
  exact ⟨h1, fun f a b hf ha hb => goN_comm hN hf (by decide) ha hb, fun f a b hf ha hb => goN_comm hN hf (by decide) ha hb, fun f a b hf ha hb => hgo 0 (by decide) f hf a b ha hb, fun f a b hf ha hb => hgo 1 (by decide) f hf a b ha hb⟩
theorem stay_len {H : Hp} {ph : Addr} {fs : List PyData} {m n f : Nat} {ah af t0 t1 : Addr} {hs : List V} {S U : Nat → Nat → Nat} (hD : Dat H ph (.ref ah) (.tuple fs)) (hN : HouseN m n (.tuple fs)) (hf : f < n) (g1 : H ah = some (.tup hs)) (g3 : hs[f]? = some (V.ref af)) (hF : FloorAt H af m S U t0 t1) :
    ∃ ss : List V, H t0 = some (.tup ss) ∧ ss.length = m := by
  obtain ⟨fs', e, hl, _, _, _, _, hFl⟩ := id hN
  cases e
  have hfl : f < fs.length := by omega
  obtain ⟨sd, ud, e1, ⟨rs, e2, l2, _⟩, _⟩ := hFl fs[f] (List.getElem_mem hfl)
  subst e2
  obtain ⟨ah', hs', e', hah', _, hh⟩ := hD.isTup
  cases e'
  rw [g1] at hah'
  cases hah'
  obtain ⟨x, hx, hdx⟩ := hh.back (i := f) (d := fs[f]) (List.getElem?_eq_getElem _)
  rw [g3] at hx
  cases hx
  rw [e1] at hdx
  obtain ⟨af', ys, e3, haf, _, hy⟩ := hdx.isTup
  cases e3
  rw [hF.at_] at haf
  cases haf
  obtain ⟨s0, ss, e4, hs0, _, hss⟩ := (hy.2 0 _ _ rfl rfl).isTup
  cases e4
  exact ⟨ss, hs0, by rw [hss.1, l2]⟩
/-- what end_of tells: rows at rest to which a run leads -/
structure EndOf (fs : List PyData) (m n : Nat) (rows : List (List Int)) (out : Int) (rows' : List (List Int)) (out' : Int) : Prop where
  len : rows'.length = n
  row : ∀ r ∈ rows', r.length = m ∧ FmC.NN r ∧ r.sum ≤ 1
  pos : 0 ≤ out'
  run : FmC.Run n m (goN fs 0) (FmC.outU n (goN fs 1)) (FmC.stSt n rows out) (FmC.stSt n rows' out')
def spEndOf : Sp := fun vs H Q _ => ∃ (hv sv : V) (p ph : Addr) (u : HO) (fs : List PyData) (m n : Nat) (rows : List (List Int)) (out : Int), vs = [hv, sv] ∧ H p = some u ∧ Dat H ph hv (.tuple fs) ∧ HouseN m n (.tuple fs) ∧ FairH fs m n ∧ Dat H p sv (stD rows out) ∧ rows.length = n ∧ StOk m rows out ∧ (∀ r ∈ rows, r.sum < 10 ^ 36) ∧
  ∀ v H' rows' out', EndOf fs m n rows out rows' out' → Dat H' p v (stD rows' out') → Same H H' → Q v H'
theorem ok_end_of (D : Df K mg "end_of" s_end_of ["house", "standing"]) (T : Nms mg) (c_check_fair : CallOk P w K mg base (L2.CX P w) 8 "check_fair" ["house"] spLeast) (c_check_standing : CallOk P w K mg base (L2.CX P w) 7 "check_standing" ["house", "standing"] spCheck)
    (c_meet_all : CallOk P w K mg base CX0 1 "meet_all" ["tables", "here"] spMeetAll) : CallOk P w K mg base CX0 9 "end_of" ["house", "standing"] spEndOf := by
  refine df_ok D sc_end_of (fun vs H Q E h => ?_) (fun f cdv A outer s H vs Q E hr h => ?_)
  · obtain ⟨hv, sv, p, ph, u, fs, m, n, rows, out, rfl, _⟩ := h
    rfl
  · obtain ⟨hv, sv, p, ph, u, fs, m, n, rows, out, rfl, hp, hD, hN, hT, sD, hl, ok, hbig, k⟩ := h
    have nd := sc_end_of.nd
    have hmn : 1 ≤ n ∧ n ≤ 4 ∧ 1 ≤ m ∧ m ≤ 6 := by
      obtain ⟨_, _, _, z1, z2, z3, z4, _⟩ := hN
      exact ⟨z1, z2, z3, z4⟩
    have B := tabs_of hN (goLt_of hD hN)
    obtain ⟨sa, xs, rfl, hsa, nsp, hx⟩ := st_parts sD
    refine ⟨_, (pss_cons (ps_expr (pe_cx c_check_fair (hr.mono (by omega)) (pa_cons (pv 0) pa_nil)))
      (pss_cons (ps_expr (pe_cx c_check_standing (hr.mono (by omega)) (pa_cons (pv 0) (pa_cons (pv 1) pa_nil))))
      (pss_cons (ps_set (i := 2) nd rfl (Or.inl rfl) (pe_lst pa_nil))
      (pss_cons (ps_set (i := 3) nd rfl (Or.inl rfl) (pe_op op_rep (pe_lst (pa_cons pe_int pa_nil)) (pe_callB (r := rLenS K) call_lenS (by rfl) T.n_len (by decide +kernel) (pa_cons (pe_ix (r := rIxT K) ix_tup (pv 1) pe_int (fun _ _ => rfl)) pa_nil))))
      (pss_cons (ps_for PassesOwn.never rfl (RZ.pi_zipA (by rfl) T.n_zip (pa_cons (pv 0) (pa_cons (pe_slice (r := rSlA K) sl_tupA (pv 1) po_none (po_some (pe_un un_neg pe_int))) pa_nil))) (pg_tup rfl (pgs_cons (pg_name (i := 4) nd rfl (Or.inl rfl)) (pgs_cons (pg_name (i := 5) nd rfl (Or.inl rfl)) pgs_nil))) (pss_cons (ps_setLc (i := 6) (own := [("many", 7), ("more", 8)]) (g := (gTup K 2 (gCons (gName 7) (gCons (gName 8) gNil)))) (tt := tYes) (by rfl) nd rfl rfl (sw_true rfl rfl rfl (by decide +kernel)) (pi_zipTM (by rfl) T.n_zip (pa_cons (pv 5) (pa_cons (pv 3) pa_nil))) (blkOk_by (own := [("many", 7), ("more", 8)]) (N := N_end_of) (sc := defScope s_end_of) (by decide +kernel)) (fun _ _ _ _ _ => (pg_tup rfl (pgs_cons (pg_name (i := 7) nd rfl (Or.inl rfl)) (pgs_cons (pg_name (i := 8) nd rfl (Or.inl rfl)) pgs_nil)))) (fun _ _ _ _ _ => pts_nil) (fun _ _ _ _ _ => (pe_op op_add (pv 7) (pv 8))))
      (pss_cons (ps_set (i := 3) nd rfl (Or.inl rfl) (pe_cc c_meet_all (hr.mono (by omega)) (pa_cons (pv 4) (pa_cons (pv 6) pa_nil))))
      (pss_one (ps_expr (pe_bm PySem.F.plainAttrs_list PySem.F.slot_list_append PySem.F.type_list_append mt_append (pv 2) (pa_cons (pe_callTy (r := rTupOf K) call_tupOf (by rfl) T.n_tuple (by decide +kernel) (pa_cons (pv 6) pa_nil)) pa_nil)))))))
      (pss_one (ps_ret (pe_op (r := rCatA K) op_catA (pe_callTy (r := rTupOf K) call_tupOf (by rfl) T.n_tuple (by decide +kernel) (pa_cons (pv 2) pa_nil)) (pe_tup (pa_cons (pe_op op_add (pe_ix (r := rIxT K) ix_tup (pv 1) (pe_un un_neg pe_int) (fun _ _ => rfl)) (pe_callB (r := rSumI K) (cr_sumI rfl) (by rfl) T.n_sum (by decide +kernel) (pa_cons (pv 3) pa_nil))) pa_nil)))))))))), ?_⟩
    walk_at "op"
    refine ⟨_, rfl, hv, p, ph, u, fs, m, n, rfl, hp, hD, hN, hT, fun G0 s0 => ?_⟩
    refine ⟨_, rfl, _, rfl, hv, .ref sa, ph, p, .tuple fs, m, n, rows, out, rfl, hD.same s0, hN, sD.same s0, hl, ok, fun G1 s1 => ?_⟩
    have s01 := s0.trans s1
    obtain ⟨ah, hs, rfl, hah, _, hh⟩ := id hD.isTup
    have hhl : hs.length = n := by
      rw [hh.1]
      obtain ⟨_, e, z, _⟩ := hN
      cases e
      exact z
    have hxl : xs.length = n := by rw [hx.1, List.length_map, hl]
    have hr0 : rows[0]? = some (rows[0]'(by omega)) := List.getElem?_eq_getElem _
    obtain ⟨x0, hx0, hdx0⟩ := hx.back (i := 0) (d := rowD (rows[0]'(by omega))) (by rw [List.getElem?_map, hr0]; rfl)
    obtain ⟨c0, rfl, hc0, _⟩ := row_parts hdx0
    have hl0 : (rows[0]'(by omega)).length = m := ok.len _ (List.getElem_mem _)
    refine ⟨Nat.zero_le _, fun R0 hR0 => ⟨by show 1 ≤ sizeLine; decide, fun z0 hz0 => ?_⟩⟩
    have s2 : Same G1 (upd (upd G1 R0 (.lst [])) z0 (.lst [V.int 0])) := (same_new hR0).trans (same_new hz0)
    have s02 := s01.trans s2
    have hR0H := sameFree s01 hR0
    have nR0z : R0 ≠ z0 := ne_of_none upd_same hz0
    refine ⟨_, rfl, sa, xs ++ [.int out], 0, .ref c0, rfl, rfl, SqT.of (s02 _ _ hsa), atI_nat (j := 0) (by rw [List.getElem?_append_left (by omega)]; exact hx0), c0, _, rfl, .inr (SqT.of (s02 _ _ hc0)), z0, _, _, rfl, rfl, upd_same, by omega, by rw [List.length_map, hl0]; omega, by rw [sizeLine_eq, List.length_map, hl0]; show 1 * _ ≤ _; omega, fun R1 hR1 => ?_⟩
    rw [List.length_map, hl0, rep_zero]
    have nR01 : R0 ≠ R1 := ne_of_none (by rw [upd_ne nR0z]; exact upd_same) hR1
    have s3 := s02.trans (same_new (o := .lst ((List.replicate m (0 : Int)).map V.int)) hR1)
    have hRR0 : upd (upd (upd G1 R0 (.lst [])) z0 (.lst [V.int 0])) R1 (.lst ((List.replicate m (0 : Int)).map V.int)) R0 = some (.lst []) := by rw [upd_ne nR01, upd_ne nR0z]; exact upd_same
    have hRR1 : upd (upd (upd G1 R0 (.lst [])) z0 (.lst [V.int 0])) R1 (.lst ((List.replicate m (0 : Int)).map V.int)) R1 = some (.lst ((List.replicate m (0 : Int)).map V.int)) := upd_same
    generalize upd (upd (upd G1 R0 (.lst [])) z0 (.lst [V.int 0])) R1 (.lst ((List.replicate m (0 : Int)).map V.int)) = G2 at *
    walk_at "op"
    walk_at "st"
    refine sl_init (SqT.of (s3 _ _ hsa)) fun q hq => ?_
    have sq := same_new (o := .tup xs) hq
    have nqR0 : q ≠ R0 := (ne_of_none hRR0 hq).symm
    have hqH := sameFree s3 hq
    have s4 := s3.trans sq
    have hqq : upd G2 q (.tup xs) q = some (.tup xs) := upd_same
    have hRR0 := sq _ _ hRR0
    have hRR1 := sq _ _ hRR1
    generalize upd G2 q (.tup xs) = G3 at *
    refine ⟨ah, q, hs, xs, rfl, .inr ⟨SqT.of (s4 _ _ hah), SqT.of hqq, ?_⟩⟩
    have z0 : ∀ k, (List.replicate k (0 : Int)).sum = 0 := fun k => by
      induction k with
      | zero => rfl
      | succ k ih => rw [List.replicate_succ, List.sum_cons, ih]; rfl
    refine fI (walk_zipT (by rw [hhl, hxl])) (fun i σ G => ∃ (u4 u5 u6 : Option V) (Rr : Addr) (tws : List V) (told : List (List Int)) (r : List Int), σ = [some (.ref ah), some (.ref sa), some (.ref R0), some (.ref Rr), u4, u5, u6, none, none] ∧ Same H G ∧ G q = some (.tup xs) ∧ G R0 = some (.lst tws) ∧ Dats G p tws (told.map rowD) ∧ told.length = i ∧ G Rr = some (.lst (r.map V.int)) ∧ Rr ≠ R0 ∧ r.length = m ∧ FmC.NN r ∧ r.sum ≤ i * 10 ^ 36 ∧
        (∀ t ∈ told, t.length = m ∧ FmC.NN t ∧ t.sum ≤ 1) ∧ FmC.Run n m (goN fs 0) (FmC.outU n (goN fs 1)) (FmC.stSt n rows out) (FmC.curSt n rows out i told r))
      ⟨none, none, none, R1, [], [], List.replicate m 0, rfl, s4, hqq, hRR0, Dats.nil, rfl, hRR1, nR01.symm, List.length_replicate, fun x hx => by rw [List.eq_of_mem_replicate hx]; exact Int.le_refl _, by rw [z0]; omega, fun t ht => (by cases ht), by rw [FmC.cur_start rows out hmn.1]; exact .nil _⟩
      (fun i σ G _ ⟨_, _, _, _, _, _, _, _, e, e2, _⟩ => ⟨SqT.of (e _ _ hah), SqT.of e2⟩) ?_ ?_
    · rintro i x σ G4 _ hi ⟨u4, u5, u6, Rr, tws, told, r, rfl, sH, hq4, hR04, hdt, htl, hRr, nRr, hrl, hrn, hrs, htold, hrun⟩ ⟨T1, y1, y2, rfl, hT1, rfl, g1, g2⟩
      dsimp only at g1 g2
      rw [hhl] at hi
      obtain ⟨ah', af, hs', t0, t1, e', gg1, gg2, gg3, hF⟩ := floor_at hD hN hi
      cases e'
      rw [hah] at gg1
      cases gg1
      rw [gg3] at g1
      cases g1
      obtain ⟨ss, hss, hsl⟩ := stay_len hD hN hi hah gg3 hF
      have hri : rows[i]? = some (rows[i]'(by omega)) := List.getElem?_eq_getElem _
      obtain ⟨d, hd1, hd2⟩ := hx.at g2
      rw [List.getElem?_map, hri] at hd1
      cases hd1
      obtain ⟨cb, rfl, hcb, _⟩ := row_parts hd2
      have hcm : rows[i]'(by omega) ∈ rows := List.getElem_mem _
      have hcl := ok.len _ hcm
      have hcn : FmC.NN (rows[i]'(by omega)) := ok.pos _ hcm
      have hcs := hbig _ hcm
      generalize rows[i]'(by omega) = c at *
      have sT := same_new (o := .tup [V.ref af, .ref cb]) hT1
      refine ⟨T1, _, rfl, SqT.of upd_same, rfl, _, _, rfl, _, _, rfl, rfl, ?_⟩
      have sHT := sH.trans sT
      have hq5 := sT _ _ hq4
      have hR05 := sT _ _ hR04
      have hRr5 := sT _ _ hRr
      have hdt5 : Dats (upd G4 T1 (.tup [V.ref af, .ref cb])) p tws (told.map rowD) := hdt.off hT1
      generalize upd G4 T1 (.tup [V.ref af, .ref cb]) = G5 at *
      have hlen : (c.map V.int).length = (r.map V.int).length := by rw [List.length_map, List.length_map, hcl, hrl]
      have hal := FmC.addR_len hcl hrl
      walk_at "op"
      refine ⟨_, rfl, _, rfl, cb, Rr, c.map V.int, r.map V.int, rfl, SqT.of (sHT _ _ hcb), SqL.of hRr5, fun Hr hHr => ?_⟩
      refine lI (walk_zipTM hlen) (fun j G6 => Same G5 G6 ∧ G6 Hr = some (.lst (((FmC.addR c r).take j).map V.int))) ⟨same_new hHr, upd_same⟩ (fun j G6 _ ⟨e, _⟩ => ⟨SqT.of (e _ _ (sHT _ _ hcb)), SqL.of (e _ _ hRr5)⟩) ?_ ?_
      · rintro j x G6 _ hj ⟨s6, hH6⟩ ⟨T2, w1, w2, rfl, hT2, rfl, k1, k2⟩
        dsimp only at k1 k2
        have hjc : j < c.length := by rw [List.length_map] at hj; exact hj
        rw [getD_at hjc] at k1
        cases k1
        rw [getD_at (by omega)] at k2
        cases k2
        have nHT : Hr ≠ T2 := ne_of_none hH6 hT2
        have hga : (FmC.addR c r)[j]? = some (c.getD j 0 + r.getD j 0) := by
          have := FmC.addR_get (by omega : c.length = r.length) j
          rw [← this, List.getD_eq_getElem?_getD, List.getElem?_eq_getElem (by omega)]
          rfl
        walk_at "op"
        refine ⟨T2, _, rfl, SqT.of upd_same, rfl, _, _, rfl, _, _, rfl, rfl, ?_⟩
        refine ⟨rfl, ?_⟩
        refine iteT ?_
        refine ⟨_, rfl, _, rfl, _, _, rfl, rfl, _, by rw [upd_ne nHT]; exact hH6, by rw [List.length_map, List.length_take]; exact Nat.lt_of_le_of_lt (Nat.min_le_left _ _) (by rw [sizeLine_eq]; omega), sameOff (s6.trans (same_new hT2)) hHr, ?_⟩
        rw [upd_same, tk_snoc hga, List.map_append]
        rfl
      · rintro G6 ⟨s6, hH6⟩
        rw [List.length_map, hcl, ← hal, List.take_length] at hH6
        have sH6 := sHT.trans s6
        have hHrH := sameFree sHT hHr
        walk_at "op"
        refine ⟨_, rfl, _, rfl, af, t0, t1, Hr, ss, n, m, i, goN fs 0, goN fs 1, FmC.addR c r, rfl, hF.same sH6, sH6 _ _ hss, hsl, hi, B, hmn.2.2.2, hH6, hal, FmC.addR_nn hcn hrn, ?_, fun R' c' r' G7 M hc1 hR' hL7 hR7 x7 => ?_⟩
        · rw [FmC.addR_sum (by omega), e40]
          rw [e36] at hrs hcs
          omega
        · have s57 : Same G5 G7 := fun b u eb => x7 b u (s6 b u eb) (ne_of_none eb hHr)
          have sH7 := sHT.trans s57
          have hR07 := s57 _ _ hR05
          have hq7 := s57 _ _ hq5
          have hR'5 := sameFree s6 hR'
          have nR'0 : R' ≠ R0 := (ne_of_none hR05 hR'5).symm
          have hdt7 : Dats G7 p tws (told.map rowD) := ⟨hdt5.1, fun i x d a b => (hdt5.2 i x d a b).same s57⟩
          refine ⟨_, rfl, .inl ⟨rfl, _, SqL.of hR07⟩, _, rfl, Hr, c'.map V.int, rfl, .inl ⟨SqL.of hL7, fun l hl => ?_⟩⟩
          have sl := same_new (o := .tup (c'.map V.int)) hl
          have hR08 := sl _ _ hR07
          have hlt : tws.length ≤ 4 := by
            rw [hdt5.1, List.length_map]
            omega
          refine ⟨R0, tws, .ref l, rfl, rfl, hR08, Nat.lt_of_le_of_lt hlt (by rw [sizeLine_eq]; omega), ?_⟩
          have nqR : q ≠ R0 := nqR0
          have hs := M.sum
          rw [FmC.addR_sum (by omega)] at hs
          have hc0 := M.cn.sum
          refine ⟨_, _, _, R', tws ++ [.ref l], told ++ [c'], r', rfl, sameOff (sH7.trans sl) hR0H, by rw [upd_ne nqR]; exact sl _ _ hq7, upd_same, ?_, by rw [List.length_append, htl]; rfl, by rw [upd_ne nR'0]; exact sl _ _ hR7, nR'0, M.rl, M.rn, ?_, fun t ht => ?_, hrun.trans (FmC.cur_step hi hri hcl hrl hcn hrn htl M)⟩
          · rw [List.map_append]
            refine ((hdt7.off hl).setL hR08 (fun d hd => by obtain ⟨r, _, rfl⟩ := List.mem_map.mp hd; exact noList_ints' r)).snoc (Dat.setL hR08 (.tup upd_same (pne_of hp sH7 hl) (by rw [List.length_map, List.length_map]) fun i x d a b => (Dats.ints (p := p) c').2 i x d a b) (noList_ints' c'))
          · rw [e36] at hrs hcs ⊢
            omega
          · rcases List.mem_append.mp ht with ht | ht
            · exact htold t ht
            · rw [List.mem_singleton.mp ht]
              exact ⟨M.cl, M.cn, hc1⟩
    · rintro σ G4 ⟨u4, u5, u6, Rr, tws, told, r, rfl, sH, hq4, hR04, hdt, htl, hRr, nRr, hrl, hrn, hrs, htold, hrun⟩
      rw [hhl] at htl hrun
      walk_at "op"
      have hlt : tws.length = n := by rw [hdt.1, List.length_map, htl]
      refine ⟨_, rfl, R0, tws, rfl, .inl ⟨SqL.of hR04, fun t1 ht1 => ?_⟩⟩
      have st1 := same_new (o := .tup tws) ht1
      refine ⟨_, rfl, 1, rfl, sa, _, _, _, rfl, rfl, SqT.of ((sH.trans st1) _ _ hsa), atI_last (by omega), _, rfl, .inl ⟨Rr, r, rfl, SqL.of (st1 _ _ hRr), ?_⟩⟩
      refine ⟨_, _, rfl, rfl, by show 1 ≤ sizeLine; decide, fun t2 ht2 => ?_⟩
      have n12 : t1 ≠ t2 := ne_of_none upd_same ht2
      have s6 : Same H (upd (upd G4 t1 (.tup tws)) t2 (.tup [.int (out + r.sum)])) := (sH.trans st1).trans (same_new ht2)
      refine ⟨t1, t2, tws, _, rfl, rfl, SqT.of (by rw [upd_ne n12]; exact upd_same), SqT.of upd_same, Nat.le_of_lt (Nat.lt_of_le_of_lt (show tws.length + 1 ≤ 5 by omega) (by rw [sizeLine_eq]; omega)), fun e => ?_, fun _ e => (by cases e), fun _ _ w hw => ?_⟩
      · rw [e] at hlt
        have : ([] : List V).length = 0 := rfl
        omega
      · refine k _ _ told (out + r.sum) ⟨htl, htold, ?_, ?_⟩ ?_ (s6.trans (same_new hw))
        · have := hrn.sum
          have := ok.out
          omega
        · rw [← FmC.cur_end hrn ok.out]
          exact hrun
        · exact Dat.new hw (pne_of hp s6 hw) (((hdt.off ht1).off ht2).snoc (.int _))
end
end Fm
end FEO
section FTG
set_option Elab.async false
set_option linter.all false
set_option maxRecDepth 100000
set_option maxHeartbeats 4000000
local macro_rules | `(tactic| walk_at "ne") => `(tactic| first | assumption | (apply Ne.symm; assumption) | exact L2.ne_of_none (by assumption) (by assumption) | exact Ne.symm (L2.ne_of_none (by assumption) (by assumption)))
local macro_rules | `(tactic| walk_at "hl") => `(tactic| first | assumption | exact L2.upd_same | (refine Eq.trans (L2.upd_ne (by walk_at "ne")) ?_; walk_at "hl"))
local macro_rules | `(tactic| walk_at "sd") => `(tactic| first | (with_reducible show (_ : Int) < _; omega) | (with_reducible show (_ : Int) ≤ _; omega) | assumption | decide | exact ⟨by assumption, by assumption⟩ | exact ⟨by decide, by decide⟩ | exact Or.inr ⟨by decide, by decide⟩ | exact Or.inl ⟨by omega, by omega⟩ | rfl)
local macro_rules | `(tactic| walk_at "st1") => `(tactic| first
  | refine ⟨_, rfl, ?_⟩
  | refine ⟨_, _, rfl, rfl, ?_⟩
  | refine ⟨_, _, rfl, ?_⟩
  | (refine ⟨_, _, _, _, rfl, rfl, L2.SqL.of (by walk_at "hl"), rfl, ?_⟩)
  | (refine ⟨_, _, _, _, rfl, rfl, L2.SqT.of (by walk_at "hl"), rfl, ?_⟩)
  | (refine ⟨_, _, _, _, rfl, rfl, (by walk_at "hl"), rfl, ?_⟩)
  | (refine And.intro (by walk_at "sd") ?_)
  )
local macro_rules | `(tactic| walk_at "st") => `(tactic| repeat walk_at "st1")
local macro_rules | `(tactic| walk_at "op") => `(tactic| try dsimp only [L2.tSeq, L2.tAsg, L2.tOp, L2.tVar, L2.tC, L2.gSub, L2.rI, L2.rI0, L2.rIxL, L2.rIxT, L2.rSetL, L2.tIfS, L2.tTest, L2.tRet, L2.gName, L2.tNext, L2.tAnd, L2.tOr, L2.tNot, L2.tAndV, L2.tOrV, L2.tNotV, L2.tB, L2.tCB, L2.tCons, L2.tNil, L2.tCall, L2.tTup, L2.tLst, L2.tChain, L2.tUn, L2.tPar, L2.tDrop, L2.tIf, L2.tBM, L2.tBM0, L2.rAppend, L2.rCat, L2.rIsi, L2.rIsiT, L2.gTup, L2.gCons, L2.gNil, Fm.tFor_eq, Fm.tLc_eq, Fm.tLc2_eq, L2.iTup, L2.iList, L2.iRng1, L2.iRng2, L2.tSl, L2.tPart, L2.tNoPart, L2.rSlL, L2.rEq, L2.rNe, L2.rU, L2.rEqD, L2.rNeD, Fm.tRevT, Fm.rLenS, Fm.rTupOf, Fm.rLstOf, L2.tDNewK, L2.tCallS, L2.WE, Fm.wKeep, Fm.rIsK, Fm.rIsKT, List.cons_append, List.nil_append, L2.tYes])
namespace Fm
open PySem PySem.Spec PyProof.Rows L2
abbrev s_added : Stmt := top 20
abbrev N_added : List Str := ["counts", "more", "a", "b"]
theorem sc_added : FnScope N_added ["counts", "more"] (defScope s_added) := ⟨rfl, rfl, rfl, by decide +kernel, rfl, by decide +kernel, by decide +kernel⟩
abbrev s_together : Stmt := top 19
abbrev N_together : List Str := ["house", "one", "other", "m", "floors", "rows", "counts", "more"]
theorem sc_together : FnScope N_together ["house", "one", "other"] (defScope s_together) := ⟨rfl, rfl, rfl, by decide +kernel, rfl, by decide +kernel, by decide +kernel⟩
section
variable {P : Program} {w : World} {K : PySem.W.Frag} {mg : Str → Option Value} {base : Heap}
/-! ### standings together -/
def spAdded : Sp := fun vs H Q _ => ∃ (v1 v2 : V) (p p' : Addr) (r1 r2 : List Int), vs = [v1, v2] ∧ Dat H p v1 (rowD r1) ∧ Dat H p' v2 (rowD r2) ∧ r1.length = r2.length ∧ r1.length ≤ 6 ∧
  ∀ q H', H q = none → H' q = some (.tup ((List.zipWith (· + ·) r1 r2).map V.int)) → Same H H' → Q (.ref q) H'
theorem ok_added (D : Df K mg "added" s_added ["counts", "more"]) (T : Nms mg) : CallOk P w K mg base CX0 1 "added" ["counts", "more"] spAdded := by
  refine df_ok D sc_added (fun vs H Q E h => ?_) (fun f cdv A outer s H vs Q E hr h => ?_)
  · obtain ⟨v1, v2, p, p', r1, r2, rfl, _⟩ := h
    rfl
  · obtain ⟨v1, v2, p, p', r1, r2, rfl, h1, h2, hl, h6, k⟩ := h
    obtain ⟨a1, rfl, ha1, _⟩ := row_parts h1
    obtain ⟨a2, rfl, ha2, _⟩ := row_parts h2
    have nd := sc_added.nd
    refine ⟨_, (pss_one (ps_ret (pe_callTy (r := rTupOf K) call_tupOf (by rfl) T.n_tuple (by decide +kernel) (pa_cons (pe_lc (own := [("a", 2), ("b", 3)]) (g := (gTup K 2 (gCons (gName 2) (gCons (gName 3) gNil)))) (tt := tYes) (by rfl) nd (RZ.pi_zipA (by rfl) T.n_zip (pa_cons (pv 0) (pa_cons (pv 1) pa_nil))) (blkOk_by (own := [("a", 2), ("b", 3)]) (N := N_added) (sc := defScope s_added) (by decide +kernel)) (fun _ _ _ _ _ => (pg_tup rfl (pgs_cons (pg_name (i := 2) nd rfl (Or.inl rfl)) (pgs_cons (pg_name (i := 3) nd rfl (Or.inl rfl)) pgs_nil)))) (fun _ _ _ _ _ => pts_nil) (fun _ _ _ _ _ => (pe_op op_add (pv 2) (pv 3)))) pa_nil)))), ?_⟩
    walk_at "op"
    walk_at "st"
    refine ⟨_, _, _, _, rfl, .inr ⟨SqT.of ha1, SqT.of ha2, fun D' hD' => ?_⟩⟩
    have hlm : (r1.map V.int).length = (r2.map V.int).length := by rw [List.length_map, List.length_map, hl]
    refine lI (walk_zipT hlm) (fun i H2 => Same H H2 ∧ H2 D' = some (.lst (((List.zipWith (· + ·) r1 r2).take i).map V.int))) 
      ⟨same_new hD', upd_same⟩ (fun i H2 _ ⟨e, _⟩ => ⟨SqT.of (e _ _ ha1), SqT.of (e _ _ ha2)⟩) ?_ ?_
    · rintro i v H2 _ hi ⟨sm2, hT2⟩ ⟨t, x, y, rfl, ht, rfl, hxi, hyi⟩
      rw [List.length_map] at hi
      dsimp only at hxi hyi
      rw [List.getElem?_map, List.getElem?_eq_getElem hi] at hxi
      rw [List.getElem?_map, List.getElem?_eq_getElem (by omega)] at hyi
      cases hxi
      cases hyi
      have nDt : D' ≠ t := ne_of_none hT2 ht
      walk_at "op"
      refine ⟨t, _, rfl, SqT.of upd_same, rfl, _, _, rfl, _, _, rfl, rfl, ?_⟩
      refine ⟨rfl, ?_⟩
      walk_at "st"
      have hlen : ((List.zipWith (· + ·) r1 r2).take i).length ≤ 6 := by
        rw [List.length_take, List.length_zipWith]
        omega
      refine ⟨_, by rw [upd_ne nDt]; exact hT2, by rw [List.length_map]; exact small1000 (by omega), sameOff (sameOff sm2 (sameFree sm2 ht)) hD', ?_⟩
      rw [upd_same, List.take_add_one, List.getElem?_zipWith, List.getElem?_eq_getElem hi, List.getElem?_eq_getElem (show i < r2.length by omega), List.map_append]
      rfl
    · rintro H2 ⟨sm2, hT2⟩
      walk_at "op"
      walk_at "st"
      have e1 : (r1.map V.int).length = (List.zipWith (· + ·) r1 r2).length := by rw [List.length_map, List.length_zipWith]; omega
      rw [e1, List.take_length] at hT2
      exact ⟨_, _, rfl, .inl ⟨SqL.of hT2, fun t ht => k t _ (sameFree sm2 ht) upd_same (sameOff sm2 (sameFree sm2 ht))⟩⟩

def addRows (a b : List (List Int)) : List (List Int) := List.zipWith (List.zipWith (· + ·)) a b
theorem Dats.same {H H' : Hp} {p : Addr} {xs : List V} {ds : List PyData} (h : Dats H p xs ds) (e : Same H H') : Dats H' p xs ds := ⟨h.1, fun i x d a b => (h.2 i x d a b).same e⟩
def spTogether : Sp := fun vs H Q _ => ∃ (hv v1 v2 : V) (p ph : Addr) (hd : PyData) (m n : Nat) (R1 R2 : List (List Int)) (o1 o2 : Int) (u : HO), vs = [hv, v1, v2] ∧ H p = some u ∧ Dat H ph hv hd ∧ HouseN m n hd ∧ Dat H p v1 (stD R1 o1) ∧ Dat H p v2 (stD R2 o2) ∧ R1.length = n ∧ R2.length = n ∧ StOk m R1 o1 ∧ StOk m R2 o2 ∧
  ∀ v H', Dat H' p v (stD (addRows R1 R2) (o1 + o2)) → Same H H' → Q v H'
theorem ok_together (D : Df K mg "together" s_together ["house", "one", "other"]) (T : Nms mg) {C M C2 : Addr} (EX_NoStanding : Exn K mg "NoStanding" C2 M)
    (c_size : CallOk P w K mg base (L2.CX P w) 6 "size" ["house"] (spSize C)) (c_has_form : CallOk P w K mg base CX0 4 "has_form" ["thing", "m", "floors", "most"] spForm) (c_added : CallOk P w K mg base CX0 1 "added" ["counts", "more"] spAdded) :
    CallOk P w K mg base (L2.CX P w) 7 "together" ["house", "one", "other"] spTogether := by
  refine df_okX D sc_together (fun vs H Q E h => ?_) (fun f cdv A outer s H vs Q E hr h => ?_)
  · obtain ⟨hv, v1, v2, p, ph, hd, m, n, R1, R2, o1, o2, u, rfl, _⟩ := h
    rfl
  · obtain ⟨hv, v1, v2, p, ph, hd, m, n, R1, R2, o1, o2, u, rfl, hp, hD, hN, d1, d2, hl1, hl2, ok1, ok2, k⟩ := h
    have nd := sc_together.nd
    obtain ⟨_, _, _, hn1, hn4, _, hm6, _⟩ := id hN
    refine ⟨_, (pss_cons (ps_asg (pe_cx c_size (hr.mono (by omega)) (pa_cons (pv 0) pa_nil)) (pg_tup rfl (pgs_cons (pg_name (i := 3) nd rfl (Or.inl rfl)) (pgs_cons (pg_name (i := 4) nd rfl (Or.inl rfl)) pgs_nil))))
      (pss_cons (ps_if (PW.pt (pw_or (pt_not (pt_val (pe_cc c_has_form (hr.mono (by omega)) (pa_cons (pv 1) (pa_cons (pv 3) (pa_cons (pv 4) (pa_cons pe_non pa_nil))))))) (pw_or1 (pt_not (pt_val (pe_cc c_has_form (hr.mono (by omega)) (pa_cons (pv 2) (pa_cons (pv 3) (pa_cons (pv 4) (pa_cons pe_non pa_nil)))))))))) (pss_one (ps_raiseE rfl (takes_of rfl rfl rfl rfl) EX_NoStanding rfl)) pss_nil)
      (pss_cons (ps_setLc (i := 5) (own := [("counts", 6), ("more", 7)]) (g := (gTup K 2 (gCons (gName 6) (gCons (gName 7) gNil)))) (tt := tYes) (by rfl) nd rfl rfl (sw_true rfl rfl rfl (by decide +kernel)) (RZ.pi_zipA (by rfl) T.n_zip (pa_cons (pe_slice (r := rSlA K) sl_tupA (pv 1) po_none (po_some (pe_un un_neg pe_int))) (pa_cons (pe_slice (r := rSlA K) sl_tupA (pv 2) po_none (po_some (pe_un un_neg pe_int))) pa_nil))) (blkOk_by (own := [("counts", 6), ("more", 7)]) (N := N_together) (sc := defScope s_together) (by decide +kernel)) (fun _ _ _ _ _ => (pg_tup rfl (pgs_cons (pg_name (i := 6) nd rfl (Or.inl rfl)) (pgs_cons (pg_name (i := 7) nd rfl (Or.inl rfl)) pgs_nil)))) (fun _ _ _ _ _ => pts_nil) (fun _ _ _ _ _ => (pe_cc c_added (hr.mono (by omega)) (pa_cons (pv 6) (pa_cons (pv 7) pa_nil)))))
      (pss_one (ps_ret (pe_op (r := rCatA K) op_catA (pe_callTy (r := rTupOf K) call_tupOf (by rfl) T.n_tuple (by decide +kernel) (pa_cons (pv 5) pa_nil)) (pe_tup (pa_cons (pe_op op_add (pe_ix (r := rIxT K) ix_tup (pv 1) (pe_un un_neg pe_int) (fun _ _ => rfl)) (pe_ix (r := rIxT K) ix_tup (pv 2) (pe_un un_neg pe_int) (fun _ _ => rfl))) pa_nil)))))))), ?_⟩
    walk_at "op"
    walk_at "st"
    refine ⟨hv, ph, hd, rfl, hD, fun m' n' hN' q H' hq hq2 sm => ?_, fun no => (no ⟨m, n, hN⟩).elim⟩
    obtain ⟨rfl, rfl⟩ := houseN_inj hN hN'
    refine ⟨q, _, rfl, SqT.of hq2, rfl, _, _, rfl, _, _, rfl, rfl, ?_⟩
    walk_at "op"
    walk_at "st"
    refine ⟨v1, p, m, n, R1, o1, rfl, d1.same sm, hl1, hn1, hn4, ok1, fun H2 sm2 => ?_⟩
    walk_at "st"
    refine ⟨v2, p, m, n, R2, o2, rfl, d2.same (sm.trans sm2), hl2, hn1, hn4, ok2, fun H3 sm3 => ?_⟩
    have sm03 := (sm.trans sm2).trans sm3
    obtain ⟨a1, x1, rfl, ha1, na1, hx1⟩ := st_parts (d1.same sm03)
    obtain ⟨a2, x2, rfl, ha2, na2, hx2⟩ := st_parts (d2.same sm03)
    walk_at "op"
    walk_at "st"
    refine sl_init (SqT.of ha1) fun q1 hq1 => ?_
    have hq1H := sameFree sm03 hq1
    walk_at "op"
    walk_at "st"
    refine sl_init (SqT.of (by rw [upd_ne (ne_of_none ha2 hq1)]; exact ha2)) fun q2 hq2' => ?_
    have n12 : q1 ≠ q2 := ne_of_none upd_same hq2'
    have hq2H : H q2 = none := sameFree (sm03.trans (same_new hq1)) hq2'
    refine ⟨_, _, _, _, rfl, .inr ⟨SqT.of (by rw [upd_ne n12]; exact upd_same), SqT.of upd_same, fun D' hD' => ?_⟩⟩
    have nq2D : q2 ≠ D' := ne_of_none upd_same hD'
    have nq1D : q1 ≠ D' := ne_of_none (by rw [upd_ne n12]; exact upd_same) hD'
    have sm4 : Same H (upd (upd H3 q1 (.tup x1)) q2 (.tup x2)) := (sm03.trans (same_new hq1)).trans (same_new hq2')
    have hDH := sameFree sm4 hD'
    have pne : ∀ {S : Addr} {G : Hp}, Same H G → G S = none → S ≠ p := fun {S G} e z q => by
      rw [q] at z
      have := e p u hp
      rw [z] at this
      cases this
    have hlx : x1.length = x2.length := by rw [hx1.1, hx2.1, List.length_map, List.length_map, hl1, hl2]
    have hadl : (addRows R1 R2).length = n := by
      unfold addRows
      rw [List.length_zipWith, hl1, hl2]
      omega
    have nl : ∀ (l : List (List Int)), ∀ d ∈ l.map rowD, noList d = true := fun l d hd => by
      obtain ⟨r, _, rfl⟩ := List.mem_map.mp hd
      exact noList_ints' _
    refine lI (walk_zipT hlx) (fun i H4 => Same H H4 ∧ H4 q1 = some (.tup x1) ∧ H4 q2 = some (.tup x2) ∧ H4 a1 = some (.tup (x1 ++ [.int o1])) ∧ H4 a2 = some (.tup (x2 ++ [.int o2])) ∧ Dats H4 p x1 (R1.map rowD) ∧ Dats H4 p x2 (R2.map rowD) ∧ ∃ ws, H4 D' = some (.lst ws) ∧ Dats H4 p ws (((addRows R1 R2).take i).map rowD))
      ⟨sameOff sm4 hDH, by rw [upd_ne nq1D, upd_ne n12]; exact upd_same, by rw [upd_ne nq2D]; exact upd_same, ?_, ?_, ((hx1.off hq1).off hq2').off hD', ((hx2.off hq1).off hq2').off hD', [], upd_same, Dats.nil⟩ (fun i H4 _ ⟨_, e1, e2, _⟩ => ⟨SqT.of e1, SqT.of e2⟩) ?_ ?_
    · exact (same_new hD') _ _ ((same_new hq2') _ _ ((same_new hq1) _ _ ha1))
    · exact (same_new hD') _ _ ((same_new hq2') _ _ ((same_new hq1) _ _ ha2))
    · rintro i v H4 _ hi ⟨s4, e1, e2, f1, f2, g1, g2, ws, hws, hW⟩ ⟨t, x, y, rfl, ht, rfl, hxi, hyi⟩
      dsimp only at hxi hyi
      obtain ⟨d1', hd1', hdx⟩ := g1.at hxi
      obtain ⟨d2', hd2', hdy⟩ := g2.at hyi
      rw [List.getElem?_map] at hd1' hd2'
      have hi1 : i < R1.length := by rw [hl1, ← hl1, ← List.length_map (f := rowD), ← hx1.1]; exact hi
      have hi2 : i < R2.length := by omega
      rw [List.getElem?_eq_getElem hi1] at hd1'
      rw [List.getElem?_eq_getElem hi2] at hd2'
      cases hd1'
      cases hd2'
      have nDt : D' ≠ t := ne_of_none hws ht
      have htp := pne s4 ht
      walk_at "op"
      refine ⟨t, _, rfl, SqT.of upd_same, rfl, _, _, rfl, _, _, rfl, rfl, ?_⟩
      refine ⟨rfl, ?_⟩
      walk_at "st"
      have m1 := ok1.len _ (List.getElem_mem hi1)
      have m2 := ok2.len _ (List.getElem_mem hi2)
      refine ⟨x, y, p, p, _, _, rfl, hdx.off ht, hdy.off ht, by rw [m1, m2], by omega, fun r H5 hr hr2 s5 => ?_⟩
      have s45 : Same H4 H5 := (same_new ht).trans s5
      have hws5 := s45 _ _ hws
      have hr4 : H4 r = none := sameFree (same_new ht) hr
      have hrp := pne s4 hr4
      have nrD : r ≠ D' := fun z => by rw [z, hws] at hr4; cases hr4
      have wl : ws.length ≤ 4 := by
        rw [hW.1, List.length_map, List.length_take]
        omega
      refine ⟨_, hws5, small1000 (by omega), sameOff (s4.trans s45) hDH, by rw [upd_ne nq1D]; exact s45 _ _ e1, by rw [upd_ne nq2D]; exact s45 _ _ e2, ?_, ?_, ?_, ?_, ws ++ [.ref r], upd_same, ?_⟩
      · rw [upd_ne (fun z => by rw [z, hws] at f1; cases f1)]; exact s45 _ _ f1
      · rw [upd_ne (fun z => by rw [z, hws] at f2; cases f2)]; exact s45 _ _ f2
      · exact (g1.same s45).setL hws5 (nl _)
      · exact (g2.same s45).setL hws5 (nl _)
      · have e9 : ((addRows R1 R2).take (i + 1)).map rowD = ((addRows R1 R2).take i).map rowD ++ [rowD (List.zipWith (· + ·) R1[i] R2[i])] := by
          have e8 : (addRows R1 R2)[i]? = some (List.zipWith (· + ·) R1[i] R2[i]) := by
            unfold addRows
            rw [List.getElem?_zipWith, List.getElem?_eq_getElem hi1, List.getElem?_eq_getElem hi2]
          rw [List.take_add_one, e8, List.map_append]
          rfl
        rw [e9]
        refine ((hW.same s45).setL hws5 (nl _)).snoc ?_
        exact Dat.tup (by rw [upd_ne nrD]; exact hr2) hrp (by simp) fun j x d q1 q2 => by
          have := (Dats.ints (H := upd H5 D' (.lst (ws ++ [.ref r]))) (p := p) (List.zipWith (· + ·) R1[i] R2[i])).2 j x d q1 q2
          exact this
    · rintro H4 ⟨s4, e1, e2, f1, f2, g1, g2, ws, hws, hW⟩
      have hxn : x1.length = n := by rw [hx1.1, List.length_map, hl1]
      rw [hxn, ← hadl, List.take_length] at hW
      walk_at "op"
      walk_at "st"
      refine ⟨_, _, rfl, .inl ⟨SqL.of hws, fun l hl => ?_⟩⟩
      have hlp := pne s4 hl
      walk_at "st"
      refine ⟨_, _, _, _, rfl, rfl, SqT.of (by rw [upd_ne (ne_of_none f1 hl)]; exact f1), atI_last (by omega), ?_⟩
      walk_at "st"
      refine ⟨_, _, _, _, rfl, rfl, SqT.of (by rw [upd_ne (ne_of_none f2 hl)]; exact f2), atI_last (by omega), ?_⟩
      walk_at "st"
      refine ⟨by show 1 ≤ sizeLine; decide, fun t ht => ?_⟩
      have nlt : l ≠ t := ne_of_none upd_same ht
      have s5 : Same H (upd H4 l (.tup ws)) := s4.trans (same_new hl)
      have htp := pne s5 ht
      refine ⟨l, t, ws, _, rfl, rfl, SqT.of (by rw [upd_ne nlt]; exact upd_same), SqT.of upd_same, Nat.le_trans (m := 1000) (by rw [hW.1, List.length_map, hadl]; show n + 1 ≤ 1000; omega) (by rw [sizeLine_eq]; omega), fun e => ?_, fun _ e => (by cases e), fun _ _ r hr => ?_⟩
      · have := hW.1
        rw [e, List.length_map, hadl] at this
        simp at this
        omega
      · have s6 : Same H (upd (upd H4 l (.tup ws)) t (.tup [.int (o1 + o2)])) := s5.trans (same_new ht)
        refine k _ _ ?_ (s6.trans (same_new hr))
        have hW6 : Dats (upd (upd H4 l (.tup ws)) t (.tup [.int (o1 + o2)])) p ws ((addRows R1 R2).map rowD) := (hW.off hl).off ht
        refine Dat.new hr (pne s6 hr) ?_
        exact Dats.snoc hW6 (.int _)
end
end Fm
end FTG
section FFmPow
set_option Elab.async false
set_option linter.all false
set_option maxRecDepth 100000
set_option maxHeartbeats 4000000
namespace Fm
open PySem PySem.Spec PyProof.Rows L2
/-- to the third and less, of numbers to a thousand bits -/
def CPow3 (i j : Int) : Prop := 0 ≤ j ∧ j ≤ 3 ∧ i.natAbs.log2 < 1000
theorem op_pow3 {X : Cx} : OpR X (binaryOp .Pow) (rI CPow3 fun i j => .int (i ^ j.toNat)) := opI fun i j _ _ _ _ _ hc q => by
  obtain ⟨h1, h2, h3⟩ := hc
  refine pow_int h1 ?_ q
  have b : Builtin.Int.intBits i ≤ i.natAbs.log2 + 1 := by
    unfold Builtin.Int.intBits
    split
    · omega
    · exact Nat.le_refl _
  have e : (2 : Int) ^ 27 = 134217728 := by decide
  rw [e]
  have k : (Builtin.Int.intBits i : Int) ≤ 1000 := by omega
  have : (Builtin.Int.intBits i : Int) * j ≤ 1000 * 3 := Int.mul_le_mul k h2 h1 (by decide)
  omega
end Fm
end FFmPow
section FLA
set_option Elab.async false
set_option linter.all false
set_option maxRecDepth 100000
set_option maxHeartbeats 4000000
local macro_rules | `(tactic| walk_at "ne") => `(tactic| first | assumption | (apply Ne.symm; assumption) | exact L2.ne_of_none (by assumption) (by assumption) | exact Ne.symm (L2.ne_of_none (by assumption) (by assumption)))
local macro_rules | `(tactic| walk_at "hl") => `(tactic| first | assumption | exact L2.upd_same | (refine Eq.trans (L2.upd_ne (by walk_at "ne")) ?_; walk_at "hl"))
local macro_rules | `(tactic| walk_at "sd") => `(tactic| first | (with_reducible show (_ : Int) < _; omega) | (with_reducible show (_ : Int) ≤ _; omega) | assumption | decide | exact ⟨by assumption, by assumption⟩ | exact ⟨by decide, by decide⟩ | exact Or.inr ⟨by decide, by decide⟩ | exact Or.inl ⟨by omega, by omega⟩ | rfl)
local macro_rules | `(tactic| walk_at "st1") => `(tactic| first
  | refine ⟨_, rfl, ?_⟩
  | refine ⟨_, _, rfl, rfl, ?_⟩
  | refine ⟨_, _, rfl, ?_⟩
  | (refine ⟨_, _, _, _, rfl, rfl, L2.SqL.of (by walk_at "hl"), rfl, ?_⟩)
  | (refine ⟨_, _, _, _, rfl, rfl, L2.SqT.of (by walk_at "hl"), rfl, ?_⟩)
  | (refine ⟨_, _, _, _, rfl, rfl, (by walk_at "hl"), rfl, ?_⟩)
  | (refine And.intro (by walk_at "sd") ?_)
  )
local macro_rules | `(tactic| walk_at "st") => `(tactic| repeat walk_at "st1")
local macro_rules | `(tactic| walk_at "op") => `(tactic| try dsimp only [L2.tSeq, L2.tAsg, L2.tOp, L2.tVar, L2.tC, L2.gSub, L2.rI, L2.rI0, L2.rIxL, L2.rIxT, L2.rSetL, L2.tIfS, L2.tTest, L2.tRet, L2.gName, L2.tNext, L2.tAnd, L2.tOr, L2.tNot, L2.tAndV, L2.tOrV, L2.tNotV, L2.tB, L2.tCB, L2.tCons, L2.tNil, L2.tCall, L2.tTup, L2.tLst, L2.tChain, L2.tUn, L2.tPar, L2.tDrop, L2.tIf, L2.tBM, L2.tBM0, L2.rAppend, L2.rCat, L2.rIsi, L2.rIsiT, L2.gTup, L2.gCons, L2.gNil, Fm.tFor_eq, Fm.tLc_eq, Fm.tLc2_eq, L2.iTup, L2.iList, L2.iRng1, L2.iRng2, L2.tSl, L2.tPart, L2.tNoPart, L2.rSlL, L2.rEq, L2.rNe, L2.rU, L2.rEqD, L2.rNeD, Fm.tRevT, Fm.rLenS, Fm.rTupOf, Fm.rLstOf, L2.tDNewK, L2.tCallS, L2.WE, Fm.wKeep, Fm.rIsK, Fm.rIsKT, List.cons_append, List.nil_append, L2.tYes])
namespace Fm
open PySem PySem.Spec PyProof.Rows L2
abbrev s_law_jar : Stmt := top 36
abbrev N_law_jar : List Str := ["cell"]
theorem sc_law_jar : FnScope N_law_jar ["cell"] (defScope s_law_jar) := ⟨rfl, rfl, rfl, by decide +kernel, rfl, by decide +kernel, by decide +kernel⟩
abbrev s_law_dip : Stmt := top 37
abbrev N_law_dip : List Str := ["jar", "many", "found", "one"]
theorem sc_law_dip : FnScope N_law_dip ["jar", "many"] (defScope s_law_dip) := ⟨rfl, rfl, rfl, by decide +kernel, rfl, by decide +kernel, by decide +kernel⟩
section
variable {P : Program} {w : World} {K : PySem.W.Frag} {mg : Str → Option Value} {base : Heap}
/-! ### the law's draws -/
/-- the jar of draws at p, of which at most N were made -/
def Jar (H : Hp) (p : Addr) (N : Nat) : Prop := ∃ x y c : Int, H p = some (.lst [.int x, .int y, .int c]) ∧ 0 ≤ y ∧ y < 10 ^ 37 ∧ 0 ≤ c ∧ c ≤ N
theorem Jar.le {H : Hp} {p : Addr} {N M : Nat} (h : Jar H p N) (l : N ≤ M) : Jar H p M := by
  obtain ⟨x, y, c, h1, h2, h3, h4, h5⟩ := h
  exact ⟨x, y, c, h1, h2, h3, h4, by omega⟩
theorem Jar.up {H : Hp} {p q : Addr} {N : Nat} {o : HO} (h : Jar H p N) (n : p ≠ q) : Jar (upd H q o) p N := by
  obtain ⟨x, y, c, h1, h2⟩ := h
  exact ⟨x, y, c, by rw [upd_ne n]; exact h1, h2⟩
theorem Jar.same {H H' : Hp} {p : Addr} {N : Nat} (h : Jar H p N) (e : Same H H') : Jar H' p N := by
  obtain ⟨x, y, c, h1, h2⟩ := h
  exact ⟨x, y, c, e _ _ h1, h2⟩
theorem Jar.here {H : Hp} {p : Addr} {N : Nat} (h : Jar H p N) : ∃ u, H p = some u := by
  obtain ⟨x, y, c, h1, _⟩ := h
  exact ⟨_, h1⟩
theorem Jar.ne {H : Hp} {p q : Addr} {N : Nat} (h : Jar H p N) (hq : H q = none) : p ≠ q := by
  obtain ⟨x, y, c, h1, _⟩ := h
  exact ne_of_none h1 hq
def spJar : Sp := fun vs H Q _ => ∃ c : Int, vs = [.int c] ∧ ∀ p H', H p = none → Jar H' p 0 → Same H H' → Q (.ref p) H'
theorem ok_law_jar (D : Df K mg "_law_jar" s_law_jar ["cell"]) (T : Nms mg) : CallOk P w K mg base CX0 1 "_law_jar" ["cell"] spJar := by
  refine df_ok D sc_law_jar (fun vs H Q E h => ?_) (fun f cdv A outer s H vs Q E hr h => ?_)
  · obtain ⟨c, rfl, _⟩ := h
    rfl
  · obtain ⟨c, rfl, k⟩ := h
    have nd := sc_law_jar.nd
    have e1 : (10 : Int) ^ (36 : Int).toNat + 67 = 1000000000000000000000000000000000067 := by decide
    have e2 : (10 : Int) ^ 37 = 10000000000000000000000000000000000000 := by decide
    refine ⟨_, (pss_one (ps_ret (pe_lst (pa_cons (pe_callB (call_max2 rfl) (by rfl) T.n_max (by decide +kernel) (pa_cons pe_int (pa_cons (pe_op op_sub (pv 0) (pe_op op_pow pe_int pe_int)) pa_nil))) (pa_cons (pe_op op_mod (pv 0) (pe_op op_add (pe_op op_pow pe_int pe_int) pe_int)) (pa_cons pe_int pa_nil)))))), ?_⟩
    walk_at "op"
    refine ⟨_, rfl, 10, 18, rfl, rfl, ⟨by decide, by decide, by decide⟩, _, _, rfl, rfl, _, _, rfl, _, rfl, 10, 36, rfl, rfl, ⟨by decide, by decide, by decide⟩, _, 67, rfl, rfl, _, _, rfl, rfl, by rw [e1]; decide, by show 3 ≤ sizeLine; decide, fun q hq => ?_⟩
    refine k q _ hq ⟨_, _, 0, upd_same, ?_, ?_, by decide, by decide⟩ (same_new hq)
    · exact Int.emod_nonneg _ (by rw [e1]; decide)
    · refine Int.lt_of_lt_of_le (Int.emod_lt_of_pos _ (by rw [e1]; decide)) ?_
      rw [e1, e2]
      decide
theorem log_lt {i : Int} (h : i.natAbs < 10 ^ 60) : i.natAbs.log2 < 1000 := by
  by_cases z : i.natAbs = 0
  · rw [z]; decide
  · exact (Nat.log2_lt z).mpr (Nat.lt_of_lt_of_le h (by decide +kernel))
theorem e39 : (10 : Int) ^ (39 : Int).toNat + 3 = 1000000000000000000000000000000000000003 := by decide
theorem e37' : (10 : Int) ^ (37 : Int).toNat + 43 = 10000000000000000000000000000000000043 := by decide
def spDip : Sp := fun vs H Q _ => ∃ (p : Addr) (m : Int) (N : Nat), vs = [.ref p, .int m] ∧ 0 < m ∧ m.natAbs.log2 < 9000 ∧ N ≤ 1000000000 ∧ Jar H p N ∧ ∀ (k : Int) (H' : Hp), 0 ≤ k → k < m → Jar H' p (N + 1) → Ext p H H' → Q (.int k) H'
theorem ok_law_dip (D : Df K mg "_law_dip" s_law_dip ["jar", "many"]) (T : Nms mg) : CallOk P w K mg base CX0 1 "_law_dip" ["jar", "many"] spDip := by
  refine df_ok D sc_law_dip (fun vs H Q E h => ?_) (fun f cdv A outer s H vs Q E hr h => ?_)
  · obtain ⟨p, m, N, rfl, _⟩ := h
    rfl
  · obtain ⟨p, m, N, rfl, m0, ml, hN, ⟨x, y, c, hp, hy0, hy1, hc0, hc1⟩, k⟩ := h
    have nd := sc_law_dip.nd
    refine ⟨_, (pss_cons (ps_if (pt_cmpR op_gt (pe_ix (r := rIxL K) ix_list (pv 0) pe_int (fun _ _ => rfl)) pe_int (nomark _)) (pss_cons (ps_set (i := 2) nd rfl (Or.inl rfl) (pe_op op_mod (pe_ix (r := rIxL K) ix_list (pv 0) pe_int (fun _ _ => rfl)) (pv 1)))
      (pss_cons (ps_asg (pe_op op_fdivW (pe_ix (r := rIxL K) ix_list (pv 0) pe_int (fun _ _ => rfl)) (pv 1)) (pg_sub (pv 0) pe_int set_list))
      (pss_one (ps_ret (pv 2))))) pss_nil)
      (pss_cons (ps_asg (pe_op op_add (pe_ix (r := rIxL K) ix_list (pv 0) pe_int (fun _ _ => rfl)) pe_int) (pg_sub (pv 0) pe_int set_list))
      (pss_cons (ps_set (i := 3) nd rfl (Or.inl rfl) (pe_op op_mod (pe_op (r := rI CPow3 fun i j => .int (i ^ j.toNat)) op_pow3 (pe_op op_add (pe_ix (r := rIxL K) ix_list (pv 0) pe_int (fun _ _ => rfl)) (pe_op op_mul pe_int (pe_ix (r := rIxL K) ix_list (pv 0) pe_int (fun _ _ => rfl)))) pe_int) (pe_op op_add (pe_op op_pow pe_int pe_int) pe_int)))
      (pss_cons (ps_set (i := 3) nd rfl (Or.inl rfl) (pe_op op_mod (pe_op (r := rI CPow3 fun i j => .int (i ^ j.toNat)) op_pow3 (pe_op op_add (pv 3) (pe_op op_mul pe_int (pe_ix (r := rIxL K) ix_list (pv 0) pe_int (fun _ _ => rfl)))) pe_int) (pe_op op_add (pe_op op_pow pe_int pe_int) pe_int)))
      (pss_one (ps_ret (pe_op op_mod (pe_op op_fdivW (pv 3) pe_int) (pv 1)))))))), ?_⟩
    walk_at "op"
    have e37 : (10 : Int) ^ 37 = 10000000000000000000000000000000000000 := by decide
    have g0 : atI [V.int x, V.int y, V.int c] 0 = some (.int x) := rfl
    refine ⟨_, rfl, p, _, 0, .int x, rfl, rfl, SqL.of hp, rfl, x, 0, rfl, rfl, _, rfl, ?_⟩
    refine ite2 (fun c0 => ?_) (fun c0 => ?_)
    · refine ⟨_, rfl, p, _, 0, .int x, rfl, rfl, SqL.of hp, rfl, _, rfl, x, m, rfl, rfl, m0, ?_⟩
      refine ⟨_, rfl, p, _, 0, .int x, rfl, rfl, SqL.of hp, rfl, _, rfl, x, m, rfl, rfl, ⟨m0, ml⟩, _, rfl, p, _, 0, 0, rfl, rfl, hp, rfl, _, rfl, ?_⟩
      exact k _ _ (Int.emod_nonneg _ (by omega)) (Int.emod_lt_of_pos _ m0) ⟨x / m, y, c, upd_same, hy0, hy1, hc0, by omega⟩ ext_at
    · refine ⟨_, rfl, p, _, 2, .int c, rfl, rfl, SqL.of hp, rfl, c, 1, rfl, rfl, _, rfl, p, _, 2, 2, rfl, rfl, hp, rfl, ?_⟩
      have hp2 : upd H p (.lst ([V.int x, V.int y, V.int c].set 2 (.int (c + 1)))) p = some (.lst [V.int x, V.int y, V.int (c + 1)]) := upd_same
      have x2 : Ext p H (upd H p (.lst ([V.int x, V.int y, V.int c].set 2 (.int (c + 1))))) := ext_at
      generalize upd H p (.lst ([V.int x, V.int y, V.int c].set 2 (.int (c + 1)))) = G at *
      have b1 : (y + 15485863 * (c + 1)).natAbs.log2 < 1000 := log_lt (by rw [e37] at hy1; omega)
      refine ⟨_, rfl, p, _, 1, .int y, rfl, rfl, SqL.of hp2, rfl, _, rfl, p, _, 2, .int (c + 1), rfl, rfl, SqL.of hp2, rfl, 15485863, c + 1, rfl, rfl, .inl ⟨by decide, by decide⟩, y, _, rfl, rfl, _, 3, rfl, rfl, ⟨by decide, by decide, b1⟩, 10, 39, rfl, rfl, ⟨by decide, by decide, by decide⟩, _, 3, rfl, rfl, _, _, rfl, rfl, by rw [e39]; decide, ?_⟩
      have o0 : 0 ≤ (y + 15485863 * (c + 1)) ^ (3 : Int).toNat % ((10 : Int) ^ (39 : Int).toNat + 3) := Int.emod_nonneg _ (by rw [e39]; decide)
      have o2 : (y + 15485863 * (c + 1)) ^ (3 : Int).toNat % ((10 : Int) ^ (39 : Int).toNat + 3) < 1000000000000000000000000000000000000003 := by
        have := Int.emod_lt_of_pos ((y + 15485863 * (c + 1)) ^ (3 : Int).toNat) (show (0 : Int) < (10 : Int) ^ (39 : Int).toNat + 3 by rw [e39]; decide)
        rw [e39] at this ⊢
        exact this
      generalize (y + 15485863 * (c + 1)) ^ (3 : Int).toNat % ((10 : Int) ^ (39 : Int).toNat + 3) = o1 at *
      have b2 : (o1 + 982451653 * (c + 1)).natAbs.log2 < 1000 := log_lt (by omega)
      refine ⟨_, rfl, _, rfl, p, _, 2, .int (c + 1), rfl, rfl, SqL.of hp2, rfl, 982451653, c + 1, rfl, rfl, .inl ⟨by decide, by decide⟩, o1, _, rfl, rfl, _, 3, rfl, rfl, ⟨by decide, by decide, b2⟩, 10, 37, rfl, rfl, ⟨by decide, by decide, by decide⟩, _, 43, rfl, rfl, _, _, rfl, rfl, by rw [e37']; decide, ?_⟩
      refine ⟨_, rfl, _, 1048576, rfl, rfl, ⟨by decide, by decide⟩, _, rfl, _, m, rfl, rfl, m0, ?_⟩
      exact k _ _ (Int.emod_nonneg _ (by omega)) (Int.emod_lt_of_pos _ m0) ⟨x, y, c + 1, hp2, hy0, hy1, by omega, by omega⟩ x2
end
end Fm
end FLA
section FLB
set_option Elab.async false
set_option linter.all false
set_option maxRecDepth 100000
set_option maxHeartbeats 4000000
local macro_rules | `(tactic| walk_at "ne") => `(tactic| first | assumption | (apply Ne.symm; assumption) | exact L2.ne_of_none (by assumption) (by assumption) | exact Ne.symm (L2.ne_of_none (by assumption) (by assumption)))
local macro_rules | `(tactic| walk_at "hl") => `(tactic| first | assumption | exact L2.upd_same | (refine Eq.trans (L2.upd_ne (by walk_at "ne")) ?_; walk_at "hl"))
local macro_rules | `(tactic| walk_at "sd") => `(tactic| first | (with_reducible show (_ : Int) < _; omega) | (with_reducible show (_ : Int) ≤ _; omega) | assumption | decide | exact ⟨by assumption, by assumption⟩ | exact ⟨by decide, by decide⟩ | exact Or.inr ⟨by decide, by decide⟩ | exact Or.inl ⟨by omega, by omega⟩ | rfl)
local macro_rules | `(tactic| walk_at "st1") => `(tactic| first
  | refine ⟨_, rfl, ?_⟩
  | refine ⟨_, _, rfl, rfl, ?_⟩
  | refine ⟨_, _, rfl, ?_⟩
  | (refine ⟨_, _, _, _, rfl, rfl, L2.SqL.of (by walk_at "hl"), rfl, ?_⟩)
  | (refine ⟨_, _, _, _, rfl, rfl, L2.SqT.of (by walk_at "hl"), rfl, ?_⟩)
  | (refine ⟨_, _, _, _, rfl, rfl, (by walk_at "hl"), rfl, ?_⟩)
  | (refine And.intro (by walk_at "sd") ?_)
  )
local macro_rules | `(tactic| walk_at "st") => `(tactic| repeat walk_at "st1")
local macro_rules | `(tactic| walk_at "op") => `(tactic| try dsimp only [L2.tSeq, L2.tAsg, L2.tOp, L2.tVar, L2.tC, L2.gSub, L2.rI, L2.rI0, L2.rIxL, L2.rIxT, L2.rSetL, L2.tIfS, L2.tTest, L2.tRet, L2.gName, L2.tNext, L2.tAnd, L2.tOr, L2.tNot, L2.tAndV, L2.tOrV, L2.tNotV, L2.tB, L2.tCB, L2.tCons, L2.tNil, L2.tCall, L2.tTup, L2.tLst, L2.tChain, L2.tUn, L2.tPar, L2.tDrop, L2.tIf, L2.tBM, L2.tBM0, L2.rAppend, L2.rCat, L2.rIsi, L2.rIsiT, L2.gTup, L2.gCons, L2.gNil, Fm.tFor_eq, Fm.tLc_eq, Fm.tLc2_eq, L2.iTup, L2.iList, L2.iRng1, L2.iRng2, L2.tSl, L2.tPart, L2.tNoPart, L2.rSlL, L2.rEq, L2.rNe, L2.rU, L2.rEqD, L2.rNeD, Fm.tRevT, Fm.rLenS, Fm.rTupOf, Fm.rLstOf, L2.tDNewK, L2.tCallS, L2.WE, Fm.wKeep, Fm.rIsK, Fm.rIsKT, List.cons_append, List.nil_append, L2.tYes])
namespace Fm
open PySem PySem.Spec PyProof.Rows L2
abbrev s_law_word : Stmt := top 38
abbrev N_law_word : List Str := ["kind", "a", "b", "m"]
theorem sc_law_word : FnScope N_law_word ["kind", "a", "b", "m"] (defScope s_law_word) := ⟨rfl, rfl, rfl, by decide +kernel, rfl, by decide +kernel, by decide +kernel⟩
section
variable {P : Program} {w : World} {K : PySem.W.Frag} {mg : Str → Option Value} {base : Heap}
/-! ### the law's words -/
theorem vint {x y : Int} (h : x = y) : some (V.int x) = some (V.int y) := by rw [h]
theorem word_list {kind a b m : Nat} (hk : kind < 6) (ha : a < m) (hb : b < m) {z : Int} (hz : z = (FmC.word 5 a b m : Nat)) :
    ([V.int (if (b : Int) > a then b else a), V.int (((a : Int) + b) % m), V.int 0, V.int (if (m : Int) - 1 < a + b then (m : Int) - 1 else a + b), V.int ((a : Int) * b % m), V.int z] : List V)[kind]? = some (.int (FmC.word kind a b m : Nat)) := by
  match kind, hk with
  | 0, _ =>
    refine vint ?_
    show _ = ((max a b : Nat) : Int)
    split <;> omega
  | 1, _ =>
    refine vint ?_
    show _ = (((a + b) % m : Nat) : Int)
    rw [Int.natCast_emod, Int.natCast_add]
  | 2, _ => exact vint rfl
  | 3, _ =>
    refine vint ?_
    show _ = ((min (a + b) (m - 1) : Nat) : Int)
    split <;> omega
  | 4, _ =>
    refine vint ?_
    show _ = ((a * b % m : Nat) : Int)
    rw [Int.natCast_emod, Int.natCast_mul]
  | 5, _ => exact vint hz
def spWord : Sp := fun vs H Q _ => ∃ (kind a b m : Nat), vs = [.int (kind : Nat), .int (a : Nat), .int (b : Nat), .int (m : Nat)] ∧ kind < 6 ∧ a < m ∧ b < m ∧ m ≤ 6 ∧ ∀ H', Same H H' → Q (.int (FmC.word kind a b m : Nat)) H'
theorem ok_law_word (D : Df K mg "_law_word" s_law_word ["kind", "a", "b", "m"]) (T : Nms mg) : CallOk P w K mg base CX0 1 "_law_word" ["kind", "a", "b", "m"] spWord := by
  refine df_ok D sc_law_word (fun vs H Q E h => ?_) (fun f cdv A outer s H vs Q E hr h => ?_)
  · obtain ⟨kind, a, b, m, rfl, _⟩ := h
    rfl
  · obtain ⟨kind, a, b, m, rfl, hk, ha, hb, hm, k⟩ := h
    have nd := sc_law_word.nd
    refine ⟨_, (pss_one (ps_ret (pe_ix (r := rIxL K) ix_list (pe_lst (pa_cons (pe_callB (call_max2 rfl) (by rfl) T.n_max (by decide +kernel) (pa_cons (pv 1) (pa_cons (pv 2) pa_nil))) (pa_cons (pe_op op_mod (pe_op op_add (pv 1) (pv 2)) (pv 3)) (pa_cons pe_int (pa_cons (pe_callB (call_min2 rfl) (by rfl) T.n_min (by decide +kernel) (pa_cons (pe_op op_add (pv 1) (pv 2)) (pa_cons (pe_op op_sub (pv 3) pe_int) pa_nil))) (pa_cons (pe_op op_mod (pe_op op_mul (pv 1) (pv 2)) (pv 3)) (pa_cons (pe_ifExp (pt_cmpR op_ne (pv 1) (pv 2) (nomark _)) (pe_op op_sub (pv 3) pe_int) (pv 1)) pa_nil))))))) (pv 0) (fun _ _ => rfl)))), ?_⟩
    walk_at "op"
    refine ⟨_, rfl, _, rfl, _, _, rfl, _, rfl, _, rfl, _, _, rfl, rfl, _, rfl, _, _, rfl, rfl, by omega, ?_⟩
    refine ⟨_, rfl, _, rfl, _, _, rfl, rfl, _, rfl, _, 1, rfl, rfl, _, _, rfl, ?_⟩
    refine ⟨_, rfl, _, rfl, _, _, rfl, rfl, .inl ⟨by omega, by omega⟩, _, rfl, _, _, rfl, rfl, by omega, ?_⟩
    refine ⟨_, rfl, _, rfl, rfl, _, rfl, ?_⟩
    by_cases e : a = b
    · rw [show (!decide (V.int (a : Nat) = V.int (b : Nat))) = false from by rw [e, decide_eq_true rfl]; rfl]
      refine iteF ⟨_, rfl, by show 6 ≤ sizeLine; decide, fun q hq => ?_⟩
      refine ⟨_, rfl, q, _, _, _, rfl, rfl, SqL.of upd_same, atI_nat (word_list hk ha hb (z := (a : Int)) ?_), k _ (same_new hq)⟩
      show (a : Int) = ((if a = b then a else m - 1 : Nat) : Int)
      rw [if_pos e]
    · rw [show (!decide (V.int (a : Nat) = V.int (b : Nat))) = true from by
        rw [decide_eq_false (fun z => e (by injection z with z; exact Int.ofNat.inj z))]; rfl]
      refine iteT ⟨_, rfl, _, 1, rfl, rfl, by show 6 ≤ sizeLine; decide, fun q hq => ?_⟩
      refine ⟨_, rfl, q, _, _, _, rfl, rfl, SqL.of upd_same, atI_nat (word_list hk ha hb (z := (m : Int) - 1) ?_), k _ (same_new hq)⟩
      show (m : Int) - 1 = ((if a = b then a else m - 1 : Nat) : Int)
      rw [if_neg e]
      omega
end
end Fm
end FLB
section FFmBmK
set_option Elab.async false
set_option linter.all false
set_option maxRecDepth 100000
set_option maxHeartbeats 4000000
namespace Fm
open PySem PySem.Spec PySem.Calls PyProof.Rows L2
/-- a method of a list within a comprehension: its place's K told -/
theorem pe_bmK {X : Cx} {K : PySem.W.Frag} {o e : Expr} {es : List Expr} {to : TE} {t : TA} {name : Str} {apos cpos : Pos} {T id : String} {r : V → List V → Hp → VK → Prop} (eK : X.K = K) (pa : PlainAttrs T) (slot : Slot T name id) (hty : typeOf (.builtin id) = pure (.type "method_descriptor")) (hm : MtR X id r) (ho : PE X o to) (ha : PA X (e :: es) t)
    (hbase : attributeBase o name X.env (eval o X.env) = eval o X.env := by rfl)
    (hfew : ((backTo cpos (starEach (e :: es) X.env)).all (fun x => !x.1) && (backToKw cpos (keywordEach [] X.env)).all (fun x => x.1.isSome)
      && decide ((e :: es).length + ([] : List Keyword).length + (if ([] : List Keyword).isEmpty then 0 else 1) < 30)) = true := by rfl)
    (hline : (apos.endLine == cpos.line) = true := by rfl) (hs : starEach (e :: es) X.env = (false, eval e X.env) :: starEach es X.env := by rfl) (hplain : (backTo cpos (starEach es X.env)).any (·.1) = false := by rfl) :
    PE X (.Call (.Attribute o name apos) (e :: es) [] cpos) (tBM K T r to t) := by
  subst eK
  exact pe_bm pa slot hty hm ho ha hbase hfew hline hs hplain
/-- xs.count(k), whole numbers -/
def rCountI (K : PySem.W.Frag) : V → List V → Hp → VK → Prop := fun x xs H Q => ∃ (a : Addr) (ns : List Int) (k : Int), x = V.ref a ∧ xs = [.int k] ∧ SqL K H a (ns.map V.int) ∧ Q (.int (ns.count k : Nat)) H
theorem mt_countI {X : Cx} : MtR X "list.count" (rCountI X.K) := by
  intro pins s σ H x xs v us Q I rx rxs h
  obtain ⟨a, ns, k, rfl, rfl, hs, q⟩ := h
  cases rx
  obtain ⟨u, rfl, ru⟩ := rxs.one
  obtain ⟨t, rfl⟩ := ru
  obtain ⟨its, rv, hl, _⟩ := I.list hs
  exact count_list_ints hl.isList rv.ints ⟨.int (ns.count k : Nat), H, I.tok _, ⟨_, rfl⟩, q⟩
end Fm
end FFmBmK
section FLC
set_option Elab.async false
set_option linter.all false
set_option maxRecDepth 100000
set_option maxHeartbeats 4000000
local macro_rules | `(tactic| walk_at "ne") => `(tactic| first | assumption | (apply Ne.symm; assumption) | exact L2.ne_of_none (by assumption) (by assumption) | exact Ne.symm (L2.ne_of_none (by assumption) (by assumption)))
local macro_rules | `(tactic| walk_at "hl") => `(tactic| first | assumption | exact L2.upd_same | (refine Eq.trans (L2.upd_ne (by walk_at "ne")) ?_; walk_at "hl"))
local macro_rules | `(tactic| walk_at "sd") => `(tactic| first | (with_reducible show (_ : Int) < _; omega) | (with_reducible show (_ : Int) ≤ _; omega) | assumption | decide | exact ⟨by assumption, by assumption⟩ | exact ⟨by decide, by decide⟩ | exact Or.inr ⟨by decide, by decide⟩ | exact Or.inl ⟨by omega, by omega⟩ | rfl)
local macro_rules | `(tactic| walk_at "st1") => `(tactic| first
  | refine ⟨_, rfl, ?_⟩
  | refine ⟨_, _, rfl, rfl, ?_⟩
  | refine ⟨_, _, rfl, ?_⟩
  | (refine ⟨_, _, _, _, rfl, rfl, L2.SqL.of (by walk_at "hl"), rfl, ?_⟩)
  | (refine ⟨_, _, _, _, rfl, rfl, L2.SqT.of (by walk_at "hl"), rfl, ?_⟩)
  | (refine ⟨_, _, _, _, rfl, rfl, (by walk_at "hl"), rfl, ?_⟩)
  | (refine And.intro (by walk_at "sd") ?_)
  )
local macro_rules | `(tactic| walk_at "st") => `(tactic| repeat walk_at "st1")
local macro_rules | `(tactic| walk_at "op") => `(tactic| try dsimp only [L2.tSeq, L2.tAsg, L2.tOp, L2.tVar, L2.tC, L2.gSub, L2.rI, L2.rI0, L2.rIxL, L2.rIxT, L2.rSetL, L2.tIfS, L2.tTest, L2.tRet, L2.gName, L2.tNext, L2.tAnd, L2.tOr, L2.tNot, L2.tAndV, L2.tOrV, L2.tNotV, L2.tB, L2.tCB, L2.tCons, L2.tNil, L2.tCall, L2.tTup, L2.tLst, L2.tChain, L2.tUn, L2.tPar, L2.tDrop, L2.tIf, L2.tBM, L2.tBM0, L2.rAppend, L2.rCat, L2.rIsi, L2.rIsiT, L2.gTup, L2.gCons, L2.gNil, Fm.tFor_eq, Fm.tLc_eq, Fm.tLc2_eq, L2.iTup, L2.iList, L2.iRng1, L2.iRng2, L2.tSl, L2.tPart, L2.tNoPart, L2.rSlL, L2.rEq, L2.rNe, L2.rU, L2.rEqD, L2.rNeD, Fm.tRevT, Fm.rLenS, Fm.rTupOf, Fm.rLstOf, L2.tDNewK, L2.tCallS, L2.WE, Fm.wKeep, Fm.rIsK, Fm.rIsKT, List.cons_append, List.nil_append, L2.tYes])
namespace Fm
open PySem PySem.Spec PyProof.Rows L2
abbrev s_law_order : Stmt := top 39
abbrev N_law_order : List Str := ["jar", "m", "left", "k"]
theorem sc_law_order : FnScope N_law_order ["jar", "m"] (defScope s_law_order) := ⟨rfl, rfl, rfl, by decide +kernel, rfl, by decide +kernel, by decide +kernel⟩
section
variable {P : Program} {w : World} {K : PySem.W.Frag} {mg : Str → Option Value} {base : Heap}
/-! ### numbers in an order -/
theorem erase_perm : ∀ {l : List Nat} {i : Nat} (h : i < l.length), (l[i] :: l.eraseIdx i).Perm l
  | x :: l, 0, _ => List.Perm.refl _
  | x :: l, i + 1, h => by
    have hl : i < l.length := by simpa using h
    have ih := erase_perm hl
    show (l[i] :: x :: l.eraseIdx i).Perm (x :: l)
    exact (List.Perm.swap x l[i] _).trans (List.Perm.cons x ih)
theorem map_erase : ∀ (l : List Nat) (i : Nat), (l.map fun k : Nat => V.int (k : Nat)).eraseIdx i = (l.eraseIdx i).map fun k : Nat => V.int (k : Nat)
  | [], _ => rfl
  | x :: l, 0 => rfl
  | x :: l, i + 1 => by
    show V.int _ :: _ = V.int _ :: _
    rw [map_erase l i]
def spOrder : Sp := fun vs H Q _ => ∃ (p : Addr) (m N : Nat), vs = [.ref p, .int (m : Nat)] ∧ 1 ≤ m ∧ m ≤ 6 ∧ N + m ≤ 1000000000 ∧ Jar H p N ∧
  ∀ (q : Addr) (l : List Nat) (H' : Hp), H q = none → H' q = some (.lst (l.map fun k : Nat => V.int (k : Nat))) → l.Perm (List.range m) → Jar H' p (N + m) → Ext p H H' → Q (.ref q) H'
theorem ok_law_order (D : Df K mg "_law_order" s_law_order ["jar", "m"]) (T : Nms mg) (c_law_dip : CallOk P w K mg base CX0 1 "_law_dip" ["jar", "many"] spDip) : CallOk P w K mg base CX0 2 "_law_order" ["jar", "m"] spOrder := by
  refine df_ok D sc_law_order (fun vs H Q E h => ?_) (fun f cdv A outer s H vs Q E hr h => ?_)
  · obtain ⟨p, m, N, rfl, _⟩ := h
    rfl
  · obtain ⟨p, m, N, rfl, h1, h6, hN, hJ, k⟩ := h
    have nd := sc_law_order.nd
    refine ⟨_, (pss_cons (ps_set (i := 2) nd rfl (Or.inr rfl) (pe_listRg (by rfl) (by rfl) T.n_list (prg_1 (by rfl) T.n_range (pv 1))))
      (pss_one (ps_ret (pe_lc (own := [("k", 3)]) (g := (gName 3)) (tt := tYes) (by rfl) nd (pi_range1 rfl T.n_range (pa_cons (pv 1) pa_nil)) (blkOk_by (own := [("k", 3)]) (N := N_law_order) (sc := defScope s_law_order) (by decide +kernel)) (fun _ _ _ _ _ => (pg_name (i := 3) nd rfl (Or.inl rfl))) (fun _ _ _ _ _ => pts_nil) (fun _ _ _ _ _ => (pe_bmK (K := K) rfl PySem.F.plainAttrs_list PySem.F.slot_list_pop PySem.F.type_list_pop mt_popAt (pv 2) (pa_cons (pe_cc c_law_dip (hr.mono (by omega)) (pa_cons (pv 0) (pa_cons (pe_callB (r := rLenS K) call_lenS (by rfl) T.n_len (by decide +kernel) (pa_cons (pv 2) pa_nil)) pa_nil))) pa_nil))))))), ?_⟩
    walk_at "op"
    refine ⟨_, rfl, _, rfl, RgOk.of_le (by decide) (by omega) (by decide) (by omega), fun L hL => ?_⟩
    have eL : rgV 0 (m : Int) = (List.range m).map fun k : Nat => V.int (k : Nat) := by
      unfold rgV
      rw [show ((m : Int) - 0).toNat = m by omega]
      refine List.map_congr_left fun i _ => ?_
      rw [Int.zero_add]
    rw [eL]
    have nJL := hJ.ne hL
    have s1 := same_new (o := .lst ((List.range m).map fun k : Nat => V.int (k : Nat))) hL
    have hJ1 := hJ.same s1
    have hLL : upd H L (.lst ((List.range m).map fun k : Nat => V.int (k : Nat))) L = some (.lst ((List.range m).map fun k : Nat => V.int (k : Nat))) := upd_same
    have x1 : Ext p H (upd H L (.lst ((List.range m).map fun k : Nat => V.int (k : Nat)))) := Same.ext s1 p
    generalize upd H L (.lst ((List.range m).map fun k : Nat => V.int (k : Nat))) = G1 at *
    refine ⟨_, rfl, _, rfl, by omega, by omega, ?_⟩
    rw [Int.toNat_natCast]
    refine fun R hR => ?_
    have nLR : L ≠ R := ne_of_none hLL hR
    have nJR := hJ1.ne hR
    have hRH : H R = none := by
      cases q : H R with
      | none => rfl
      | some u =>
        have := x1 _ _ q (Ne.symm nJR)
        rw [hR] at this
        cases this
    refine lI walk_range (fun i G => Ext p H G ∧ Jar G p (N + i) ∧ ∃ left got : List Nat, G L = some (.lst (left.map fun k : Nat => V.int (k : Nat))) ∧ G R = some (.lst (got.map fun k : Nat => V.int (k : Nat))) ∧ (got ++ left).Perm (List.range m) ∧ got.length = i)
      ⟨x1.trans (Same.ext (same_new hR) p), hJ1.up nJR, List.range m, [], by rw [upd_ne nLR]; exact hLL, upd_same, List.Perm.refl _, rfl⟩ (fun _ _ _ _ => True.intro) ?_ ?_
    · rintro i x _ G hi ⟨xG, hJG, left, got, hLG, hRG, hP, hgl⟩ ⟨rfl, rfl⟩
      have hlen : left.length = m - i := by
        have := hP.length_eq
        rw [List.length_append, List.length_range] at this
        omega
      walk_at "op"
      refine ⟨rfl, ?_⟩
      refine iteT ?_
      refine ⟨_, rfl, .inl ⟨rfl, _, SqL.of hLG⟩, ?_⟩
      refine ⟨_, rfl, _, rfl, L, _, rfl, .inl (SqL.of hLG), ?_⟩
      rw [List.length_map, hlen]
      refine ⟨p, ((m - i : Nat) : Int), N + i, rfl, by omega, Nat.lt_of_le_of_lt (Nat.log2_le_self _) (by omega), by omega, hJG, fun kk G2 k0 k1 hJ2 x2 => ?_⟩
      have hL2 := x2 _ _ hLG nJL.symm
      have hR2 := x2 _ _ hRG nJR.symm
      obtain ⟨t, rfl⟩ : ∃ t : Nat, kk = (t : Int) := ⟨kk.toNat, by omega⟩
      have ht : t < left.length := by omega
      refine ⟨L, _, t, t, .int (left[t] : Nat), rfl, rfl, hL2, by omega, by omega, (ixN_seq (ixN_of (by rw [List.length_map]; exact ht))).1, by rw [List.getElem?_map, List.getElem?_eq_getElem ht]; rfl, ?_⟩
      have pm : (got ++ [left[t]] ++ left.eraseIdx t).Perm (List.range m) := by
        refine List.Perm.trans ?_ hP
        rw [List.append_assoc]
        exact List.Perm.append_left got (erase_perm ht)
      refine ⟨got.map fun k : Nat => V.int (k : Nat), by rw [upd_ne nLR.symm]; exact hR2, by rw [List.length_map]; exact Nat.lt_of_le_of_lt (show got.length ≤ 6 by omega) (by rw [sizeLine_eq]; omega), fun b u eb nb => ?_, (hJ2.up nJL).up nJR, left.eraseIdx t, got ++ [left[t]], ?_, ?_, pm, by rw [List.length_append, hgl]; rfl⟩
      · rw [upd_ne (ne_of_none eb hRH), upd_ne (ne_of_none eb hL)]
        exact x2 b u (xG b u eb nb) nb
      · rw [upd_ne nLR, upd_same, map_erase]
      · rw [upd_same, List.map_append]
        rfl
    · rintro G ⟨xG, hJG, left, got, hLG, hRG, hP, hgl⟩
      have hlen : left.length = 0 := by
        have := hP.length_eq
        rw [List.length_append, List.length_range] at this
        omega
      rw [List.length_eq_zero_iff.mp hlen, List.append_nil] at hP
      exact k R got G hRH hRG hP hJG xG
end
end Fm
end FLC
section FLD
set_option Elab.async false
set_option linter.all false
set_option maxRecDepth 100000
set_option maxHeartbeats 4000000
local macro_rules | `(tactic| walk_at "ne") => `(tactic| first | assumption | (apply Ne.symm; assumption) | exact L2.ne_of_none (by assumption) (by assumption) | exact Ne.symm (L2.ne_of_none (by assumption) (by assumption)))
local macro_rules | `(tactic| walk_at "hl") => `(tactic| first | assumption | exact L2.upd_same | (refine Eq.trans (L2.upd_ne (by walk_at "ne")) ?_; walk_at "hl"))
local macro_rules | `(tactic| walk_at "sd") => `(tactic| first | (with_reducible show (_ : Int) < _; omega) | (with_reducible show (_ : Int) ≤ _; omega) | assumption | decide | exact ⟨by assumption, by assumption⟩ | exact ⟨by decide, by decide⟩ | exact Or.inr ⟨by decide, by decide⟩ | exact Or.inl ⟨by omega, by omega⟩ | rfl)
local macro_rules | `(tactic| walk_at "st1") => `(tactic| first
  | refine ⟨_, rfl, ?_⟩
  | refine ⟨_, _, rfl, rfl, ?_⟩
  | refine ⟨_, _, rfl, ?_⟩
  | (refine ⟨_, _, _, _, rfl, rfl, L2.SqL.of (by walk_at "hl"), rfl, ?_⟩)
  | (refine ⟨_, _, _, _, rfl, rfl, L2.SqT.of (by walk_at "hl"), rfl, ?_⟩)
  | (refine ⟨_, _, _, _, rfl, rfl, (by walk_at "hl"), rfl, ?_⟩)
  | (refine And.intro (by walk_at "sd") ?_)
  )
local macro_rules | `(tactic| walk_at "st") => `(tactic| repeat walk_at "st1")
local macro_rules | `(tactic| walk_at "op") => `(tactic| try dsimp only [L2.tSeq, L2.tAsg, L2.tOp, L2.tVar, L2.tC, L2.gSub, L2.rI, L2.rI0, L2.rIxL, L2.rIxT, L2.rSetL, L2.tIfS, L2.tTest, L2.tRet, L2.gName, L2.tNext, L2.tAnd, L2.tOr, L2.tNot, L2.tAndV, L2.tOrV, L2.tNotV, L2.tB, L2.tCB, L2.tCons, L2.tNil, L2.tCall, L2.tTup, L2.tLst, L2.tChain, L2.tUn, L2.tPar, L2.tDrop, L2.tIf, L2.tBM, L2.tBM0, L2.rAppend, L2.rCat, L2.rIsi, L2.rIsiT, L2.gTup, L2.gCons, L2.gNil, Fm.tFor_eq, Fm.tLc_eq, Fm.tLc2_eq, L2.iTup, L2.iList, L2.iRng1, L2.iRng2, L2.tSl, L2.tPart, L2.tNoPart, L2.rSlL, L2.rEq, L2.rNe, L2.rU, L2.rEqD, L2.rNeD, Fm.tRevT, Fm.rLenS, Fm.rTupOf, Fm.rLstOf, L2.tDNewK, L2.tCallS, L2.WE, Fm.wKeep, Fm.rIsK, Fm.rIsKT, List.cons_append, List.nil_append, L2.tYes])
namespace Fm
open PySem PySem.Spec PyProof.Rows L2
abbrev s_law_stay : Stmt := top 40
abbrev N_law_stay : List Str := ["kind", "calls", "m", "back", "number", "b", "a"]
theorem sc_law_stay : FnScope N_law_stay ["kind", "calls"] (defScope s_law_stay) := ⟨rfl, rfl, rfl, by decide +kernel, rfl, by decide +kernel, by decide +kernel⟩
section
variable {P : Program} {w : World} {K : PySem.W.Frag} {mg : Str → Option Value} {base : Heap}
/-! ### tables by kinds -/
def rowF (m : Nat) (g : Nat → Nat) : List Int := (List.range m).map fun b => ((g b : Nat) : Int)
def tabF (m : Nat) (S : Nat → Nat → Nat) : PyData := .tuple ((List.range m).map fun a => rowD (rowF m (S a)))
def callF (l : List Nat) (i : Nat) : Nat := l.getD i 0
def backF (l : List Nat) (a : Nat) : Nat := l.idxOf a
theorem calls_of {m : Nat} {l : List Nat} (h : l.Perm (List.range m)) : FmC.Calls m (callF l) (backF l) := by
  have hlen : l.length = m := by rw [h.length_eq, List.length_range]
  have mem : ∀ a, a < m → a ∈ l := fun a ha => h.mem_iff.mpr (List.mem_range.mpr ha)
  have nd : l.Nodup := h.nodup_iff.mpr List.nodup_range
  refine ⟨fun a ha => ?_, fun a ha => ?_, fun a ha => ?_, fun a ha => ?_⟩
  · have e : callF l a = l[a]'(by omega) := by unfold callF; rw [List.getD_eq_getElem?_getD, List.getElem?_eq_getElem (by omega)]; rfl
    rw [e]
    exact List.mem_range.mp (h.mem_iff.mp (List.getElem_mem _))
  · have := List.idxOf_lt_length_iff.mpr (mem a ha)
    unfold backF
    omega
  · have hi := List.idxOf_lt_length_iff.mpr (mem a ha)
    unfold callF backF
    rw [List.getD_eq_getElem?_getD, List.getElem?_eq_getElem hi]
    exact List.getElem_idxOf hi
  · have e : callF l a = l[a]'(by omega) := by unfold callF; rw [List.getD_eq_getElem?_getD, List.getElem?_eq_getElem (by omega)]; rfl
    unfold backF
    rw [e]
    exact nd.idxOf_getElem a (by omega)
theorem rowF_snoc (m : Nat) (g : Nat → Nat) : rowF (m + 1) g = rowF m g ++ [((g m : Nat) : Int)] := by unfold rowF; rw [List.range_succ, List.map_append]; rfl
theorem eqI_self (a : Int) : eqV (.int a) (.int a) = true := by unfold eqV; simp
theorem eqI_ne {a b : Nat} (h : a ≠ b) : eqV (.int (a : Nat)) (.int (b : Nat)) = false := by
  unfold eqV
  simp
  omega
def spStay : Sp := fun vs H Q _ => ∃ (p q : Addr) (u : HO) (kind m : Nat) (l : List Nat), vs = [.int (kind : Nat), .ref q] ∧ H p = some u ∧ kind < 6 ∧ 1 ≤ m ∧ m ≤ 6 ∧ H q = some (.lst (l.map fun k : Nat => V.int (k : Nat))) ∧ l.Perm (List.range m) ∧
  ∀ v H', Dat H' p v (tabF m (FmC.stayOf kind m (callF l) (backF l))) → Same H H' → Q v H'
theorem ok_law_stay (D : Df K mg "_law_stay" s_law_stay ["kind", "calls"]) (T : Nms mg) (c_law_word : CallOk P w K mg base CX0 1 "_law_word" ["kind", "a", "b", "m"] spWord) : CallOk P w K mg base CX0 2 "_law_stay" ["kind", "calls"] spStay := by
  refine df_ok D sc_law_stay (fun vs H Q E h => ?_) (fun f cdv A outer s H vs Q E hr h => ?_)
  · obtain ⟨p, q, u, kind, m, l, rfl, _⟩ := h
    rfl
  · obtain ⟨p, q, u, kind, m, l, rfl, hp, hk, h1, h6, hq, hP, k⟩ := h
    have nd := sc_law_stay.nd
    have C := calls_of hP
    have hlen : l.length = m := by rw [hP.length_eq, List.length_range]
    have hgl : ∀ i, i < m → (l.map fun k : Nat => V.int (k : Nat))[i]? = some (V.int (callF l i : Nat)) := fun i hi => by
      rw [List.getElem?_map, List.getElem?_eq_getElem (by omega)]
      unfold callF
      rw [List.getD_eq_getElem?_getD, List.getElem?_eq_getElem (by omega)]
      rfl
    refine ⟨_, (pss_cons (ps_set (i := 2) nd rfl (Or.inr rfl) (pe_callB (r := rLenS K) call_lenS (by rfl) T.n_len (by decide +kernel) (pa_cons (pv 1) pa_nil)))
      (pss_cons (ps_set (i := 3) nd rfl (Or.inr rfl) (pe_lc (own := [("number", 4)]) (g := (gName 4)) (tt := tYes) (by rfl) nd (pi_range1 rfl T.n_range (pa_cons (pv 2) pa_nil)) (blkOk_by (own := [("number", 4)]) (N := N_law_stay) (sc := defScope s_law_stay) (by decide +kernel)) (fun _ _ _ _ _ => (pg_name (i := 4) nd rfl (Or.inl rfl))) (fun _ _ _ _ _ => pts_nil) (fun _ _ _ _ _ => (pe_bmK (K := K) (r := rIndex K) rfl PySem.F.plainAttrs_list PySem.F.slot_list_index PySem.F.type_list_index mt_index (pv 1) (pa_cons (pv 4) pa_nil)))))
      (pss_one (ps_ret (pe_callTy (r := rTupOf K) call_tupOf (by rfl) T.n_tuple (by decide +kernel) (pa_cons (pe_lc (own := [("a", 6)]) (g := (gName 6)) (tt := tYes) (by rfl) nd (pi_range1 rfl T.n_range (pa_cons (pv 2) pa_nil)) (blkOk_by (own := [("a", 6)]) (N := N_law_stay) (sc := defScope s_law_stay) (by decide +kernel)) (fun _ _ _ _ _ => (pg_name (i := 6) nd rfl (Or.inr rfl))) (fun _ _ _ _ _ => pts_nil) (fun _ _ _ _ _ => (pe_callTy (r := rTupOf K) call_tupOf (by rfl) T.n_tuple (by decide +kernel) (pa_cons (pe_lc (own := [("b", 5)]) (g := (gName 5)) (tt := tYes) (by rfl) nd (pi_range1 rfl T.n_range (pa_cons (pv 2) pa_nil)) (blkOk_by (own := [("b", 5)]) (N := N_law_stay) (sc := relS _ (defScope s_law_stay)) (by decide +kernel)) (fun _ _ _ _ _ => (pg_name (i := 5) nd rfl (Or.inl rfl))) (fun _ _ _ _ _ => pts_nil) (fun _ _ _ _ _ => (pe_ix (r := rIxL K) ix_list (pv 1) (pe_cc c_law_word (hr.mono (by omega)) (pa_cons (pv 0) (pa_cons (pe_ix (r := rIxL K) ix_list (pv 3) (pv 6) (fun _ _ => rfl)) (pa_cons (pe_ix (r := rIxL K) ix_list (pv 3) (pv 5) (fun _ _ => rfl)) (pa_cons (pv 2) pa_nil))))) (fun _ _ => rfl)))) pa_nil)))) pa_nil)))))), ?_⟩
    walk_at "op"
    refine ⟨_, rfl, q, _, rfl, .inl (SqL.of hq), ?_⟩
    rw [List.length_map, hlen]
    refine ⟨_, rfl, _, rfl, by omega, by omega, ?_⟩
    rw [Int.toNat_natCast]
    refine fun B hB => ?_
    refine lI walk_range (fun i G => Same H G ∧ G B = some (.lst ((rowF i (backF l)).map V.int))) ⟨same_new hB, upd_same⟩ (fun _ _ _ _ => True.intro) ?_ ?_
    · rintro i x _ G hi ⟨sG, hBG⟩ ⟨rfl, rfl⟩
      walk_at "op"
      refine ⟨rfl, ?_⟩
      refine iteT ?_
      rw [Int.zero_add]
      refine ⟨_, rfl, .inl ⟨rfl, _, SqL.of (sG _ _ hq)⟩, _, rfl, q, _, _, backF l i, .int (callF l (backF l i) : Nat), rfl, rfl, SqL.of (sG _ _ hq), rfl, ?_, hgl _ (C.bm i hi), ?_, ?_, ?_⟩
      · rw [List.all_eq_true]
        intro x hx
        obtain ⟨k, _, rfl⟩ := List.mem_map.mp hx
        rfl
      · rw [C.cb i hi]
        exact eqI_self _
      · intro m' z hm hz
        have hb := C.bm i hi
        rw [hgl m' (by omega)] at hz
        cases hz
        refine eqI_ne fun e => ?_
        have : backF l (callF l m') = backF l i := by rw [e]
        rw [C.bc m' (by omega)] at this
        omega
      · refine ⟨_, hBG, by unfold rowF; rw [List.length_map, List.length_map, List.length_range]; exact Nat.lt_of_le_of_lt (show i ≤ 6 by omega) (by rw [sizeLine_eq]; omega), sameOff sG hB, ?_⟩
        rw [upd_same, rowF_snoc, List.map_append]
        rfl
    · rintro G ⟨sG, hBG⟩
      have hgb : ∀ i, i < m → ((rowF m (backF l)).map V.int)[i]? = some (V.int (backF l i : Nat)) := fun i hi => by
        unfold rowF
        rw [List.getElem?_map, List.getElem?_map, List.getElem?_range hi]
        rfl
      walk_at "op"
      refine ⟨_, rfl, _, rfl, by omega, by omega, ?_⟩
      rw [Int.toNat_natCast]
      refine fun D0 hD0 => ?_
      refine lI walk_range (fun i G2 => Same G G2 ∧ ∃ ws, G2 D0 = some (.lst ws) ∧ Dats G2 p ws (((List.range m).take i).map fun a => rowD (rowF m (FmC.stayOf kind m (callF l) (backF l) a)))) ⟨same_new hD0, [], upd_same, Dats.nil⟩ (fun _ _ _ _ => True.intro) ?_ ?_
      · rintro a x _ G2 ha ⟨s2, ws, hw, hW⟩ ⟨rfl, rfl⟩
        have sH2 := sG.trans s2
        have hga : (List.range m)[a]? = some a := List.getElem?_range ha
        walk_at "op"
        refine ⟨rfl, ?_⟩
        refine iteT ?_
        refine ⟨_, rfl, _, rfl, by omega, by omega, ?_⟩
        rw [Int.toNat_natCast]
        refine fun R hR => ?_
        have nDR : D0 ≠ R := ne_of_none hw hR
        refine lI walk_range (fun j G3 => Same G2 G3 ∧ G3 R = some (.lst ((rowF j (FmC.stayOf kind m (callF l) (backF l) a)).map V.int))) ⟨same_new hR, upd_same⟩ (fun _ _ _ _ => True.intro) ?_ ?_
        · rintro b x _ G3 hb ⟨s3, hR3⟩ ⟨rfl, rfl⟩
          have sH3 := sH2.trans s3
          have s03 := s2.trans s3
          walk_at "op"
          refine ⟨rfl, ?_⟩
          refine iteT ?_
          rw [Int.zero_add, Int.zero_add]
          have hw6 := (FmC.word_facts m (by omega) kind hk _ (C.bm a ha) _ (C.bm b hb)).1
          refine ⟨_, rfl, _, rfl, _, rfl, _, rfl, B, _, _, _, rfl, rfl, SqL.of (s03 _ _ hBG), atI_nat (hgb a ha), _, rfl, _, rfl, B, _, _, _, rfl, rfl, SqL.of (s03 _ _ hBG), atI_nat (hgb b hb), _, rfl, kind, backF l a, backF l b, m, rfl, hk, C.bm a ha, C.bm b hb, h6, fun G4 s4 => ?_⟩
          refine ⟨q, _, _, _, rfl, rfl, SqL.of ((sH3.trans s4) _ _ hq), atI_nat (hgl _ hw6), ?_⟩
          refine ⟨_, s4 _ _ hR3, by unfold rowF; rw [List.length_map, List.length_map, List.length_range]; exact Nat.lt_of_le_of_lt (show b ≤ 6 by omega) (by rw [sizeLine_eq]; omega), sameOff (s3.trans s4) hR, ?_⟩
          rw [upd_same, rowF_snoc, List.map_append]
          rfl
        · rintro G3 ⟨s3, hR3⟩
          refine ⟨R, _, rfl, .inl ⟨SqL.of hR3, fun t ht => ?_⟩⟩
          have s4 := s3.trans (same_new (o := .tup ((rowF m (FmC.stayOf kind m (callF l) (backF l) a)).map V.int)) ht)
          have hw4 := s4 _ _ hw
          have hwl : ws.length ≤ 6 := by
            rw [hW.1, List.length_map, List.length_take, List.length_range]
            omega
          refine ⟨ws, hw4, Nat.lt_of_le_of_lt hwl (by rw [sizeLine_eq]; omega), sameOff (s2.trans s4) hD0, ws ++ [.ref t], upd_same, ?_⟩
          rw [tk_snoc hga, List.map_append]
          refine (Dats.setL hw4 ⟨hW.1, fun i x d a b => (hW.2 i x d a b).same s4⟩ (fun d hd => by obtain ⟨r, _, rfl⟩ := List.mem_map.mp hd; exact noList_ints' _)).snoc (Dat.setL hw4 (.tup upd_same (pne_of hp (sH2.trans s3) ht) (by rw [List.length_map, List.length_map]) fun i x d a b => (Dats.ints (p := p) _).2 i x d a b) (noList_ints' _))
      · rintro G2 ⟨s2, ws, hw, hW⟩
        rw [show (List.range m).take m = List.range m from List.take_of_length_le (by rw [List.length_range]; exact Nat.le_refl _)] at hW
        refine ⟨D0, ws, rfl, .inl ⟨SqL.of hw, fun t ht => ?_⟩⟩
        exact k _ _ (Dat.new ht (pne_of hp (sG.trans s2) ht) hW) ((sG.trans s2).trans (same_new ht))
end
end Fm
end FLD
section FLE
set_option Elab.async false
set_option linter.all false
set_option maxRecDepth 100000
set_option maxHeartbeats 4000000
local macro_rules | `(tactic| walk_at "ne") => `(tactic| first | assumption | (apply Ne.symm; assumption) | exact L2.ne_of_none (by assumption) (by assumption) | exact Ne.symm (L2.ne_of_none (by assumption) (by assumption)))
local macro_rules | `(tactic| walk_at "hl") => `(tactic| first | assumption | exact L2.upd_same | (refine Eq.trans (L2.upd_ne (by walk_at "ne")) ?_; walk_at "hl"))
local macro_rules | `(tactic| walk_at "sd") => `(tactic| first | (with_reducible show (_ : Int) < _; omega) | (with_reducible show (_ : Int) ≤ _; omega) | assumption | decide | exact ⟨by assumption, by assumption⟩ | exact ⟨by decide, by decide⟩ | exact Or.inr ⟨by decide, by decide⟩ | exact Or.inl ⟨by omega, by omega⟩ | rfl)
local macro_rules | `(tactic| walk_at "st1") => `(tactic| first
  | refine ⟨_, rfl, ?_⟩
  | refine ⟨_, _, rfl, rfl, ?_⟩
  | refine ⟨_, _, rfl, ?_⟩
  | (refine ⟨_, _, _, _, rfl, rfl, L2.SqL.of (by walk_at "hl"), rfl, ?_⟩)
  | (refine ⟨_, _, _, _, rfl, rfl, L2.SqT.of (by walk_at "hl"), rfl, ?_⟩)
  | (refine ⟨_, _, _, _, rfl, rfl, (by walk_at "hl"), rfl, ?_⟩)
  | (refine And.intro (by walk_at "sd") ?_)
  )
local macro_rules | `(tactic| walk_at "st") => `(tactic| repeat walk_at "st1")
local macro_rules | `(tactic| walk_at "op") => `(tactic| try dsimp only [L2.tSeq, L2.tAsg, L2.tOp, L2.tVar, L2.tC, L2.gSub, L2.rI, L2.rI0, L2.rIxL, L2.rIxT, L2.rSetL, L2.tIfS, L2.tTest, L2.tRet, L2.gName, L2.tNext, L2.tAnd, L2.tOr, L2.tNot, L2.tAndV, L2.tOrV, L2.tNotV, L2.tB, L2.tCB, L2.tCons, L2.tNil, L2.tCall, L2.tTup, L2.tLst, L2.tChain, L2.tUn, L2.tPar, L2.tDrop, L2.tIf, L2.tBM, L2.tBM0, L2.rAppend, L2.rCat, L2.rIsi, L2.rIsiT, L2.gTup, L2.gCons, L2.gNil, Fm.tFor_eq, Fm.tLc_eq, Fm.tLc2_eq, L2.iTup, L2.iList, L2.iRng1, L2.iRng2, L2.tSl, L2.tPart, L2.tNoPart, L2.rSlL, L2.rEq, L2.rNe, L2.rU, L2.rEqD, L2.rNeD, Fm.tRevT, Fm.rLenS, Fm.rTupOf, Fm.rLstOf, L2.tDNewK, L2.tCallS, L2.WE, Fm.wKeep, Fm.rIsK, Fm.rIsKT, List.cons_append, List.nil_append, L2.tYes])
namespace Fm
open PySem PySem.Spec PyProof.Rows L2
abbrev s_law_up : Stmt := top 41
abbrev N_law_up : List Str := ["way", "calls", "goes", "m", "back", "number", "found", "a", "row", "b", "one"]
theorem sc_law_up : FnScope N_law_up ["way", "calls", "goes"] (defScope s_law_up) := ⟨rfl, rfl, rfl, by decide +kernel, rfl, by decide +kernel, by decide +kernel⟩
section
variable {P : Program} {w : World} {K : PySem.W.Frag} {mg : Str → Option Value} {base : Heap}
/-! ### tables of who goes up -/
theorem goes_list {way x y m : Nat} (hw : way < 3) : ([V.int (if (y : Int) < x then y else x), V.int (((x : Int) + y) / m), V.int 0] : List V)[way]? = some (.int (FmC.goesAt way x y m : Nat)) := by
  match way, hw with
  | 0, _ =>
    refine vint ?_
    show _ = ((min x y : Nat) : Int)
    split <;> omega
  | 1, _ =>
    refine vint ?_
    show _ = (((x + y) / m : Nat) : Int)
    rw [Int.natCast_ediv, Int.natCast_add]
  | 2, _ => exact vint rfl
def spUpT : Sp := fun vs H Q _ => ∃ (p q g : Addr) (u : HO) (way m : Nat) (l gl : List Nat), vs = [.int (way : Nat), .ref q, .ref g] ∧ H p = some u ∧ way < 3 ∧ 1 ≤ m ∧ m ≤ 6 ∧ H q = some (.lst (l.map fun k : Nat => V.int (k : Nat))) ∧ l.Perm (List.range m) ∧ H g = some (.lst (gl.map fun k : Nat => V.int (k : Nat))) ∧
  (∀ a b, a < m → b < m → FmC.goesAt way a b m < gl.length) ∧ ∀ v H', Dat H' p v (tabF m (FmC.upOf way m (backF l) (callF gl))) → Same H H' → Q v H'
theorem ok_law_up (D : Df K mg "_law_up" s_law_up ["way", "calls", "goes"]) (T : Nms mg) : CallOk P w K mg base CX0 1 "_law_up" ["way", "calls", "goes"] spUpT := by
  refine df_ok D sc_law_up (fun vs H Q E h => ?_) (fun f cdv A outer s H vs Q E hr h => ?_)
  · obtain ⟨p, q, g, u, way, m, l, gl, rfl, _⟩ := h
    rfl
  · obtain ⟨p, q, g, u, way, m, l, gl, rfl, hp, hk, h1, h6, hq, hP, hg, hgo, k⟩ := h
    have nd := sc_law_up.nd
    have C := calls_of hP
    have hlen : l.length = m := by rw [hP.length_eq, List.length_range]
    have hgl : ∀ i, i < m → (l.map fun k : Nat => V.int (k : Nat))[i]? = some (V.int (callF l i : Nat)) := fun i hi => by
      rw [List.getElem?_map, List.getElem?_eq_getElem (by omega)]
      unfold callF
      rw [List.getD_eq_getElem?_getD, List.getElem?_eq_getElem (by omega)]
      rfl
    have hgg : ∀ i, i < gl.length → (gl.map fun k : Nat => V.int (k : Nat))[i]? = some (V.int (callF gl i : Nat)) := fun i hi => by
      rw [List.getElem?_map, List.getElem?_eq_getElem hi]
      unfold callF
      rw [List.getD_eq_getElem?_getD, List.getElem?_eq_getElem hi]
      rfl
    refine ⟨_, (pss_cons (ps_set (i := 3) nd rfl (Or.inr rfl) (pe_callB (r := rLenS K) call_lenS (by rfl) T.n_len (by decide +kernel) (pa_cons (pv 1) pa_nil)))
      (pss_cons (ps_set (i := 4) nd rfl (Or.inr rfl) (pe_lc (own := [("number", 5)]) (g := (gName 5)) (tt := tYes) (by rfl) nd (pi_range1 rfl T.n_range (pa_cons (pv 3) pa_nil)) (blkOk_by (own := [("number", 5)]) (N := N_law_up) (sc := defScope s_law_up) (by decide +kernel)) (fun _ _ _ _ _ => (pg_name (i := 5) nd rfl (Or.inl rfl))) (fun _ _ _ _ _ => pts_nil) (fun _ _ _ _ _ => (pe_bmK (K := K) (r := rIndex K) rfl PySem.F.plainAttrs_list PySem.F.slot_list_index PySem.F.type_list_index mt_index (pv 1) (pa_cons (pv 5) pa_nil)))))
      (pss_cons (ps_set (i := 6) nd rfl (Or.inl rfl) (pe_lst pa_nil))
      (pss_cons (ps_for PassesOwn.never rfl (pi_range1 rfl T.n_range (pa_cons (pv 3) pa_nil)) (pg_name (i := 7) nd rfl (Or.inr rfl)) (pss_cons (ps_setLc (i := 8) (own := [("b", 9)]) (g := (gName 9)) (tt := tYes) (by rfl) nd rfl rfl (sw_true rfl rfl rfl (by decide +kernel)) (pi_range1 rfl T.n_range (pa_cons (pv 3) pa_nil)) (blkOk_by (own := [("b", 9)]) (N := N_law_up) (sc := defScope s_law_up) (by decide +kernel)) (fun _ _ _ _ _ => (pg_name (i := 9) nd rfl (Or.inl rfl))) (fun _ _ _ _ _ => pts_nil) (fun _ _ _ _ _ => (pe_ix (r := rIxL K) ix_list (pe_lst (pa_cons (pe_callB (call_min2 rfl) (by rfl) T.n_min (by decide +kernel) (pa_cons (pe_ix (r := rIxL K) ix_list (pv 4) (pv 7) (fun _ _ => rfl)) (pa_cons (pe_ix (r := rIxL K) ix_list (pv 4) (pv 9) (fun _ _ => rfl)) pa_nil))) (pa_cons (pe_op op_fdivW (pe_op op_add (pe_ix (r := rIxL K) ix_list (pv 4) (pv 7) (fun _ _ => rfl)) (pe_ix (r := rIxL K) ix_list (pv 4) (pv 9) (fun _ _ => rfl))) (pv 3)) (pa_cons pe_int pa_nil)))) (pv 0) (fun _ _ => rfl))))
      (pss_one (ps_expr (pe_bm PySem.F.plainAttrs_list PySem.F.slot_list_append PySem.F.type_list_append mt_append (pv 6) (pa_cons (pe_callTy (r := rTupOf K) call_tupOf (by rfl) T.n_tuple (by decide +kernel) (pa_cons (pe_lc (own := [("one", 10)]) (g := (gName 10)) (tt := tYes) (by rfl) nd (pi_list (pv 8)) (blkOk_by (own := [("one", 10)]) (N := N_law_up) (sc := defScope s_law_up) (by decide +kernel)) (fun _ _ _ _ _ => (pg_name (i := 10) nd rfl (Or.inl rfl))) (fun _ _ _ _ _ => pts_nil) (fun _ _ _ _ _ => (pe_ix (r := rIxL K) ix_list (pv 2) (pv 10) (fun _ _ => rfl)))) pa_nil)) pa_nil))))))
      (pss_one (ps_ret (pe_callTy (r := rTupOf K) call_tupOf (by rfl) T.n_tuple (by decide +kernel) (pa_cons (pv 6) pa_nil)))))))), ?_⟩
    walk_at "op"
    refine ⟨_, rfl, q, _, rfl, .inl (SqL.of hq), ?_⟩
    rw [List.length_map, hlen]
    refine ⟨_, rfl, _, rfl, by omega, by omega, ?_⟩
    rw [Int.toNat_natCast]
    refine fun B hB => ?_
    refine lI walk_range (fun i G => Same H G ∧ G B = some (.lst ((rowF i (backF l)).map V.int))) ⟨same_new hB, upd_same⟩ (fun _ _ _ _ => True.intro) ?_ ?_
    · rintro i x _ G hi ⟨sG, hBG⟩ ⟨rfl, rfl⟩
      walk_at "op"
      refine ⟨rfl, ?_⟩
      refine iteT ?_
      rw [Int.zero_add]
      refine ⟨_, rfl, .inl ⟨rfl, _, SqL.of (sG _ _ hq)⟩, _, rfl, q, _, _, backF l i, .int (callF l (backF l i) : Nat), rfl, rfl, SqL.of (sG _ _ hq), rfl, ?_, hgl _ (C.bm i hi), ?_, ?_, ?_⟩
      · rw [List.all_eq_true]
        intro x hx
        obtain ⟨k, _, rfl⟩ := List.mem_map.mp hx
        rfl
      · rw [C.cb i hi]
        exact eqI_self _
      · intro m' z hm hz
        have hb := C.bm i hi
        rw [hgl m' (by omega)] at hz
        cases hz
        refine eqI_ne fun e => ?_
        have : backF l (callF l m') = backF l i := by rw [e]
        rw [C.bc m' (by omega)] at this
        omega
      · refine ⟨_, hBG, by unfold rowF; rw [List.length_map, List.length_map, List.length_range]; exact Nat.lt_of_le_of_lt (show i ≤ 6 by omega) (by rw [sizeLine_eq]; omega), sameOff sG hB, ?_⟩
        rw [upd_same, rowF_snoc, List.map_append]
        rfl
    · rintro G ⟨sG, hBG⟩
      have hgb : ∀ i, i < m → ((rowF m (backF l)).map V.int)[i]? = some (V.int (backF l i : Nat)) := fun i hi => by
        unfold rowF
        rw [List.getElem?_map, List.getElem?_map, List.getElem?_range hi]
        rfl
      walk_at "op"
      refine ⟨Nat.zero_le _, fun D0 hD0 => ?_⟩
      have nBD : B ≠ D0 := ne_of_none hBG hD0
      refine ⟨_, rfl, _, rfl, by omega, by omega, ?_⟩
      rw [Int.toNat_natCast]
      refine fI walk_range (fun i σ G2 => ∃ (u7 u8 : Option V) (ws : List V), σ = [some (.int (way : Nat)), some (.ref q), some (.ref g), some (.int (m : Nat)), some (.ref B), none, some (.ref D0), u7, u8, none, none] ∧ Same G G2 ∧ G2 D0 = some (.lst ws) ∧ Dats G2 p ws (((List.range m).take i).map fun a => rowD (rowF m (FmC.upOf way m (backF l) (callF gl) a)))) ⟨none, none, [], rfl, same_new hD0, upd_same, Dats.nil⟩ (fun _ _ _ _ _ => True.intro) ?_ ?_
      · rintro a x σ _ G2 ha ⟨u7, u8, ws, rfl, s2, hw, hW⟩ ⟨rfl, rfl⟩
        dsimp only
        rw [Int.zero_add]
        have sH2 := sG.trans s2
        have hga : (List.range m)[a]? = some a := List.getElem?_range ha
        walk_at "op"
        refine ⟨_, rfl, _, rfl, by omega, by omega, ?_⟩
        rw [Int.toNat_natCast]
        refine fun R hR => ?_
        have nDR : D0 ≠ R := ne_of_none hw hR
        refine lI walk_range (fun j G3 => Same G2 G3 ∧ G3 R = some (.lst ((rowF j (fun b => FmC.goesAt way (backF l a) (backF l b) m)).map V.int))) ⟨same_new hR, upd_same⟩ (fun _ _ _ _ => True.intro) ?_ ?_
        · rintro b x _ G3 hb ⟨s3, hR3⟩ ⟨rfl, rfl⟩
          have s03 := s2.trans s3
          walk_at "op"
          refine ⟨rfl, ?_⟩
          refine iteT ?_
          rw [Int.zero_add]
          have gB := s03 _ _ hBG
          refine ⟨_, rfl, _, rfl, B, _, _, _, rfl, rfl, SqL.of gB, atI_nat (hgb a ha), _, rfl, _, rfl, B, _, _, _, rfl, rfl, SqL.of gB, atI_nat (hgb b hb), _, _, rfl, ?_⟩
          refine ⟨_, rfl, _, rfl, B, _, _, _, rfl, rfl, SqL.of gB, atI_nat (hgb a ha), _, rfl, _, rfl, B, _, _, _, rfl, rfl, SqL.of gB, atI_nat (hgb b hb), _, _, rfl, rfl, ?_⟩
          refine ⟨_, rfl, _, _, rfl, rfl, ⟨by omega, Nat.lt_of_le_of_lt (Nat.log2_le_self _) (by omega)⟩, by show 3 ≤ sizeLine; decide, fun t ht => ?_⟩
          refine ⟨_, rfl, t, _, _, _, rfl, rfl, SqL.of upd_same, atI_nat (goes_list hk), ?_⟩
          have s4 := same_new (o := .lst [V.int (if ((backF l b : Nat) : Int) < (backF l a : Nat) then ((backF l b : Nat) : Int) else (backF l a : Nat)), V.int ((((backF l a : Nat) : Int) + (backF l b : Nat)) / (m : Nat)), V.int 0]) ht
          refine ⟨_, s4 _ _ hR3, by unfold rowF; rw [List.length_map, List.length_map, List.length_range]; exact Nat.lt_of_le_of_lt (show b ≤ 6 by omega) (by rw [sizeLine_eq]; omega), sameOff (s3.trans s4) hR, ?_⟩
          rw [upd_same, rowF_snoc, List.map_append]
          rfl
        · rintro G3 ⟨s3, hR3⟩
          have sH3 := sH2.trans s3
          have hw3 := s3 _ _ hw
          walk_at "op"
          refine ⟨_, rfl, .inl ⟨rfl, _, SqL.of hw3⟩, _, rfl, R, rfl, ⟨_, SqL.of hR3⟩, fun R2 hR2 => ?_⟩
          have hlr : ((rowF m (fun b => FmC.goesAt way (backF l a) (backF l b) m)).map V.int).length = m := by unfold rowF; rw [List.length_map, List.length_map, List.length_range]
          refine lI walk_list (fun j G4 => Same G3 G4 ∧ G4 R2 = some (.lst ((rowF j (FmC.upOf way m (backF l) (callF gl) a)).map V.int))) ⟨same_new hR2, upd_same⟩ (fun _ _ _ ⟨e, _⟩ => SqL.of (e _ _ hR3)) ?_ ?_
          · rintro b x _ G4 hb ⟨s4, hR4⟩ ⟨rfl, hxb⟩
            rw [hlr] at hb
            unfold rowF at hxb
            rw [List.getElem?_map, List.getElem?_map, List.getElem?_range hb] at hxb
            cases hxb
            walk_at "op"
            refine ⟨rfl, ?_⟩
            refine iteT ?_
            refine ⟨_, rfl, _, rfl, g, _, _, _, rfl, rfl, SqL.of ((sH3.trans s4) _ _ hg), atI_nat (hgg _ (hgo _ _ (C.bm a ha) (C.bm b hb))), ?_⟩
            refine ⟨_, hR4, by unfold rowF; rw [List.length_map, List.length_map, List.length_range]; exact Nat.lt_of_le_of_lt (show b ≤ 6 by omega) (by rw [sizeLine_eq]; omega), sameOff s4 hR2, ?_⟩
            rw [upd_same, rowF_snoc, List.map_append]
            rfl
          · rintro G4 ⟨s4, hR4⟩
            rw [hlr] at hR4
            refine ⟨R2, _, rfl, .inl ⟨SqL.of hR4, fun t ht => ?_⟩⟩
            have s5 := (s3.trans s4).trans (same_new (o := .tup ((rowF m (FmC.upOf way m (backF l) (callF gl) a)).map V.int)) ht)
            have hw5 := s5 _ _ hw
            have hwl : ws.length ≤ 6 := by
              rw [hW.1, List.length_map, List.length_take, List.length_range]
              omega
            refine ⟨D0, ws, .ref t, rfl, rfl, hw5, Nat.lt_of_le_of_lt hwl (by rw [sizeLine_eq]; omega), _, _, ws ++ [.ref t], rfl, sameOff (s2.trans s5) hD0, upd_same, ?_⟩
            rw [tk_snoc hga, List.map_append]
            refine (Dats.setL hw5 ⟨hW.1, fun i x d a b => (hW.2 i x d a b).same s5⟩ (fun d hd => by obtain ⟨r, _, rfl⟩ := List.mem_map.mp hd; exact noList_ints' _)).snoc (Dat.setL hw5 (.tup upd_same (pne_of hp (sH3.trans s4) ht) (by rw [List.length_map, List.length_map]) fun i x d a b => (Dats.ints (p := p) _).2 i x d a b) (noList_ints' _))
      · rintro σ G2 ⟨u7, u8, ws, rfl, s2, hw, hW⟩
        rw [show (List.range m).take m = List.range m from List.take_of_length_le (by rw [List.length_range]; exact Nat.le_refl _)] at hW
        walk_at "op"
        refine ⟨_, rfl, D0, ws, rfl, .inl ⟨SqL.of hw, fun t ht => ?_⟩⟩
        exact k _ _ (Dat.new ht (pne_of hp (sG.trans s2) ht) hW) ((sG.trans s2).trans (same_new ht))
end
end Fm
end FLE
section FLLs
set_option Elab.async false
set_option linter.all false
set_option maxRecDepth 100000
set_option maxHeartbeats 4000000
local macro_rules | `(tactic| walk_at "ne") => `(tactic| first | assumption | (apply Ne.symm; assumption) | exact L2.ne_of_none (by assumption) (by assumption) | exact Ne.symm (L2.ne_of_none (by assumption) (by assumption)))
local macro_rules | `(tactic| walk_at "hl") => `(tactic| first | assumption | exact L2.upd_same | (refine Eq.trans (L2.upd_ne (by walk_at "ne")) ?_; walk_at "hl"))
local macro_rules | `(tactic| walk_at "sd") => `(tactic| first | (with_reducible show (_ : Int) < _; omega) | (with_reducible show (_ : Int) ≤ _; omega) | assumption | decide | exact ⟨by assumption, by assumption⟩ | exact ⟨by decide, by decide⟩ | exact Or.inr ⟨by decide, by decide⟩ | exact Or.inl ⟨by omega, by omega⟩ | rfl)
local macro_rules | `(tactic| walk_at "st1") => `(tactic| first
  | refine ⟨_, rfl, ?_⟩
  | refine ⟨_, _, rfl, rfl, ?_⟩
  | refine ⟨_, _, rfl, ?_⟩
  | (refine ⟨_, _, _, _, rfl, rfl, L2.SqL.of (by walk_at "hl"), rfl, ?_⟩)
  | (refine ⟨_, _, _, _, rfl, rfl, L2.SqT.of (by walk_at "hl"), rfl, ?_⟩)
  | (refine ⟨_, _, _, _, rfl, rfl, (by walk_at "hl"), rfl, ?_⟩)
  | (refine And.intro (by walk_at "sd") ?_)
  )
local macro_rules | `(tactic| walk_at "st") => `(tactic| repeat walk_at "st1")
local macro_rules | `(tactic| walk_at "op") => `(tactic| try dsimp only [L2.tSeq, L2.tAsg, L2.tOp, L2.tVar, L2.tC, L2.gSub, L2.rI, L2.rI0, L2.rIxL, L2.rIxT, L2.rSetL, L2.tIfS, L2.tTest, L2.tRet, L2.gName, L2.tNext, L2.tAnd, L2.tOr, L2.tNot, L2.tAndV, L2.tOrV, L2.tNotV, L2.tB, L2.tCB, L2.tCons, L2.tNil, L2.tCall, L2.tTup, L2.tLst, L2.tChain, L2.tUn, L2.tPar, L2.tDrop, L2.tIf, L2.tBM, L2.tBM0, L2.rAppend, L2.rCat, L2.rIsi, L2.rIsiT, L2.gTup, L2.gCons, L2.gNil, Fm.tFor_eq, Fm.tLc_eq, Fm.tLc2_eq, L2.iTup, L2.iList, L2.iRng1, L2.iRng2, L2.tSl, L2.tPart, L2.tNoPart, L2.rSlL, L2.rEq, L2.rNe, L2.rU, L2.rEqD, L2.rNeD, Fm.tRevT, Fm.rLenS, Fm.rTupOf, Fm.rLstOf, L2.tDNewK, L2.tCallS, L2.WE, Fm.wKeep, Fm.rIsK, Fm.rIsKT, List.cons_append, List.nil_append, L2.tYes])
namespace Fm
open PySem PySem.Spec PyProof.Rows L2
section
variable {P : Program} {w : World} {K : PySem.W.Frag} {mg : Str → Option Value} {base : Heap}
def rowL (r : List Int) : PyData := .list (r.map PyData.int)
structure LL (H : Hp) (p L : Addr) (ws : List V) (fl : List (List Int)) : Prop where
  at_ : H L = some (.lst ws)
  len : ws.length = fl.length
  row : ∀ (j : Nat) (c : List Int), fl[j]? = some c → ∃ b : Addr, ws[j]? = some (V.ref b) ∧ H b = some (.lst (c.map V.int)) ∧ b ≠ L ∧ b ≠ p
theorem LL.nil {H : Hp} {p L : Addr} (h : H L = some (.lst [])) : LL H p L [] [] := ⟨h, rfl, fun j c e => by cases e⟩
theorem LL.same {H H' : Hp} {p L : Addr} {ws : List V} {fl : List (List Int)} (h : LL H p L ws fl) (e : Same H H') : LL H' p L ws fl :=
  ⟨e _ _ h.at_, h.len, fun j c q => by
    obtain ⟨b, e1, e2, e3⟩ := h.row j c q
    exact ⟨b, e1, e _ _ e2, e3⟩⟩
theorem LL.snoc {H : Hp} {p L b : Addr} {ws : List V} {fl : List (List Int)} {c : List Int} (h : LL H p L ws fl) (hb : H b = some (.lst (c.map V.int))) (n1 : b ≠ L) (n2 : b ≠ p) : LL (upd H L (.lst (ws ++ [.ref b]))) p L (ws ++ [.ref b]) (fl ++ [c]) := by
  refine ⟨upd_same, by rw [List.length_append, List.length_append, h.len]; rfl, fun j d q => ?_⟩
  by_cases hj : j < fl.length
  · rw [List.getElem?_append_left hj] at q
    obtain ⟨b', e1, e2, e3, e4⟩ := h.row j d q
    exact ⟨b', by rw [List.getElem?_append_left (by rw [h.len]; exact hj)]; exact e1, by rw [upd_ne e3]; exact e2, e3, e4⟩
  · rw [List.getElem?_append_right (by omega)] at q
    cases z : j - fl.length with
    | zero =>
      rw [z] at q
      cases q
      exact ⟨b, by rw [List.getElem?_append_right (by rw [h.len]; omega), h.len, z]; rfl, by rw [upd_ne n1]; exact hb, n1, n2⟩
    | succ k =>
      rw [z] at q
      cases q
theorem LL.dat {H : Hp} {p L : Addr} {ws : List V} {fl : List (List Int)} (h : LL H p L ws fl) (n : L ≠ p) : Dat H p (.ref L) (.list (fl.map rowL)) := by
  refine .lst h.at_ n (by rw [h.len, List.length_map]) fun i x d e1 e2 => ?_
  rw [List.getElem?_map] at e2
  cases q : fl[i]? with
  | none => rw [q] at e2; cases e2
  | some c =>
    rw [q] at e2
    cases e2
    obtain ⟨b, h1, h2, _, h4⟩ := h.row i c q
    rw [h1] at e1
    cases e1
    exact .lst h2 h4 (by rw [List.length_map, List.length_map]) fun j x d a b => (Dats.ints (H := H) (p := p) c).2 j x d a b
theorem LL.set {H : Hp} {p L E : Addr} {ws : List V} {fl : List (List Int)} {c : List Int} {f : Nat} (h : LL H p L ws fl) (hb : H E = some (.lst (c.map V.int))) (n1 : E ≠ L) (n2 : E ≠ p) : LL (upd H L (.lst (ws.set f (.ref E)))) p L (ws.set f (.ref E)) (fl.set f c) := by
  refine ⟨upd_same, by rw [List.length_set, List.length_set, h.len], fun j d q => ?_⟩
  rw [List.getElem?_set] at q
  by_cases hj : f = j
  · subst hj
    rw [if_pos rfl] at q
    by_cases hl : f < fl.length
    · rw [if_pos hl] at q
      cases q
      exact ⟨E, by rw [List.getElem?_set_self (by rw [h.len]; exact hl)], by rw [upd_ne n1]; exact hb, n1, n2⟩
    · rw [if_neg hl] at q
      cases q
  · rw [if_neg hj] at q
    obtain ⟨b, e1, e2, e3, e4⟩ := h.row j d q
    exact ⟨b, by rw [List.getElem?_set_ne hj]; exact e1, by rw [upd_ne e3]; exact e2, e3, e4⟩
theorem LL.updRow {H : Hp} {p L E : Addr} {ws : List V} {fl : List (List Int)} {c : List Int} {f : Nat} (h : LL H p L ws fl) (hw : ws[f]? = some (V.ref E)) (inj : ∀ j, ws[j]? = some (V.ref E) → j = f) : LL (upd H E (.lst (c.map V.int))) p L ws (fl.set f c) := by
  have hf : f < fl.length := by
    rw [← h.len]
    exact (List.getElem?_eq_some_iff.mp hw).1
  obtain ⟨b, e1, e2, e3, e4⟩ := h.row f fl[f] (List.getElem?_eq_getElem hf)
  rw [hw] at e1
  cases e1
  refine ⟨by rw [upd_ne e3.symm]; exact h.at_, by rw [List.length_set, h.len], fun j d q => ?_⟩
  rw [List.getElem?_set] at q
  by_cases hj : f = j
  · subst hj
    rw [if_pos rfl, if_pos hf] at q
    cases q
    exact ⟨E, hw, upd_same, e3, e4⟩
  · rw [if_neg hj] at q
    obtain ⟨b, g1, g2, g3, g4⟩ := h.row j d q
    have nb : b ≠ E := fun z => by
      subst z
      exact hj (inj j g1).symm
    exact ⟨b, g1, by rw [upd_ne nb]; exact g2, g3, g4⟩
theorem LL.ext {H H' : Hp} {p L : Addr} {ws : List V} {fl : List (List Int)} (h : LL H p L ws fl) (e : Ext p H H') (nL : L ≠ p) : LL H' p L ws fl :=
  ⟨e _ _ h.at_ nL, h.len, fun j c q => by
    obtain ⟨b, e1, e2, e3, e4⟩ := h.row j c q
    exact ⟨b, e1, e _ _ e2 e4, e3, e4⟩⟩
def Inj (ws : List V) : Prop := ∀ (i1 i2 : Nat) (b : Addr), ws[i1]? = some (V.ref b) → ws[i2]? = some (V.ref b) → i1 = i2
def Fresh (H0 : Hp) (ws : List V) : Prop := ∀ (i : Nat) (b : Addr), ws[i]? = some (V.ref b) → H0 b = none
theorem snoc_get {ws : List V} {l b : Addr} {i : Nat} (e : (ws ++ [V.ref l])[i]? = some (V.ref b)) : ws[i]? = some (V.ref b) ∨ (i = ws.length ∧ b = l) := by
  by_cases hi : i < ws.length
  · rw [List.getElem?_append_left hi] at e
    exact .inl e
  · rw [List.getElem?_append_right (by omega)] at e
    cases z : i - ws.length with
    | zero =>
      rw [z] at e
      cases e
      exact .inr ⟨by omega, rfl⟩
    | succ w => rw [z] at e; cases e
theorem Inj.snoc {ws : List V} {l : Addr} (h : Inj ws) (n : ∀ (i : Nat) (b : Addr), ws[i]? = some (V.ref b) → b ≠ l) : Inj (ws ++ [V.ref l]) := fun i1 i2 b e1 e2 => by
  rcases snoc_get e1 with q1 | ⟨q1, q2⟩
  · rcases snoc_get e2 with r1 | ⟨r1, r2⟩
    · exact h i1 i2 b q1 r1
    · exact absurd r2 (n i1 b q1)
  · rcases snoc_get e2 with r1 | ⟨r1, r2⟩
    · exact absurd q2 (n i2 b r1)
    · rw [q1, r1]
theorem Fresh.snoc {H0 : Hp} {ws : List V} {l : Addr} (h : Fresh H0 ws) (hl : H0 l = none) : Fresh H0 (ws ++ [V.ref l]) := fun i b e => by
  rcases snoc_get e with q | ⟨_, q⟩
  · exact h i b q
  · rw [q]; exact hl
theorem LL.off {H : Hp} {p L l : Addr} {ws : List V} {fl : List (List Int)} (h : LL H p L ws fl) (hl : H l = none) : ∀ (i : Nat) (b : Addr), ws[i]? = some (V.ref b) → b ≠ l := fun i b e z => by
  obtain ⟨b', e1, e2, _⟩ := h.row i (fl[i]'(by rw [← h.len]; exact (List.getElem?_eq_some_iff.mp e).1)) (List.getElem?_eq_getElem _)
  rw [e] at e1
  cases e1
  subst z
  rw [hl] at e2
  cases e2
end
end Fm
end FLLs
section FLF
set_option Elab.async false
set_option linter.all false
set_option maxRecDepth 100000
set_option maxHeartbeats 4000000
local macro_rules | `(tactic| walk_at "ne") => `(tactic| first | assumption | (apply Ne.symm; assumption) | exact L2.ne_of_none (by assumption) (by assumption) | exact Ne.symm (L2.ne_of_none (by assumption) (by assumption)))
local macro_rules | `(tactic| walk_at "hl") => `(tactic| first | assumption | exact L2.upd_same | (refine Eq.trans (L2.upd_ne (by walk_at "ne")) ?_; walk_at "hl"))
local macro_rules | `(tactic| walk_at "sd") => `(tactic| first | (with_reducible show (_ : Int) < _; omega) | (with_reducible show (_ : Int) ≤ _; omega) | assumption | decide | exact ⟨by assumption, by assumption⟩ | exact ⟨by decide, by decide⟩ | exact Or.inr ⟨by decide, by decide⟩ | exact Or.inl ⟨by omega, by omega⟩ | rfl)
local macro_rules | `(tactic| walk_at "st1") => `(tactic| first
  | refine ⟨_, rfl, ?_⟩
  | refine ⟨_, _, rfl, rfl, ?_⟩
  | refine ⟨_, _, rfl, ?_⟩
  | (refine ⟨_, _, _, _, rfl, rfl, L2.SqL.of (by walk_at "hl"), rfl, ?_⟩)
  | (refine ⟨_, _, _, _, rfl, rfl, L2.SqT.of (by walk_at "hl"), rfl, ?_⟩)
  | (refine ⟨_, _, _, _, rfl, rfl, (by walk_at "hl"), rfl, ?_⟩)
  | (refine And.intro (by walk_at "sd") ?_)
  )
local macro_rules | `(tactic| walk_at "st") => `(tactic| repeat walk_at "st1")
local macro_rules | `(tactic| walk_at "op") => `(tactic| try dsimp only [L2.tSeq, L2.tAsg, L2.tOp, L2.tVar, L2.tC, L2.gSub, L2.rI, L2.rI0, L2.rIxL, L2.rIxT, L2.rSetL, L2.tIfS, L2.tTest, L2.tRet, L2.gName, L2.tNext, L2.tAnd, L2.tOr, L2.tNot, L2.tAndV, L2.tOrV, L2.tNotV, L2.tB, L2.tCB, L2.tCons, L2.tNil, L2.tCall, L2.tTup, L2.tLst, L2.tChain, L2.tUn, L2.tPar, L2.tDrop, L2.tIf, L2.tBM, L2.tBM0, L2.rAppend, L2.rCat, L2.rIsi, L2.rIsiT, L2.gTup, L2.gCons, L2.gNil, Fm.tFor_eq, Fm.tLc_eq, Fm.tLc2_eq, L2.iTup, L2.iList, L2.iRng1, L2.iRng2, L2.tSl, L2.tPart, L2.tNoPart, L2.rSlL, L2.rEq, L2.rNe, L2.rU, L2.rEqD, L2.rNeD, Fm.tRevT, Fm.rLenS, Fm.rTupOf, Fm.rLstOf, L2.tDNewK, L2.tCallS, L2.WE, Fm.wKeep, Fm.rIsK, Fm.rIsKT, List.cons_append, List.nil_append, L2.tYes])
namespace Fm
open PySem PySem.Spec PyProof.Rows L2
abbrev s_law_wild : Stmt := top 42
abbrev N_law_wild : List Str := ["jar", "m", "rows", "b", "a"]
theorem sc_law_wild : FnScope N_law_wild ["jar", "m"] (defScope s_law_wild) := ⟨rfl, rfl, rfl, by decide +kernel, rfl, by decide +kernel, by decide +kernel⟩
section
variable {P : Program} {w : World} {K : PySem.W.Frag} {mg : Str → Option Value} {base : Heap}
/-! ### a table of any kind -/
def WildR (m : Nat) (rows : List (List Int)) : Prop := ∀ r ∈ rows, r.length = m ∧ ∀ x ∈ r, 0 ≤ x ∧ x < (m : Int)
def wildF (rows : List (List Int)) (a b : Nat) : Nat := ((rows.getD (min a b) []).getD (max a b) 0).toNat
theorem WildR.get {m : Nat} {rows : List (List Int)} (h : WildR m rows) (hl : rows.length = m) {a b : Nat} (ha : a < m) (hb : b < m) : ∃ r, rows[a]? = some r ∧ r[b]? = some ((rows.getD a []).getD b 0) ∧ 0 ≤ (rows.getD a []).getD b 0 ∧ (rows.getD a []).getD b 0 < (m : Int) := by
  have ha' : a < rows.length := by omega
  obtain ⟨h1, h2⟩ := h _ (List.getElem_mem ha')
  have e : rows.getD a [] = rows[a] := by rw [List.getD_eq_getElem?_getD, List.getElem?_eq_getElem ha']; rfl
  have e2 : rows[a].getD b 0 = rows[a][b]'(by omega) := by rw [List.getD_eq_getElem?_getD, List.getElem?_eq_getElem (by omega)]; rfl
  rw [e, e2]
  exact ⟨rows[a], List.getElem?_eq_getElem ha', List.getElem?_eq_getElem (by omega), h2 _ (List.getElem_mem _)⟩
def spWild : Sp := fun vs H Q _ => ∃ (p : Addr) (m N : Nat), vs = [.ref p, .int (m : Nat)] ∧ 1 ≤ m ∧ m ≤ 6 ∧ N + 36 ≤ 1000000000 ∧ Jar H p N ∧
  ∀ v H' (W : Nat → Nat → Nat), Dat H' p v (tabF m W) → (∀ a b, a < m → b < m → W a b < m ∧ W a b = W b a) → Jar H' p (N + 36) → Ext p H H' → Q v H'
theorem ok_law_wild (D : Df K mg "_law_wild" s_law_wild ["jar", "m"]) (T : Nms mg) (c_law_dip : CallOk P w K mg base CX0 1 "_law_dip" ["jar", "many"] spDip) : CallOk P w K mg base CX0 2 "_law_wild" ["jar", "m"] spWild := by
  refine df_ok D sc_law_wild (fun vs H Q E h => ?_) (fun f cdv A outer s H vs Q E hr h => ?_)
  · obtain ⟨p, m, N, rfl, _⟩ := h
    rfl
  · obtain ⟨p, m, N, rfl, h1, h6, hN, hJ, k⟩ := h
    have nd := sc_law_wild.nd
    refine ⟨_, (pss_cons (ps_set (i := 2) nd rfl (Or.inr rfl) (pe_lc (own := [("a", 4)]) (g := (gName 4)) (tt := tYes) (by rfl) nd (pi_range1 rfl T.n_range (pa_cons (pv 1) pa_nil)) (blkOk_by (own := [("a", 4)]) (N := N_law_wild) (sc := defScope s_law_wild) (by decide +kernel)) (fun _ _ _ _ _ => (pg_name (i := 4) nd rfl (Or.inl rfl))) (fun _ _ _ _ _ => pts_nil) (fun _ _ _ _ _ => (pe_lc (own := [("b", 3)]) (g := (gName 3)) (tt := tYes) (by rfl) nd (pi_range1 rfl T.n_range (pa_cons (pv 1) pa_nil)) (blkOk_by (own := [("b", 3)]) (N := N_law_wild) (sc := relS _ (defScope s_law_wild)) (by decide +kernel)) (fun _ _ _ _ _ => (pg_name (i := 3) nd rfl (Or.inl rfl))) (fun _ _ _ _ _ => pts_nil) (fun _ _ _ _ _ => (pe_cc c_law_dip (hr.mono (by omega)) (pa_cons (pv 0) (pa_cons (pv 1) pa_nil))))))))
      (pss_one (ps_ret (pe_callTy (r := rTupOf K) call_tupOf (by rfl) T.n_tuple (by decide +kernel) (pa_cons (pe_lc (own := [("a", 4)]) (g := (gName 4)) (tt := tYes) (by rfl) nd (pi_range1 rfl T.n_range (pa_cons (pv 1) pa_nil)) (blkOk_by (own := [("a", 4)]) (N := N_law_wild) (sc := defScope s_law_wild) (by decide +kernel)) (fun _ _ _ _ _ => (pg_name (i := 4) nd rfl (Or.inr rfl))) (fun _ _ _ _ _ => pts_nil) (fun _ _ _ _ _ => (pe_callTy (r := rTupOf K) call_tupOf (by rfl) T.n_tuple (by decide +kernel) (pa_cons (pe_lc (own := [("b", 3)]) (g := (gName 3)) (tt := tYes) (by rfl) nd (pi_range1 rfl T.n_range (pa_cons (pv 1) pa_nil)) (blkOk_by (own := [("b", 3)]) (N := N_law_wild) (sc := relS _ (defScope s_law_wild)) (by decide +kernel)) (fun _ _ _ _ _ => (pg_name (i := 3) nd rfl (Or.inl rfl))) (fun _ _ _ _ _ => pts_nil) (fun _ _ _ _ _ => (pe_ix (r := rIxL K) ix_list (pe_ix (r := rIxL K) ix_list (pv 2) (pe_callB (call_min2 rfl) (by rfl) T.n_min (by decide +kernel) (pa_cons (pv 4) (pa_cons (pv 3) pa_nil))) (fun _ _ => rfl)) (pe_callB (call_max2 rfl) (by rfl) T.n_max (by decide +kernel) (pa_cons (pv 4) (pa_cons (pv 3) pa_nil))) (fun _ _ => rfl)))) pa_nil)))) pa_nil))))), ?_⟩
    walk_at "op"
    refine ⟨_, rfl, _, rfl, by omega, by omega, ?_⟩
    rw [Int.toNat_natCast]
    refine fun R0 hR0 => ?_
    have nJ0 := hJ.ne hR0
    refine lI walk_range (fun i G => Ext p H G ∧ Jar G p (N + i * 6) ∧ ∃ ws rows, LL G p R0 ws rows ∧ rows.length = i ∧ WildR m rows) ⟨Same.ext (same_new hR0) p, hJ.up nJ0, [], [], LL.nil upd_same, rfl, fun r hr => by cases hr⟩ (fun _ _ _ _ => True.intro) ?_ ?_
    · rintro i x _ G hi ⟨xG, hJG, ws, rows, hLL, hrl, hW⟩ ⟨rfl, rfl⟩
      walk_at "op"
      refine ⟨rfl, ?_⟩
      refine iteT ?_
      refine ⟨_, rfl, _, rfl, by omega, by omega, ?_⟩
      rw [Int.toNat_natCast]
      refine fun R hR => ?_
      have nJR := hJG.ne hR
      have n0R : R0 ≠ R := ne_of_none hLL.at_ hR
      refine lI walk_range (fun j G2 => Ext p G G2 ∧ Jar G2 p (N + i * 6 + j) ∧ ∃ r : List Int, G2 R = some (.lst (r.map V.int)) ∧ r.length = j ∧ ∀ x ∈ r, 0 ≤ x ∧ x < (m : Int)) ⟨Same.ext (same_new hR) p, hJG.up nJR, [], upd_same, rfl, fun x hx => by cases hx⟩ (fun _ _ _ _ => True.intro) ?_ ?_
      · rintro j x _ G2 hj ⟨x2, hJ2, r, hr2, hrj, hrx⟩ ⟨rfl, rfl⟩
        walk_at "op"
        refine ⟨rfl, ?_⟩
        refine iteT ?_
        refine ⟨_, rfl, _, rfl, p, m, N + i * 6 + j, rfl, by omega, Nat.lt_of_le_of_lt (Nat.log2_le_self _) (by omega), by omega, hJ2, fun kk G3 k0 k1 hJ3 x3 => ?_⟩
        have hr3 := x3 _ _ hr2 nJR.symm
        refine ⟨_, hr3, by rw [List.length_map]; exact Nat.lt_of_le_of_lt (show r.length ≤ 6 by omega) (by rw [sizeLine_eq]; omega), fun b u eb nb => ?_, hJ3.up nJR, r ++ [kk], ?_, by rw [List.length_append, hrj]; rfl, fun x hx => ?_⟩
        · rw [upd_ne (ne_of_none eb hR)]
          exact x3 b u (x2 b u eb nb) nb
        · rw [upd_same, List.map_append]
          rfl
        · rcases List.mem_append.mp hx with hx | hx
          · exact hrx x hx
          · rw [List.mem_singleton.mp hx]
            exact ⟨k0, k1⟩
      · rintro G2 ⟨x2, hJ2, r, hr2, hrj, hrx⟩
        have hLL2 := hLL.ext x2 nJ0.symm
        have hR0H : R0 ≠ p := nJ0.symm
        have hwl : ws.length ≤ 6 := by rw [hLL2.len, hrl]; omega
        refine ⟨ws, hLL2.at_, Nat.lt_of_le_of_lt hwl (by rw [sizeLine_eq]; omega), fun b u eb nb => ?_, (hJ2.up nJ0).le (by omega), ws ++ [.ref R], rows ++ [r], hLL2.snoc hr2 n0R.symm nJR.symm, by rw [List.length_append, hrl]; rfl, fun r' hr' => ?_⟩
        · rw [upd_ne (ne_of_none eb hR0)]
          exact x2 b u (xG b u eb nb) nb
        · rcases List.mem_append.mp hr' with hr' | hr'
          · exact hW r' hr'
          · rw [List.mem_singleton.mp hr']
            exact ⟨hrj, hrx⟩
    · rintro G ⟨xG, hJG, ws, rows, hLL, hrl, hW⟩
      obtain ⟨uj, huj⟩ := hJG.here
      walk_at "op"
      refine ⟨_, rfl, _, rfl, by omega, by omega, ?_⟩
      rw [Int.toNat_natCast]
      refine fun D0 hD0 => ?_
      refine lI walk_range (fun i G2 => Same G G2 ∧ ∃ wd, G2 D0 = some (.lst wd) ∧ Dats G2 p wd (((List.range m).take i).map fun a => rowD (rowF m (wildF rows a)))) ⟨same_new hD0, [], upd_same, Dats.nil⟩ (fun _ _ _ _ => True.intro) ?_ ?_
      · rintro a x _ G2 ha ⟨s2, wd, hw, hWd⟩ ⟨rfl, rfl⟩
        have hga : (List.range m)[a]? = some a := List.getElem?_range ha
        walk_at "op"
        refine ⟨rfl, ?_⟩
        refine iteT ?_
        refine ⟨_, rfl, _, rfl, by omega, by omega, ?_⟩
        rw [Int.toNat_natCast]
        refine fun R hR => ?_
        refine lI walk_range (fun j G3 => Same G2 G3 ∧ G3 R = some (.lst ((rowF j (wildF rows a)).map V.int))) ⟨same_new hR, upd_same⟩ (fun _ _ _ _ => True.intro) ?_ ?_
        · rintro b x _ G3 hb ⟨s3, hR3⟩ ⟨rfl, rfl⟩
          have s03 := s2.trans s3
          have emin : (if ((b : Nat) : Int) < (a : Nat) then ((b : Nat) : Int) else (a : Nat)) = ((min a b : Nat) : Int) := by split <;> omega
          have emax : (if ((b : Nat) : Int) > (a : Nat) then ((b : Nat) : Int) else (a : Nat)) = ((max a b : Nat) : Int) := by split <;> omega
          obtain ⟨r, e1, e2, e3, e4⟩ := hW.get hrl (a := min a b) (b := max a b) (by omega) (by omega)
          obtain ⟨ra, g1, g2, _, _⟩ := hLL.row _ _ e1
          walk_at "op"
          refine ⟨rfl, ?_⟩
          refine iteT ?_
          rw [Int.zero_add, Int.zero_add]
          refine ⟨_, rfl, _, rfl, _, rfl, _, _, rfl, ?_⟩
          rw [emin]
          refine ⟨R0, ws, _, _, rfl, rfl, SqL.of (s03 _ _ hLL.at_), atI_nat g1, _, rfl, _, rfl, _, _, rfl, ?_⟩
          rw [emax]
          refine ⟨ra, _, _, _, rfl, rfl, SqL.of (s03 _ _ g2), atI_nat (by rw [List.getElem?_map, e2]; rfl), ?_⟩
          refine ⟨_, hR3, by unfold rowF; rw [List.length_map, List.length_map, List.length_range]; exact Nat.lt_of_le_of_lt (show b ≤ 6 by omega) (by rw [sizeLine_eq]; omega), sameOff s3 hR, ?_⟩
          rw [upd_same, rowF_snoc, List.map_append]
          have ew : ((wildF rows a b : Nat) : Int) = (rows.getD (min a b) []).getD (max a b) 0 := by
            unfold wildF
            omega
          rw [ew]
          rfl
        · rintro G3 ⟨s3, hR3⟩
          refine ⟨R, _, rfl, .inl ⟨SqL.of hR3, fun t ht => ?_⟩⟩
          have s4 := s3.trans (same_new (o := .tup ((rowF m (wildF rows a)).map V.int)) ht)
          have hw4 := s4 _ _ hw
          have hwl : wd.length ≤ 6 := by
            rw [hWd.1, List.length_map, List.length_take, List.length_range]
            omega
          refine ⟨wd, hw4, Nat.lt_of_le_of_lt hwl (by rw [sizeLine_eq]; omega), sameOff (s2.trans s4) hD0, wd ++ [.ref t], upd_same, ?_⟩
          rw [tk_snoc hga, List.map_append]
          refine (Dats.setL hw4 ⟨hWd.1, fun i x d a b => (hWd.2 i x d a b).same s4⟩ (fun d hd => by obtain ⟨r, _, rfl⟩ := List.mem_map.mp hd; exact noList_ints' _)).snoc (Dat.setL hw4 (.tup upd_same (pne_of huj (s2.trans s3) ht) (by rw [List.length_map, List.length_map]) fun i x d a b => (Dats.ints (p := p) _).2 i x d a b) (noList_ints' _))
      · rintro G2 ⟨s2, wd, hw, hWd⟩
        rw [show (List.range m).take m = List.range m from List.take_of_length_le (by rw [List.length_range]; exact Nat.le_refl _)] at hWd
        refine ⟨D0, wd, rfl, .inl ⟨SqL.of hw, fun t ht => ?_⟩⟩
        have s3 := s2.trans (same_new (o := .tup wd) ht)
        refine k _ _ (wildF rows) (Dat.new ht (pne_of huj s2 ht) hWd) (fun a b ha hb => ⟨?_, ?_⟩) ((hJG.same s3).le (by omega)) (xG.trans (Same.ext s3 p))
        · obtain ⟨r, e1, e2, e3, e4⟩ := hW.get hrl (a := min a b) (b := max a b) (by omega) (by omega)
          unfold wildF
          omega
        · unfold wildF
          rw [Nat.min_comm, Nat.max_comm]
end
end Fm
end FLF
section FLG
set_option Elab.async false
set_option linter.all false
set_option maxRecDepth 100000
set_option maxHeartbeats 4000000
local macro_rules | `(tactic| walk_at "ne") => `(tactic| first | assumption | (apply Ne.symm; assumption) | exact L2.ne_of_none (by assumption) (by assumption) | exact Ne.symm (L2.ne_of_none (by assumption) (by assumption)))
local macro_rules | `(tactic| walk_at "hl") => `(tactic| first | assumption | exact L2.upd_same | (refine Eq.trans (L2.upd_ne (by walk_at "ne")) ?_; walk_at "hl"))
local macro_rules | `(tactic| walk_at "sd") => `(tactic| first | (with_reducible show (_ : Int) < _; omega) | (with_reducible show (_ : Int) ≤ _; omega) | assumption | decide | exact ⟨by assumption, by assumption⟩ | exact ⟨by decide, by decide⟩ | exact Or.inr ⟨by decide, by decide⟩ | exact Or.inl ⟨by omega, by omega⟩ | rfl)
local macro_rules | `(tactic| walk_at "st1") => `(tactic| first
  | refine ⟨_, rfl, ?_⟩
  | refine ⟨_, _, rfl, rfl, ?_⟩
  | refine ⟨_, _, rfl, ?_⟩
  | (refine ⟨_, _, _, _, rfl, rfl, L2.SqL.of (by walk_at "hl"), rfl, ?_⟩)
  | (refine ⟨_, _, _, _, rfl, rfl, L2.SqT.of (by walk_at "hl"), rfl, ?_⟩)
  | (refine ⟨_, _, _, _, rfl, rfl, (by walk_at "hl"), rfl, ?_⟩)
  | (refine And.intro (by walk_at "sd") ?_)
  )
local macro_rules | `(tactic| walk_at "st") => `(tactic| repeat walk_at "st1")
local macro_rules | `(tactic| walk_at "op") => `(tactic| try dsimp only [L2.tSeq, L2.tAsg, L2.tOp, L2.tVar, L2.tC, L2.gSub, L2.rI, L2.rI0, L2.rIxL, L2.rIxT, L2.rSetL, L2.tIfS, L2.tTest, L2.tRet, L2.gName, L2.tNext, L2.tAnd, L2.tOr, L2.tNot, L2.tAndV, L2.tOrV, L2.tNotV, L2.tB, L2.tCB, L2.tCons, L2.tNil, L2.tCall, L2.tTup, L2.tLst, L2.tChain, L2.tUn, L2.tPar, L2.tDrop, L2.tIf, L2.tBM, L2.tBM0, L2.rAppend, L2.rCat, L2.rIsi, L2.rIsiT, L2.gTup, L2.gCons, L2.gNil, Fm.tFor_eq, Fm.tLc_eq, Fm.tLc2_eq, L2.iTup, L2.iList, L2.iRng1, L2.iRng2, L2.tSl, L2.tPart, L2.tNoPart, L2.rSlL, L2.rEq, L2.rNe, L2.rU, L2.rEqD, L2.rNeD, Fm.tRevT, Fm.rLenS, Fm.rTupOf, Fm.rLstOf, L2.tDNewK, L2.tCallS, L2.WE, Fm.wKeep, Fm.rIsK, Fm.rIsKT, List.cons_append, List.nil_append, L2.tYes])
namespace Fm
open PySem PySem.Spec PyProof.Rows L2
abbrev s_law_floor : Stmt := top 43
abbrev N_law_floor : List Str := ["jar", "m", "is_free", "calls", "way", "goes", "number", "kind"]
theorem sc_law_floor : FnScope N_law_floor ["jar", "m", "is_free"] (defScope s_law_floor) := ⟨rfl, rfl, rfl, by decide +kernel, rfl, by decide +kernel, by decide +kernel⟩
section
variable {P : Program} {w : World} {K : PySem.W.Frag} {mg : Str → Option Value} {base : Heap}
/-! ### a floor -/
def FlOk (m : Nat) (S U : Nat → Nat → Nat) : Prop := ∀ a b, a < m → b < m → S a b < m ∧ S a b = S b a ∧ U a b < m ∧ U a b = U b a ∧ ∀ c, c < m → S (S a b) c = S (S a c) b
theorem flok_up {m kind way : Nat} {c b : Nat → Nat} {gl : List Nat} (h6 : m ≤ 6) (hk : kind < 6) (C : FmC.Calls m c b) (hg : ∀ i, i < m + 2 → callF gl i < m) : FlOk m (FmC.stayOf kind m c b) (FmC.upOf way m b (callF gl)) := fun x y hx hy => by
  obtain ⟨z1, z2, z3⟩ := FmC.stay_facts (by omega) hk C hx hy
  obtain ⟨w1, w2⟩ := FmC.goes_in (way := way) (C.bm x hx) (C.bm y hy)
  refine ⟨z1, z2, ?_, ?_, z3⟩
  · unfold FmC.upOf
    exact hg _ w1
  · unfold FmC.upOf
    rw [w2]
theorem flok_wild {m kind : Nat} {c b W : Nat → Nat → Nat} {cf bf : Nat → Nat} (h6 : m ≤ 6) (hk : kind < 6) (C : FmC.Calls m cf bf) (hW : ∀ a b, a < m → b < m → W a b < m ∧ W a b = W b a) : FlOk m (FmC.stayOf kind m cf bf) W := fun x y hx hy => by
  obtain ⟨z1, z2, z3⟩ := FmC.stay_facts (by omega) hk C hx hy
  exact ⟨z1, z2, (hW x y hx hy).1, (hW x y hx hy).2, z3⟩
def spFloor : Sp := fun vs H Q _ => ∃ (p : Addr) (m N : Nat) (bf : Bool), vs = [.ref p, .int (m : Nat), .bl bf] ∧ 1 ≤ m ∧ m ≤ 6 ∧ N + 100 ≤ 1000000000 ∧ Jar H p N ∧
  ∀ v H' (S U : Nat → Nat → Nat), Dat H' p v (.tuple [tabF m S, tabF m U]) → FlOk m S U → (FmC.Even m S U ∨ bf = true) → Jar H' p (N + 100) → Ext p H H' → Q v H'
theorem ok_law_floor (D : Df K mg "_law_floor" s_law_floor ["jar", "m", "is_free"]) (T : Nms mg) (c_law_dip : CallOk P w K mg base CX0 1 "_law_dip" ["jar", "many"] spDip) (c_law_order : CallOk P w K mg base CX0 2 "_law_order" ["jar", "m"] spOrder)
    (c_law_stay : CallOk P w K mg base CX0 2 "_law_stay" ["kind", "calls"] spStay) (c_law_up : CallOk P w K mg base CX0 1 "_law_up" ["way", "calls", "goes"] spUpT) (c_law_wild : CallOk P w K mg base CX0 2 "_law_wild" ["jar", "m"] spWild) : CallOk P w K mg base CX0 3 "_law_floor" ["jar", "m", "is_free"] spFloor := by
  refine df_ok D sc_law_floor (fun vs H Q E h => ?_) (fun f cdv A outer s H vs Q E hr h => ?_)
  · obtain ⟨p, m, N, bf, rfl, _⟩ := h
    rfl
  · obtain ⟨p, m, N, bf, rfl, h1, h6, hN, hJ, k⟩ := h
    have nd := sc_law_floor.nd
    have l2 : ∀ {x : Nat}, x ≤ 8 → ((x : Nat) : Int).natAbs.log2 < 9000 := fun {x} hx => Nat.lt_of_le_of_lt (Nat.log2_le_self _) (by omega)
    refine ⟨_, (pss_cons (ps_set (i := 3) nd rfl (Or.inl rfl) (pe_cc c_law_order (hr.mono (by omega)) (pa_cons (pv 0) (pa_cons (pv 1) pa_nil))))
      (pss_cons (ps_set (i := 4) nd rfl (Or.inl rfl) (pe_cc c_law_dip (hr.mono (by omega)) (pa_cons (pv 0) (pa_cons pe_int pa_nil))))
      (pss_cons (ps_setLc (i := 5) (own := [("number", 6)]) (g := (gName 6)) (tt := tYes) (by rfl) nd rfl rfl (sw_true rfl rfl rfl (by decide +kernel)) (pi_range1 rfl T.n_range (pa_cons (pe_op op_add (pv 1) pe_int) pa_nil)) (blkOk_by (own := [("number", 6)]) (N := N_law_floor) (sc := defScope s_law_floor) (by decide +kernel)) (fun _ _ _ _ _ => (pg_name (i := 6) nd rfl (Or.inl rfl))) (fun _ _ _ _ _ => pts_nil) (fun _ _ _ _ _ => (pe_cc c_law_dip (hr.mono (by omega)) (pa_cons (pv 0) (pa_cons (pv 1) pa_nil)))))
      (pss_cons (ps_set (i := 7) nd rfl (Or.inl rfl) (pe_ifExp (pt_cmpR op_lt (pv 4) pe_int (nomark _)) (pv 4) (pe_cc c_law_dip (hr.mono (by omega)) (pa_cons (pv 0) (pa_cons pe_int pa_nil)))))
      (pss_cons (ps_if (PW.pt (pw_and (pt_val (pv 2)) (pw_and1 (pt_cmpR op_eq (pe_cc c_law_dip (hr.mono (by omega)) (pa_cons (pv 0) (pa_cons pe_int pa_nil))) pe_int (nomark _))))) (pss_one (ps_ret (pe_tup (pa_cons (pe_cc c_law_stay (hr.mono (by omega)) (pa_cons (pe_cc c_law_dip (hr.mono (by omega)) (pa_cons (pv 0) (pa_cons pe_int pa_nil))) (pa_cons (pv 3) pa_nil))) (pa_cons (pe_cc c_law_wild (hr.mono (by omega)) (pa_cons (pv 0) (pa_cons (pv 1) pa_nil))) pa_nil))))) pss_nil)
      (pss_one (ps_ret (pe_tup (pa_cons (pe_cc c_law_stay (hr.mono (by omega)) (pa_cons (pv 7) (pa_cons (pv 3) pa_nil))) (pa_cons (pe_cc c_law_up (hr.mono (by omega)) (pa_cons (pv 4) (pa_cons (pv 3) (pa_cons (pv 5) pa_nil)))) pa_nil)))))))))), ?_⟩
    walk_at "op"
    refine ⟨_, rfl, _, rfl, p, m, N, rfl, h1, h6, by omega, hJ, fun q l G1 hq hql hP hJ1 x1 => ?_⟩
    have nqp : q ≠ p := fun z => by
      obtain ⟨u, hu⟩ := hJ.here
      rw [z, hu] at hq
      cases hq
    have C := calls_of hP
    refine ⟨_, rfl, p, 3, N + m, rfl, by decide, by decide, by omega, hJ1, fun wy G2 w0 w1 hJ2 x2 => ?_⟩
    obtain ⟨way, rfl⟩ : ∃ way : Nat, wy = (way : Int) := ⟨wy.toNat, by omega⟩
    have hway : way < 3 := by omega
    have hq2 := x2 _ _ hql nqp
    have x12 := x1.trans x2
    refine ⟨_, rfl, _, 2, rfl, rfl, _, rfl, by omega, by omega, ?_⟩
    rw [show ((m : Int) + 2).toNat = m + 2 by omega]
    refine fun A0 hA0 => ?_
    have nJA := hJ2.ne hA0
    have nAp : A0 ≠ p := nJA.symm
    refine lI walk_range (fun i G => Ext p G2 G ∧ Jar G p (N + m + 1 + i) ∧ ∃ gl : List Nat, G A0 = some (.lst (gl.map fun k : Nat => V.int (k : Nat))) ∧ gl.length = i ∧ ∀ x ∈ gl, x < m) ⟨Same.ext (same_new hA0) p, hJ2.up nJA, [], upd_same, rfl, fun x hx => by cases hx⟩ (fun _ _ _ _ => True.intro) ?_ ?_
    · rintro i x _ G hi ⟨xG, hJG, gl, hgA, hgl, hgx⟩ ⟨rfl, rfl⟩
      walk_at "op"
      refine ⟨rfl, ?_⟩
      refine iteT ?_
      refine ⟨_, rfl, _, rfl, p, m, N + m + 1 + i, rfl, by omega, l2 (by omega), by omega, hJG, fun kk G4 k0 k1 hJ4 x4 => ?_⟩
      obtain ⟨kn, rfl⟩ : ∃ kn : Nat, kk = (kn : Int) := ⟨kk.toNat, by omega⟩
      have hA4 := x4 _ _ hgA nAp
      refine ⟨_, hA4, by rw [List.length_map]; exact Nat.lt_of_le_of_lt (show gl.length ≤ 8 by omega) (by rw [sizeLine_eq]; omega), fun b u eb nb => ?_, hJ4.up nJA, gl ++ [kn], ?_, by rw [List.length_append, hgl]; rfl, fun x hx => ?_⟩
      · rw [upd_ne (ne_of_none eb hA0)]
        exact x4 b u (xG b u eb nb) nb
      · rw [upd_same, List.map_append]
        rfl
      · rcases List.mem_append.mp hx with hx | hx
        · exact hgx x hx
        · rw [List.mem_singleton.mp hx]
          omega
    · rintro G3 ⟨xG, hJ3, gl, hgA, hgl, hgx⟩
      have hgm : ∀ i, i < m + 2 → callF gl i < m := fun i hi => by
        unfold callF
        rw [List.getD_eq_getElem?_getD, List.getElem?_eq_getElem (by omega)]
        exact hgx _ (List.getElem_mem _)
      have hq3 := xG _ _ hq2 nqp
      have x13 := x12.trans xG
      walk_at "op"
      refine ⟨_, rfl, _, 2, rfl, rfl, _, rfl, ?_⟩
      refine ite2 (fun c0 => ?_) (fun c0 => ?_)
      · have w2 : way < 2 := by have := of_decide_eq_true c0; omega
        have hkd : way < 6 := by omega
        have hkw : way = way ∨ way = 2 := .inl rfl
        refine ⟨_, rfl, ?_⟩
        cases bf with
        | false =>
          refine ⟨_, rfl, false, rfl, iteF (iteF ?_)⟩
          obtain ⟨um, hum⟩ := (hJ3).here
          refine ⟨_, rfl, _, rfl, p, q, um, way, m, l, rfl, hum, hkd, h1, h6, hq3, hP, fun v1 Ga d1 sa => ?_⟩
          refine ⟨_, rfl, _, rfl, _, rfl, p, q, A0, um, way, m, l, gl, rfl, sa _ _ hum, hway, h1, h6, sa _ _ (hq3), hP, sa _ _ (hgA), fun a b ha hb => by rw [hgl]; exact (FmC.goes_in ha hb).1, fun v2 Gb d2 sb => ?_⟩
          refine ⟨by show 2 ≤ sizeLine; decide, fun t ht => ?_⟩
          have sab := sa.trans sb
          refine k _ _ _ _ (Dat.new ht (pne_of hum sab ht) (Dats.cons (d1.same sb) (Dats.cons d2 Dats.nil))) (flok_up h6 hkd C hgm) (.inl (FmC.up_even (by omega) hway hkd hkw C)) ((((hJ3).same sab).up (pne_of hum sab ht).symm).le (by omega)) ((x13).trans ((Same.ext sab p).trans (Same.ext (same_new ht) p)))
        | true =>
          refine ⟨_, rfl, true, rfl, iteT ?_⟩
          refine ⟨_, rfl, p, 2, (N + m + 1 + (m + 2)), rfl, by decide, by decide, by omega, hJ3, fun dd Gc dd0 dd1 hJc xc => ?_⟩
          have hqc := xc _ _ (hq3) nqp
          have hgc := xc _ _ (hgA) nAp
          refine ⟨rfl, _, rfl, ?_⟩
          by_cases dz : dd = 0
          · rw [show decide (V.int dd = V.int 0) = true from decide_eq_true (by rw [dz])]
            refine iteT ?_
            refine ⟨_, rfl, p, 6, (N + m + 1 + (m + 2)) + 1, rfl, by decide, by decide, by omega, hJc, fun kq Gd kq0 kq1 hJd xd => ?_⟩
            obtain ⟨kz, rfl⟩ : ∃ kz : Nat, kq = (kz : Int) := ⟨kq.toNat, by omega⟩
            have hkz : kz < 6 := by omega
            obtain ⟨um, hum⟩ := hJd.here
            refine ⟨_, rfl, p, q, um, kz, m, l, rfl, hum, hkz, h1, h6, xd _ _ hqc nqp, hP, fun v1 Ge d1 se => ?_⟩
            refine ⟨_, rfl, _, rfl, p, m, (N + m + 1 + (m + 2)) + 1 + 1, rfl, h1, h6, by omega, hJd.same se, fun v2 Gf W d2 hW hJf xf => ?_⟩
            refine ⟨by show 2 ≤ sizeLine; decide, fun t ht => ?_⟩
            have ntp := (hJf.ne ht).symm
            refine k _ _ _ _ (Dat.new ht ntp (Dats.cons (d1.ext xf) (Dats.cons d2 Dats.nil))) (flok_wild (c := W) (b := W) h6 hkz C hW) (.inr rfl) ((hJf.up ntp.symm).le (by omega)) ((((x13).trans xc).trans (xd.trans (Same.ext se p))).trans (xf.trans (Same.ext (same_new ht) p)))
          · rw [show decide (V.int dd = V.int 0) = false from decide_eq_false (fun z => dz (by injection z))]
            refine iteF ?_
            obtain ⟨um, hum⟩ := (hJc).here
            refine ⟨_, rfl, _, rfl, p, q, um, way, m, l, rfl, hum, hkd, h1, h6, hqc, hP, fun v1 Ga d1 sa => ?_⟩
            refine ⟨_, rfl, _, rfl, _, rfl, p, q, A0, um, way, m, l, gl, rfl, sa _ _ hum, hway, h1, h6, sa _ _ (hqc), hP, sa _ _ (hgc), fun a b ha hb => by rw [hgl]; exact (FmC.goes_in ha hb).1, fun v2 Gb d2 sb => ?_⟩
            refine ⟨by show 2 ≤ sizeLine; decide, fun t ht => ?_⟩
            have sab := sa.trans sb
            refine k _ _ _ _ (Dat.new ht (pne_of hum sab ht) (Dats.cons (d1.same sb) (Dats.cons d2 Dats.nil))) (flok_up h6 hkd C hgm) (.inl (FmC.up_even (by omega) hway hkd hkw C)) ((((hJc).same sab).up (pne_of hum sab ht).symm).le (by omega)) (((x13).trans xc).trans ((Same.ext sab p).trans (Same.ext (same_new ht) p)))
      · have w2 : way = 2 := by have := of_decide_eq_false (Bool.eq_false_iff.mpr c0); omega
        refine ⟨_, rfl, p, 6, N + m + 1 + (m + 2), rfl, by decide, by decide, by omega, hJ3, fun kq G4 kq0 kq1 hJ4 x4 => ?_⟩
        obtain ⟨kind, rfl⟩ : ∃ kind : Nat, kq = (kind : Int) := ⟨kq.toNat, by omega⟩
        have hkd : kind < 6 := by omega
        have hkw : kind = way ∨ way = 2 := .inr w2
        have hq4 := x4 _ _ hq3 nqp
        have hg4 := x4 _ _ hgA nAp
        have x14 := x13.trans x4
        cases bf with
        | false =>
          refine ⟨_, rfl, false, rfl, iteF (iteF ?_)⟩
          obtain ⟨um, hum⟩ := (hJ4).here
          refine ⟨_, rfl, _, rfl, p, q, um, kind, m, l, rfl, hum, hkd, h1, h6, hq4, hP, fun v1 Ga d1 sa => ?_⟩
          refine ⟨_, rfl, _, rfl, _, rfl, p, q, A0, um, way, m, l, gl, rfl, sa _ _ hum, hway, h1, h6, sa _ _ (hq4), hP, sa _ _ (hg4), fun a b ha hb => by rw [hgl]; exact (FmC.goes_in ha hb).1, fun v2 Gb d2 sb => ?_⟩
          refine ⟨by show 2 ≤ sizeLine; decide, fun t ht => ?_⟩
          have sab := sa.trans sb
          refine k _ _ _ _ (Dat.new ht (pne_of hum sab ht) (Dats.cons (d1.same sb) (Dats.cons d2 Dats.nil))) (flok_up h6 hkd C hgm) (.inl (FmC.up_even (by omega) hway hkd hkw C)) ((((hJ4).same sab).up (pne_of hum sab ht).symm).le (by omega)) ((x14).trans ((Same.ext sab p).trans (Same.ext (same_new ht) p)))
        | true =>
          refine ⟨_, rfl, true, rfl, iteT ?_⟩
          refine ⟨_, rfl, p, 2, (N + m + 1 + (m + 2) + 1), rfl, by decide, by decide, by omega, hJ4, fun dd Gc dd0 dd1 hJc xc => ?_⟩
          have hqc := xc _ _ (hq4) nqp
          have hgc := xc _ _ (hg4) nAp
          refine ⟨rfl, _, rfl, ?_⟩
          by_cases dz : dd = 0
          · rw [show decide (V.int dd = V.int 0) = true from decide_eq_true (by rw [dz])]
            refine iteT ?_
            refine ⟨_, rfl, p, 6, (N + m + 1 + (m + 2) + 1) + 1, rfl, by decide, by decide, by omega, hJc, fun kq Gd kq0 kq1 hJd xd => ?_⟩
            obtain ⟨kz, rfl⟩ : ∃ kz : Nat, kq = (kz : Int) := ⟨kq.toNat, by omega⟩
            have hkz : kz < 6 := by omega
            obtain ⟨um, hum⟩ := hJd.here
            refine ⟨_, rfl, p, q, um, kz, m, l, rfl, hum, hkz, h1, h6, xd _ _ hqc nqp, hP, fun v1 Ge d1 se => ?_⟩
            refine ⟨_, rfl, _, rfl, p, m, (N + m + 1 + (m + 2) + 1) + 1 + 1, rfl, h1, h6, by omega, hJd.same se, fun v2 Gf W d2 hW hJf xf => ?_⟩
            refine ⟨by show 2 ≤ sizeLine; decide, fun t ht => ?_⟩
            have ntp := (hJf.ne ht).symm
            refine k _ _ _ _ (Dat.new ht ntp (Dats.cons (d1.ext xf) (Dats.cons d2 Dats.nil))) (flok_wild (c := W) (b := W) h6 hkz C hW) (.inr rfl) ((hJf.up ntp.symm).le (by omega)) ((((x14).trans xc).trans (xd.trans (Same.ext se p))).trans (xf.trans (Same.ext (same_new ht) p)))
          · rw [show decide (V.int dd = V.int 0) = false from decide_eq_false (fun z => dz (by injection z))]
            refine iteF ?_
            obtain ⟨um, hum⟩ := (hJc).here
            refine ⟨_, rfl, _, rfl, p, q, um, kind, m, l, rfl, hum, hkd, h1, h6, hqc, hP, fun v1 Ga d1 sa => ?_⟩
            refine ⟨_, rfl, _, rfl, _, rfl, p, q, A0, um, way, m, l, gl, rfl, sa _ _ hum, hway, h1, h6, sa _ _ (hqc), hP, sa _ _ (hgc), fun a b ha hb => by rw [hgl]; exact (FmC.goes_in ha hb).1, fun v2 Gb d2 sb => ?_⟩
            refine ⟨by show 2 ≤ sizeLine; decide, fun t ht => ?_⟩
            have sab := sa.trans sb
            refine k _ _ _ _ (Dat.new ht (pne_of hum sab ht) (Dats.cons (d1.same sb) (Dats.cons d2 Dats.nil))) (flok_up h6 hkd C hgm) (.inl (FmC.up_even (by omega) hway hkd hkw C)) ((((hJc).same sab).up (pne_of hum sab ht).symm).le (by omega)) (((x14).trans xc).trans ((Same.ext sab p).trans (Same.ext (same_new ht) p)))
end
end Fm
end FLG
section FLH2
set_option Elab.async false
set_option linter.all false
set_option maxRecDepth 100000
set_option maxHeartbeats 4000000
local macro_rules | `(tactic| walk_at "ne") => `(tactic| first | assumption | (apply Ne.symm; assumption) | exact L2.ne_of_none (by assumption) (by assumption) | exact Ne.symm (L2.ne_of_none (by assumption) (by assumption)))
local macro_rules | `(tactic| walk_at "hl") => `(tactic| first | assumption | exact L2.upd_same | (refine Eq.trans (L2.upd_ne (by walk_at "ne")) ?_; walk_at "hl"))
local macro_rules | `(tactic| walk_at "sd") => `(tactic| first | (with_reducible show (_ : Int) < _; omega) | (with_reducible show (_ : Int) ≤ _; omega) | assumption | decide | exact ⟨by assumption, by assumption⟩ | exact ⟨by decide, by decide⟩ | exact Or.inr ⟨by decide, by decide⟩ | exact Or.inl ⟨by omega, by omega⟩ | rfl)
local macro_rules | `(tactic| walk_at "st1") => `(tactic| first
  | refine ⟨_, rfl, ?_⟩
  | refine ⟨_, _, rfl, rfl, ?_⟩
  | refine ⟨_, _, rfl, ?_⟩
  | (refine ⟨_, _, _, _, rfl, rfl, L2.SqL.of (by walk_at "hl"), rfl, ?_⟩)
  | (refine ⟨_, _, _, _, rfl, rfl, L2.SqT.of (by walk_at "hl"), rfl, ?_⟩)
  | (refine ⟨_, _, _, _, rfl, rfl, (by walk_at "hl"), rfl, ?_⟩)
  | (refine And.intro (by walk_at "sd") ?_)
  )
local macro_rules | `(tactic| walk_at "st") => `(tactic| repeat walk_at "st1")
local macro_rules | `(tactic| walk_at "op") => `(tactic| try dsimp only [L2.tSeq, L2.tAsg, L2.tOp, L2.tVar, L2.tC, L2.gSub, L2.rI, L2.rI0, L2.rIxL, L2.rIxT, L2.rSetL, L2.tIfS, L2.tTest, L2.tRet, L2.gName, L2.tNext, L2.tAnd, L2.tOr, L2.tNot, L2.tAndV, L2.tOrV, L2.tNotV, L2.tB, L2.tCB, L2.tCons, L2.tNil, L2.tCall, L2.tTup, L2.tLst, L2.tChain, L2.tUn, L2.tPar, L2.tDrop, L2.tIf, L2.tBM, L2.tBM0, L2.rAppend, L2.rCat, L2.rIsi, L2.rIsiT, L2.gTup, L2.gCons, L2.gNil, Fm.tFor_eq, Fm.tLc_eq, Fm.tLc2_eq, L2.iTup, L2.iList, L2.iRng1, L2.iRng2, L2.tSl, L2.tPart, L2.tNoPart, L2.rSlL, L2.rEq, L2.rNe, L2.rU, L2.rEqD, L2.rNeD, Fm.tRevT, Fm.rLenS, Fm.rTupOf, Fm.rLstOf, L2.tDNewK, L2.tCallS, L2.WE, Fm.wKeep, Fm.rIsK, Fm.rIsKT, List.cons_append, List.nil_append, L2.tYes])
namespace Fm
open PySem PySem.Spec PyProof.Rows L2
abbrev s_law_house : Stmt := top 44
abbrev N_law_house : List Str := ["jar", "most", "floors", "m", "found", "is_free", "k", "forgets", "floor"]
theorem sc_law_house : FnScope N_law_house ["jar", "most", "floors"] (defScope s_law_house) := ⟨rfl, rfl, rfl, by decide +kernel, rfl, by decide +kernel, by decide +kernel⟩
section
variable {P : Program} {w : World} {K : PySem.W.Frag} {mg : Str → Option Value} {base : Heap}
/-! ### the law's house -/
abbrev Fl := (Nat → Nat → Nat) × (Nat → Nat → Nat)
def flD (m : Nat) (x : Fl) : PyData := .tuple [tabF m x.1, tabF m x.2]
/-- floors that stand on one another fairly -/
def Chain (m : Nat) : List Fl → Prop
  | [] => True
  | [x] => FlOk m x.1 x.2
  | x :: y :: l => FlOk m x.1 x.2 ∧ (FmC.Even m x.1 x.2 ∨ FmC.Forgets m y.1 y.2) ∧ Chain m (y :: l)
def headForgets (m : Nat) : List Fl → Prop
  | [] => True
  | y :: _ => FmC.Forgets m y.1 y.2
theorem Chain.cons {m : Nat} {x : Fl} {l : List Fl} (h : Chain m l) (ok : FlOk m x.1 x.2) (e : FmC.Even m x.1 x.2 ∨ headForgets m l) : Chain m (x :: l) := by
  cases l with
  | nil => exact ok
  | cons y l => exact ⟨ok, e, h⟩
theorem Chain.ok {m : Nat} : ∀ {l : List Fl}, Chain m l → ∀ x ∈ l, FlOk m x.1 x.2
  | [], _, x, hx => by cases hx
  | [y], h, x, hx => by rw [List.mem_singleton.mp hx]; exact h
  | y :: z :: l, h, x, hx => by
    rcases List.mem_cons.mp hx with rfl | hx
    · exact h.1
    · exact Chain.ok h.2.2 x hx
theorem Chain.next {m : Nat} : ∀ {l : List Fl}, Chain m l → ∀ i x y, l[i]? = some x → l[i + 1]? = some y → FmC.Even m x.1 x.2 ∨ FmC.Forgets m y.1 y.2
  | [], _, i, x, y, e, _ => by cases e
  | [z], _, i, x, y, _, e => by cases e
  | z :: w :: l, h, 0, x, y, e1, e2 => by
    cases e1
    cases e2
    exact h.2.1
  | z :: w :: l, h, i + 1, x, y, e1, e2 => Chain.next h.2.2 i x y e1 e2
theorem rowF_at {m : Nat} {g : Nat → Nat} {b : Nat} (hb : b < m) : ((rowF m g).map PyData.int)[b]? = some (.int ((g b : Nat) : Int)) := by
  unfold rowF
  rw [List.getElem?_map, List.getElem?_map, List.getElem?_range hb]
  rfl
theorem tabF_row {m : Nat} {S : Nat → Nat → Nat} {a : Nat} (ha : a < m) : ((List.range m).map fun a => rowD (rowF m (S a)))[a]? = some (rowD (rowF m (S a))) := by
  rw [List.getElem?_map, List.getElem?_range ha]
  rfl
theorem tabF_cell {m : Nat} {S : Nat → Nat → Nat} {a b : Nat} (ha : a < m) (hb : b < m) : cellD ((List.range m).map fun a => rowD (rowF m (S a))) a b = .int ((S a b : Nat) : Int) := by
  unfold cellD
  rw [tabF_row ha]
  show (((rowF m (S a)).map PyData.int)[b]?).getD .none = _
  rw [rowF_at hb]
  rfl
theorem tabF_is {m : Nat} {S : Nat → Nat → Nat} (h : ∀ a b, a < m → b < m → S a b < m ∧ S a b = S b a) : TabD m (tabF m S) := by
  refine ⟨_, rfl, by rw [List.length_map, List.length_range], fun r hr => ?_, fun a b ha hb => ?_⟩
  · obtain ⟨a, ha, rfl⟩ := List.mem_map.mp hr
    have ha := List.mem_range.mp ha
    refine ⟨_, rfl, by rw [List.length_map]; unfold rowF; rw [List.length_map, List.length_range], fun e he => ?_⟩
    obtain ⟨x, hx, rfl⟩ := List.mem_map.mp he
    unfold rowF at hx
    obtain ⟨b, hb, rfl⟩ := List.mem_map.mp hx
    have := (h a b ha (List.mem_range.mp hb)).1
    exact ⟨_, rfl, by omega, by omega⟩
  · rw [tabF_cell ha hb, tabF_cell hb ha, (h a b ha hb).2]
theorem goN_fl {m : Nat} {l : List Fl} {f a b : Nat} {x : Fl} (hx : l[f]? = some x) (ha : a < m) (hb : b < m) : goN (l.map (flD m)) 0 f a b = x.1 a b ∧ goN (l.map (flD m)) 1 f a b = x.2 a b := by
  have e : (l.map (flD m))[f]? = some (flD m x) := by rw [List.getElem?_map, hx]; rfl
  have t0 : tabD (l.map (flD m)) f 0 = (List.range m).map fun a => rowD (rowF m (x.1 a)) := by unfold tabD; rw [e]; rfl
  have t1 : tabD (l.map (flD m)) f 1 = (List.range m).map fun a => rowD (rowF m (x.2 a)) := by unfold tabD; rw [e]; rfl
  unfold goN
  rw [t0, t1, tabF_cell ha hb, tabF_cell ha hb]
  exact ⟨rfl, rfl⟩
theorem house_of {m : Nat} {l : List Fl} (h : Chain m l) (h1 : 1 ≤ m) (h6 : m ≤ 6) (hl : 1 ≤ l.length) (h4 : l.length ≤ 4) : HouseN m l.length (.tuple (l.map (flD m))) := by
  refine ⟨_, rfl, by rw [List.length_map], hl, h4, h1, h6, fun d hd => ?_⟩
  obtain ⟨x, hx, rfl⟩ := List.mem_map.mp hd
  have ok := h.ok x hx
  exact ⟨_, _, rfl, tabF_is fun a b ha hb => ⟨(ok a b ha hb).1, (ok a b ha hb).2.1⟩, tabF_is fun a b ha hb => ⟨(ok a b ha hb).2.2.1, (ok a b ha hb).2.2.2.1⟩⟩
theorem fair_of {m : Nat} {l : List Fl} (h : Chain m l) (h1 : 1 ≤ m) : FairH (l.map (flD m)) m l.length := by
  have at_ : ∀ f, f < l.length → ∃ x, l[f]? = some x ∧ FlOk m x.1 x.2 := fun f hf => ⟨l[f], List.getElem?_eq_getElem hf, h.ok _ (List.getElem_mem hf)⟩
  have B : FmC.Tabs l.length m (goN (l.map (flD m)) 0) (goN (l.map (flD m)) 1) := by
    refine ⟨h1, fun f a b hf ha hb => ?_, fun f a b hf ha hb => ?_, fun f a b hf ha hb => ?_, fun f a b hf ha hb => ?_⟩ <;> (obtain ⟨x, hx, ok⟩ := at_ f hf)
    · rw [(goN_fl hx ha hb).1, (goN_fl hx hb ha).1]
      exact (ok a b ha hb).2.1
    · rw [(goN_fl hx ha hb).2, (goN_fl hx hb ha).2]
      exact (ok a b ha hb).2.2.2.1
    · rw [(goN_fl hx ha hb).1]
      exact (ok a b ha hb).1
    · rw [(goN_fl hx ha hb).2]
      exact (ok a b ha hb).2.2.1
  refine FmC.tri_of B (fun f x y z hf hx hy hz => ?_) (fun f hf => ?_)
  · obtain ⟨w, hw, ok⟩ := at_ f hf
    have o1 := ok x y hx hy
    have o2 := ok x z hx hz
    rw [(goN_fl hw hx hy).1, (goN_fl hw hx hz).1, (goN_fl hw o1.1 hz).1, (goN_fl hw o2.1 hy).1]
    exact o1.2.2.2.2 z hz
  · obtain ⟨w, hw, ok⟩ := at_ f (by omega)
    obtain ⟨v, hv, ok'⟩ := at_ (f + 1) hf
    rcases h.next f w v hw hv with E | F
    · refine .inl fun x y z hx hy hz => ?_
      have o1 := ok x y hx hy
      have o2 := ok x z hx hz
      rw [(goN_fl hw hx hy).1, (goN_fl hw hx hz).1, (goN_fl hw hx hy).2, (goN_fl hw hx hz).2, (goN_fl hw o1.1 hz).2, (goN_fl hw o2.1 hy).2]
      exact E x y z hx hy hz
    · refine .inr fun x y z w' hx hy hz hw' => ?_
      rw [(goN_fl hv hx hy).1, (goN_fl hv hz hw').1, (goN_fl hv hx hy).2, (goN_fl hv hz hw').2]
      exact F x y z w' hx hy hz hw'
theorem tabF_no (m : Nat) (S : Nat → Nat → Nat) : noList (tabF m S) = true := noList_of fun e he => by
  obtain ⟨a, _, rfl⟩ := List.mem_map.mp he
  exact noList_ints' _
theorem flD_no (m : Nat) (x : Fl) : noList (flD m x) = true := noList_of fun e he => by
  simp only [List.mem_cons, List.not_mem_nil, or_false] at he
  rcases he with rfl | rfl
  · exact tabF_no m _
  · exact tabF_no m _
theorem fls_no (m : Nat) (l : List Fl) : ∀ d ∈ l.map (flD m), noList d = true := fun d hd => by
  obtain ⟨x, _, rfl⟩ := List.mem_map.mp hd
  exact flD_no m x
def spLHouse : Sp := fun vs H Q _ => ∃ (p : Addr) (most N : Nat), vs = [.ref p, .int (most : Nat), .int 4] ∧ 1 ≤ most ∧ most ≤ 6 ∧ N + 1000 ≤ 1000000000 ∧ Jar H p N ∧
  ∀ hv H' fs m n, Dat H' p hv (.tuple fs) → HouseN m n (.tuple fs) → FairH fs m n → m ≤ most → Jar H' p (N + 1000) → Ext p H H' → Q hv H'
theorem ok_law_house (D : Df K mg "_law_house" s_law_house ["jar", "most", "floors"]) (T : Nms mg) (c_law_dip : CallOk P w K mg base CX0 1 "_law_dip" ["jar", "many"] spDip) (c_law_order : CallOk P w K mg base CX0 2 "_law_order" ["jar", "m"] spOrder)
    (c_law_stay : CallOk P w K mg base CX0 2 "_law_stay" ["kind", "calls"] spStay) (c_law_up : CallOk P w K mg base CX0 1 "_law_up" ["way", "calls", "goes"] spUpT) (c_law_floor : CallOk P w K mg base CX0 3 "_law_floor" ["jar", "m", "is_free"] spFloor) : CallOk P w K mg base CX0 4 "_law_house" ["jar", "most", "floors"] spLHouse := by
  refine df_ok D sc_law_house (fun vs H Q E h => ?_) (fun f cdv A outer s H vs Q E hr h => ?_)
  · obtain ⟨p, most, N, rfl, _⟩ := h
    rfl
  · obtain ⟨p, most, N, rfl, hm1, hm6, hN, hJ, k⟩ := h
    have nd := sc_law_house.nd
    refine ⟨_, (pss_cons (ps_set (i := 3) nd rfl (Or.inl rfl) (pe_op op_add pe_int (pe_cc c_law_dip (hr.mono (by omega)) (pa_cons (pv 0) (pa_cons (pv 1) pa_nil)))))
      (pss_cons (ps_set (i := 4) nd rfl (Or.inl rfl) (pe_lst pa_nil))
      (pss_cons (ps_set (i := 5) nd rfl (Or.inl rfl) pe_bl)
      (pss_cons (ps_for PassesOwn.never rfl (pi_range1 rfl T.n_range (pa_cons (pe_op op_add pe_int (pe_cc c_law_dip (hr.mono (by omega)) (pa_cons (pv 0) (pa_cons (pv 2) pa_nil)))) pa_nil)) (pg_name (i := 6) nd rfl (Or.inl rfl)) (pss_cons (ps_set (i := 7) nd rfl (Or.inl rfl) (pe_cmpR op_eq (pe_cc c_law_dip (hr.mono (by omega)) (pa_cons (pv 0) (pa_cons pe_int pa_nil))) pe_int (nomark _)))
      (pss_cons (ps_set (i := 8) nd rfl (Or.inl rfl) (pe_cc c_law_floor (hr.mono (by omega)) (pa_cons (pv 0) (pa_cons (pv 3) (pa_cons (pv 5) pa_nil)))))
      (pss_cons (ps_if (pt_val (pv 7)) (pss_one (ps_set (i := 8) nd rfl (Or.inl rfl) (pe_tup (pa_cons (pe_cc c_law_stay (hr.mono (by omega)) (pa_cons pe_int (pa_cons (pe_cc c_law_order (hr.mono (by omega)) (pa_cons (pv 0) (pa_cons (pv 3) pa_nil))) pa_nil))) (pa_cons (pe_cc c_law_up (hr.mono (by omega)) (pa_cons pe_int (pa_cons (pe_listRg (by rfl) (by rfl) T.n_list (prg_1 (by rfl) T.n_range (pv 3))) (pa_cons (pe_lst (pa_cons (pe_cc c_law_dip (hr.mono (by omega)) (pa_cons (pv 0) (pa_cons (pv 3) pa_nil))) pa_nil)) pa_nil)))) pa_nil))))) pss_nil)
      (pss_cons (ps_expr (pe_bm PySem.F.plainAttrs_list PySem.F.slot_list_insert PySem.F.type_list_insert mt_insert (pv 4) (pa_cons pe_int (pa_cons (pv 8) pa_nil))))
      (pss_one (ps_set (i := 5) nd rfl (Or.inl rfl) (pv 7))))))))
      (pss_one (ps_ret (pe_callTy (r := rTupOf K) call_tupOf (by rfl) T.n_tuple (by decide +kernel) (pa_cons (pv 4) pa_nil)))))))), ?_⟩
    walk_at "op"
    refine ⟨_, rfl, _, rfl, p, most, N, rfl, by omega, Nat.lt_of_le_of_lt (Nat.log2_le_self _) (by omega), by omega, hJ, fun mm G1 m0 m1 hJ1 x1 => ?_⟩
    obtain ⟨m', rfl⟩ : ∃ m' : Nat, mm = (m' : Int) := ⟨mm.toNat, by omega⟩
    refine ⟨1, _, rfl, rfl, Nat.zero_le _, fun F0 hF0 => ?_⟩
    obtain ⟨m, em, h1, h6⟩ : ∃ m : Nat, (1 : Int) + (m' : Int) = (m : Int) ∧ 1 ≤ m ∧ m ≤ 6 := ⟨1 + m', by omega, by omega, by omega⟩
    rw [em]
    have nJF := hJ1.ne hF0
    have hJ2 := hJ1.up (o := .lst []) nJF
    refine ⟨_, rfl, _, rfl, p, 4, N + 1, rfl, by decide, by decide, by omega, hJ2, fun kk G2 k0 k1 hJ3 x3 => ?_⟩
    obtain ⟨n', rfl⟩ : ∃ n' : Nat, kk = (n' : Int) := ⟨kk.toNat, by omega⟩
    refine ⟨1, _, rfl, rfl, _, rfl, by omega, by omega, ?_⟩
    rw [show ((1 : Int) + (n' : Int)).toNat = 1 + n' by omega]
    have hF2 := x3 _ _ (show upd G1 F0 (.lst []) F0 = some (.lst []) from upd_same) nJF.symm
    have x13 := fun b u (eb : H b = some u) (nb : b ≠ p) => x3 b u (show upd G1 F0 (.lst []) b = some u from by
      have hb := x1 b u eb nb
      rw [upd_ne (ne_of_none hb hF0)]
      exact hb) nb
    have hF0H : H F0 = none := by
      cases q : H F0 with
      | none => rfl
      | some u =>
        have := x1 _ _ q nJF.symm
        rw [hF0] at this
        cases this
    refine fI walk_range (fun i σ G => ∃ (u6 u7 u8 : Option V) (bf : Bool) (ws : List V) (l : List Fl), σ = [some (.ref p), some (.int (most : Nat)), some (.int 4), some (.int (m : Nat)), some (.ref F0), some (.bl bf), u6, u7, u8] ∧ Ext p H G ∧ Jar G p (N + 2 + i * 150) ∧ G F0 = some (.lst ws) ∧ Dats G p ws (l.map (flD m)) ∧ l.length = i ∧ Chain m l ∧ (bf = true → headForgets m l))
      ⟨none, none, none, true, [], [], rfl, x13, hJ3.le (by omega), hF2, Dats.nil, rfl, True.intro, fun _ => True.intro⟩ (fun _ _ _ _ _ => True.intro) ?_ ?_
    · rintro i x σ _ G hi ⟨u6, u7, u8, bf, ws, l, rfl, xG, hJG, hFG, hDs, hll, hC, hhd⟩ ⟨rfl, rfl⟩
      dsimp only
      have hwl : ws.length ≤ 4 := by rw [hDs.1, List.length_map]; omega
      walk_at "op"
      refine ⟨_, rfl, p, 4, N + 2 + i * 150, rfl, by decide, by decide, by omega, hJG, fun dd G3 d0 d1 hJ3 x3 => ?_⟩
      refine ⟨rfl, ?_⟩
      generalize decide (V.int dd = V.int 0) = fb
      refine ⟨_, rfl, _, rfl, _, rfl, p, m, N + 2 + i * 150 + 1, bf, rfl, h1, h6, by omega, hJ3, fun v G4 S U hD hok hev hJ4 x4 => ?_⟩
      have x34 := x3.trans x4
      have hF4 := x34 _ _ hFG nJF.symm
      have hDs4 : Dats G4 p ws (l.map (flD m)) := ⟨hDs.1, fun i x d a b => (hDs.2 i x d a b).ext x34⟩
      have xG4 := xG.trans x34
      refine ⟨_, rfl, fb, rfl, ?_⟩
      cases fb with
      | false =>
        refine iteF ?_
        refine ⟨_, rfl, .inl ⟨rfl, _, SqL.of (hF4)⟩, _, rfl, F0, ws, 0, v, rfl, rfl, hF4, Nat.lt_of_le_of_lt hwl (by rw [sizeLine_eq]; omega), by decide, by decide, ?_⟩
        refine ⟨_, rfl, _, _, _, false, [v] ++ ws, (S, U) :: l, rfl, fun b u eb nb => ?_, (hJ4.le (by omega : N + 2 + i * 150 + 1 + 100 ≤ N + 2 + (i + 1) * 150)).up nJF, upd_same, ?_, by rw [List.length_cons, hll], hC.cons hok (hev.imp id hhd), fun z => by cases z⟩
        · rw [upd_ne (ne_of_none eb hF0H)]
          exact xG4 b u eb nb
        · exact Dats.cons (Dat.setL (hF4) (hD) (flD_no m (S, U))) (Dats.setL (hF4) (hDs4) (fls_no m l))
      | true =>
        refine iteT ?_
        refine ⟨_, rfl, _, rfl, p, m, N + 2 + i * 150 + 1 + 100, rfl, h1, h6, by omega, hJ4, fun q1 l1 G5 hq1 hl1 hP1 hJ5 x5 => ?_⟩
        obtain ⟨um, hum⟩ := hJ5.here
        refine ⟨p, q1, um, 2, m, l1, rfl, hum, by decide, h1, h6, hl1, hP1, fun v1 G6 dd1 s6 => ?_⟩
        refine ⟨_, rfl, _, rfl, RgOk.of_le (by decide) (by omega) (by decide) (by omega), fun q2 hq2 => ?_⟩
        have eL : rgV 0 (m : Int) = (List.range m).map fun k : Nat => V.int (k : Nat) := by
          unfold rgV
          rw [show ((m : Int) - 0).toNat = m by omega]
          refine List.map_congr_left fun i _ => ?_
          rw [Int.zero_add]
        rw [eL]
        have s7 := same_new (o := .lst ((List.range m).map fun k : Nat => V.int (k : Nat))) hq2
        have hJ7 := (hJ5.same s6).same s7
        have hq27 : upd G6 q2 (.lst ((List.range m).map fun k : Nat => V.int (k : Nat))) q2 = some (.lst ((List.range m).map fun k : Nat => V.int (k : Nat))) := upd_same
        have nq2p : q2 ≠ p := (((hJ5.same s6)).ne hq2).symm
        generalize upd G6 q2 (.lst ((List.range m).map fun k : Nat => V.int (k : Nat))) = G7 at *
        refine ⟨_, rfl, _, rfl, p, m, N + 2 + i * 150 + 1 + 100 + m, rfl, by omega, Nat.lt_of_le_of_lt (Nat.log2_le_self _) (by omega), by omega, hJ7, fun gg G8 g0 g1 hJ8 x8 => ?_⟩
        obtain ⟨gn, rfl⟩ : ∃ gn : Nat, gg = (gn : Int) := ⟨gg.toNat, by omega⟩
        refine ⟨by show 1 ≤ sizeLine; decide, fun gl hgl => ?_⟩
        have s9 := same_new (o := .lst [V.int (gn : Nat)]) hgl
        have hJ9 := hJ8.same s9
        obtain ⟨u9, hu9⟩ := hJ9.here
        refine ⟨p, q2, gl, u9, 2, m, List.range m, [gn], rfl, hu9, by decide, h1, h6, s9 _ _ (x8 _ _ hq27 nq2p), List.Perm.refl _, upd_same, fun a b ha hb => by show 0 < 1; decide, fun v2 G10 dd2 s10 => ?_⟩
        refine ⟨by show 2 ≤ sizeLine; decide, fun t ht => ?_⟩
        have s11 := same_new (o := .tup [v1, v2]) ht
        have x711 : Ext p G7 (upd G10 t (.tup [v1, v2])) := x8.trans ((Same.ext s9 p).trans ((Same.ext s10 p).trans (Same.ext s11 p)))
        have x411 : Ext p G4 (upd G10 t (.tup [v1, v2])) := x5.trans ((Same.ext s6 p).trans ((Same.ext s7 p).trans x711))
        have hJ11 := (hJ9.same s10).same s11
        have hFt := x411 _ _ hF4 nJF.symm
        have hDst : Dats (upd G10 t (.tup [v1, v2])) p ws (l.map (flD m)) := ⟨hDs4.1, fun i x d a b => (hDs4.2 i x d a b).ext x411⟩
        have ntp : t ≠ p := ((hJ9.same s10).ne ht).symm
        have C1 := calls_of hP1
        have C2 := calls_of (List.Perm.refl (List.range m))
        have hDt : Dat (upd G10 t (.tup [v1, v2])) p (.ref t) (flD m (FmC.stayOf 2 m (callF l1) (backF l1), FmC.upOf 2 m (backF (List.range m)) (callF [gn]))) := Dat.new ht ntp (Dats.cons (((dd1.same s7).ext x8).ext ((Same.ext s9 p).trans (Same.ext s10 p))) (Dats.cons dd2 Dats.nil))
        have hokt : FlOk m (FmC.stayOf 2 m (callF l1) (backF l1)) (FmC.upOf 2 m (backF (List.range m)) (callF [gn])) := fun x y hx hy => by
          obtain ⟨z1, z2, z3⟩ := FmC.stay_facts (kind := 2) (by omega) (by decide) C1 hx hy
          exact ⟨z1, z2, by show gn < m; omega, rfl, z3⟩
        have hevt : FmC.Even m (FmC.stayOf 2 m (callF l1) (backF l1)) (FmC.upOf 2 m (backF (List.range m)) (callF [gn])) := fun x y z _ _ _ => .inl ⟨rfl, rfl⟩
        refine ⟨_, rfl, .inl ⟨rfl, _, SqL.of (hFt)⟩, _, rfl, F0, ws, 0, (.ref t), rfl, rfl, hFt, Nat.lt_of_le_of_lt hwl (by rw [sizeLine_eq]; omega), by decide, by decide, ?_⟩
        refine ⟨_, rfl, _, _, _, true, [(.ref t)] ++ ws, (FmC.stayOf 2 m (callF l1) (backF l1), FmC.upOf 2 m (backF (List.range m)) (callF [gn])) :: l, rfl, fun b u eb nb => ?_, (hJ11.le (by omega : N + 2 + i * 150 + 1 + 100 + m + 1 ≤ N + 2 + (i + 1) * 150)).up nJF, upd_same, ?_, by rw [List.length_cons, hll], hC.cons hokt (.inl hevt), fun _ => show FmC.Forgets m (FmC.stayOf 2 m (callF l1) (backF l1)) (FmC.upOf 2 m (backF (List.range m)) (callF [gn])) from FmC.forgets_of⟩
        · rw [upd_ne (ne_of_none eb hF0H)]
          exact (xG4.trans x411) b u eb nb
        · exact Dats.cons (Dat.setL (hFt) (hDt) (flD_no m (FmC.stayOf 2 m (callF l1) (backF l1), FmC.upOf 2 m (backF (List.range m)) (callF [gn])))) (Dats.setL (hFt) (hDst) (fls_no m l))
    · rintro σ G ⟨u6, u7, u8, bf, ws, l, rfl, xG, hJG, hFG, hDs, hll, hC, hhd⟩
      walk_at "op"
      refine ⟨_, rfl, F0, ws, rfl, .inl ⟨SqL.of hFG, fun t ht => ?_⟩⟩
      have ntp := (hJG.ne ht).symm
      exact k _ _ _ m l.length (Dat.new ht ntp hDs) (house_of hC h1 h6 (by omega) (by omega)) (fair_of hC h1) (by omega) ((hJG.up ntp.symm).le (by omega)) (xG.trans (Same.ext (same_new ht) p))
end
end Fm
end FLH2
section FFmHeaps
/-! Heaps of people, told one by one, as counts. Pure, nothing of the model. -/
set_option linter.all false
namespace FmC
/-- n floors of people told one by one, behind them those who went out -/
def hsSt (n : Nat) (hs : List (List Nat)) (out : Nat) : St := fun g a => if g < n then (hs.getD g []).count a else if g = n ∧ a = 0 then out + (hs.getD n []).length else 0
theorem one_at (f a g b : Nat) : one f a g b = if g = f then (if b = a then 1 else 0) else 0 := by
  unfold one
  by_cases h : g = f
  · by_cases k : b = a
    · rw [if_pos ⟨h, k⟩, if_pos h, if_pos k]
    · rw [if_neg (fun q => k q.2), if_pos h, if_neg k]
  · rw [if_neg (fun q => h q.1), if_neg h]
theorem count_one (l : List Nat) (a x : Nat) : (a :: l).count x = l.count x + if x = a then 1 else 0 := by
  rw [List.count_cons]
  by_cases h : x = a
  · subst h
    rw [if_pos (beq_self_eq_true x), if_pos rfl]
  · rw [if_neg (by simpa using Ne.symm h), if_neg h]
theorem count_snoc (l : List Nat) (a x : Nat) : (l ++ [a]).count x = l.count x + if x = a then 1 else 0 := by
  rw [List.count_append, count_one]
  simp
theorem getD_set_same {α : Type} (l : List α) (i : Nat) (x d : α) (h : i < l.length) : (l.set i x).getD i d = x := by
  rw [List.getD_eq_getElem?_getD, List.getElem?_set_self h]
  rfl
theorem getD_set_ne {α : Type} (l : List α) (i j : Nat) (x d : α) (h : i ≠ j) : (l.set i x).getD j d = l.getD j d := by
  rw [List.getD_eq_getElem?_getD, List.getElem?_set_ne h, List.getD_eq_getElem?_getD]
theorem hs_step {n m : Nat} {S U : Nat → Nat → Nat → Nat} {hs : List (List Nat)} {out f a b : Nat} {h u rest : List Nat} (hf : f < n) (hl : hs.length = n + 1) (hh : hs[f]? = some h) (hu : hs[f + 1]? = some u) (hp : h.Perm (a :: b :: rest)) (ha : a < m) (hb : b < m) :
    Step n m S (outU n U) (hsSt n hs out) (hsSt n ((hs.set f (rest ++ [S f a b])).set (f + 1) (u ++ [U f a b])) out) := by
  have eh : hs.getD f [] = h := by rw [List.getD_eq_getElem?_getD, hh]; rfl
  have eu : hs.getD (f + 1) [] = u := by rw [List.getD_eq_getElem?_getD, hu]; rfl
  refine ⟨fun g x => if g = f then rest.count x else hsSt n hs out g x, f, a, b, hf, ha, hb, ?_, ?_⟩
  · funext g x
    simp only [add_at, one_at]
    by_cases hg : g = f
    · subst hg
      rw [if_pos rfl, if_pos rfl, if_pos rfl]
      unfold hsSt
      rw [if_pos hf, eh, hp.count_eq, count_one, count_one]
      omega
    · rw [if_neg hg, if_neg hg, if_neg hg]
      omega
  · funext g x
    simp only [add_at, one_at]
    by_cases hg : g = f
    · subst hg
      rw [if_pos rfl, if_pos rfl, if_neg (by omega : ¬ g = g + 1)]
      unfold hsSt
      rw [if_pos hf, getD_set_ne _ _ _ _ _ (by omega), getD_set_same _ _ _ _ (by omega), count_snoc]
      omega
    · rw [if_neg hg, if_neg hg]
      by_cases h1 : g = f + 1
      · subst h1
        rw [if_pos rfl]
        unfold hsSt outU
        by_cases hn : f + 1 < n
        · rw [if_pos hn, if_pos hn, if_pos hn, getD_set_same _ _ _ _ (by rw [List.length_set]; omega), eu, count_snoc]
          omega
        · have en : f + 1 = n := by omega
          rw [if_neg hn, if_neg hn, if_neg hn, ← en, getD_set_same _ _ _ _ (by rw [List.length_set]; omega), eu, List.length_append]
          by_cases z : x = 0
          · rw [if_pos ⟨rfl, z⟩, if_pos ⟨rfl, z⟩, if_pos z]
            show out + (u.length + 1) = _
            omega
          · rw [if_neg (fun q => z q.2), if_neg (fun q => z q.2), if_neg z]
      · rw [if_neg h1]
        unfold hsSt
        by_cases hn : g < n
        · rw [if_pos hn, if_pos hn, getD_set_ne _ _ _ _ _ (Ne.symm h1), getD_set_ne _ _ _ _ _ (Ne.symm hg)]
          omega
        · rw [if_neg hn, if_neg hn]
          by_cases e : g = n
          · subst e
            rw [getD_set_ne _ _ _ _ _ (Ne.symm h1), getD_set_ne _ _ _ _ _ (Ne.symm hg)]
            omega
          · rw [if_neg (fun q => e q.1), if_neg (fun q => e q.1)]
end FmC
end FFmHeaps
section FFmStill
/-! Heaps and rows at rest; how many meetings heaps can have. Pure, nothing of the model. -/
set_option linter.all false
namespace FmC
theorem sum_count (m : Nat) (l : List Nat) : sumTo m (fun x => l.count x) ≤ l.length := by
  induction l with
  | nil =>
    have : (fun x => ([] : List Nat).count x) = fun _ => 0 := by funext x; rfl
    rw [this, sumTo_zero]
    exact Nat.le_refl _
  | cons a l ih =>
    have : (fun x => (a :: l).count x) = fun x => l.count x + if x = a then 1 else 0 := by funext x; exact count_one l a x
    rw [this, sumTo_add, List.length_cons]
    by_cases h : a < m
    · rw [sumTo_at h]
      omega
    · rw [sumTo_out (by omega)]
      omega
theorem sumTo_le {k : Nat} {g h : Nat → Nat} (e : ∀ i, i < k → g i ≤ h i) : sumTo k g ≤ sumTo k h := by
  induction k with
  | zero => exact Nat.le_refl _
  | succ k ih =>
    have := ih fun i hi => e i (by omega)
    have := e k (by omega)
    simp only [sumTo]
    omega
theorem getD_len {hs : List (List Nat)} {k : Nat} (h : ∀ x ∈ hs, x.length ≤ k) (f : Nat) : (hs.getD f []).length ≤ k := by
  rw [List.getD_eq_getElem?_getD]
  cases e : hs[f]? with
  | none => exact Nat.zero_le _
  | some x => exact h x (List.mem_of_getElem? e)
theorem tall_heaps {n m : Nat} {hs : List (List Nat)} {out : Nat} (hn : n ≤ 4) (h : ∀ x ∈ hs, x.length ≤ 60) : tall n m (hsSt n hs out) ≤ 600 := by
  have h1 : tall n m (hsSt n hs out) ≤ sumTo n fun f => (n - f) * 60 := by
    refine sumTo_le fun f hf => Nat.mul_le_mul_left _ ?_
    have : hsSt n hs out f = fun x => (hs.getD f []).count x := by
      funext x
      unfold hsSt
      rw [if_pos hf]
    rw [this]
    exact Nat.le_trans (sum_count _ _) (getD_len h f)
  have h2 : sumTo n (fun f => (n - f) * 60) ≤ 600 := by
    have : n = 0 ∨ n = 1 ∨ n = 2 ∨ n = 3 ∨ n = 4 := by omega
    rcases this with rfl | rfl | rfl | rfl | rfl <;> decide
  omega
theorem sum_one {m f a : Nat} (h : a < m) : sumTo m (one f a f) = 1 := by
  rw [show one f a f = fun b => if b = a then 1 else 0 from by funext b; simp [one]]
  exact sumTo_at h 1
/-- where there is at most one on a floor, nobody can meet -/
theorem still_of {n m : Nat} {S U : Nat → Nat → Nat → Nat} {c : St} (h : ∀ f, f < n → sumTo m (c f) ≤ 1) : Still n m S U c := by
  rintro d ⟨e, f, a, b, hf, ha, hb, rfl, _⟩
  have h1 := h f hf
  have : (e + one f a + one f b) f = fun x => e f x + one f a f x + one f b f x := rfl
  rw [this, sumTo_add, sumTo_add] at h1
  have h2 := sum_one (f := f) ha
  have h3 := sum_one (f := f) hb
  have h4 : sumTo m (fun x => one f a f x) = 1 := h2
  have h5 : sumTo m (fun x => one f b f x) = 1 := h3
  omega
theorem hs_still {n m : Nat} {S U : Nat → Nat → Nat → Nat} {hs : List (List Nat)} {out : Nat} (h : ∀ f, f < n → (hs.getD f []).length ≤ 1) : Still n m S U (hsSt n hs out) := still_of fun f hf => by
  have : hsSt n hs out f = fun x => (hs.getD f []).count x := by
    funext x
    unfold hsSt
    rw [if_pos hf]
  rw [this]
  exact Nat.le_trans (sum_count _ _) (h f hf)
theorem sum_cnt : ∀ {m : Nat} {c : List Int}, NN c → ((sumTo m (cnt c) : Nat) : Int) ≤ c.sum
  | m, [], _ => by
    have : cnt [] = fun _ => 0 := by
      funext a
      unfold cnt
      rw [List.getD_eq_getElem?_getD]
      rfl
    rw [this, sumTo_zero]
    exact Int.le_refl _
  | 0, c, h => h.sum
  | m + 1, x :: c, h => by
    have ih := sum_cnt (m := m) (c := c) fun y hy => h y (List.mem_cons_of_mem _ hy)
    have hx := h x List.mem_cons_self
    have e : ∀ k, sumTo (k + 1) (cnt (x :: c)) = x.toNat + sumTo k (cnt c) := fun k => by
      induction k with
      | zero => simp only [sumTo]; show 0 + cnt (x :: c) 0 = x.toNat + 0; unfold cnt; rw [List.getD_cons_zero]; omega
      | succ k ih =>
        rw [sumTo, ih, sumTo]
        have : cnt (x :: c) (k + 1) = cnt c k := by unfold cnt; rw [List.getD_cons_succ]
        omega
    rw [e m, List.sum_cons]
    omega
theorem st_still {n m : Nat} {S U : Nat → Nat → Nat → Nat} {rows : List (List Int)} {out : Int} (h : ∀ r ∈ rows, NN r ∧ r.sum ≤ 1) : Still n m S U (stSt n rows out) := still_of fun f hf => by
  have : stSt n rows out f = cnt (rows.getD f []) := by
    funext x
    unfold stSt
    rw [if_pos hf]
  rw [this]
  have h1 : NN (rows.getD f []) ∧ (rows.getD f []).sum ≤ 1 := by
    rw [List.getD_eq_getElem?_getD]
    cases e : rows[f]? with
    | none => exact ⟨(fun x hx => by cases hx), (by decide)⟩
    | some x => exact h x (List.mem_of_getElem? e)
  have h2 := sum_cnt (m := m) h1.1
  omega
/-- counts of a heap as a row -/
theorem hs_rows {n m : Nat} {hs : List (List Nat)} {out : Nat} {rows : List (List Int)} (hl : hs.length = n) (hr : rows.length = n) (hm : ∀ h ∈ hs, ∀ x ∈ h, x < m)
    (e : ∀ (f : Nat) (h : List Nat) (r : List Int), hs[f]? = some h → rows[f]? = some r → r.length = m ∧ ∀ a, a < m → r[a]? = some ((h.count a : Nat) : Int)) : hsSt n (hs ++ [[]]) out = stSt n rows (out : Int) := by
  funext g a
  unfold hsSt stSt
  by_cases hg : g < n
  · rw [if_pos hg, if_pos hg]
    have h1 : (hs ++ [[]])[g]? = some (hs[g]'(by omega)) := by rw [List.getElem?_append_left (by omega), List.getElem?_eq_getElem]
    have h2 : rows[g]? = some (rows[g]'(by omega)) := List.getElem?_eq_getElem _
    obtain ⟨e1, e2⟩ := e g _ _ (List.getElem?_eq_getElem (by omega)) h2
    rw [List.getD_eq_getElem?_getD, List.getD_eq_getElem?_getD, h1, h2]
    show List.count a (hs[g]'(by omega)) = cnt (rows[g]'(by omega)) a
    unfold cnt
    by_cases ha : a < m
    · rw [List.getD_eq_getElem?_getD, e2 a ha]
      rfl
    · rw [List.getD_eq_getElem?_getD, List.getElem?_eq_none (by omega)]
      exact List.count_eq_zero.mpr fun q => ha (hm _ (List.getElem_mem _) a q)
  · rw [if_neg hg, if_neg hg]
    by_cases z : g = n ∧ a = 0
    · rw [if_pos z, if_pos z]
      have : ((hs ++ [[]]).getD n []).length = 0 := by
        rw [List.getD_eq_getElem?_getD, List.getElem?_append_right (by omega), hl, Nat.sub_self]
        rfl
      omega
    · rw [if_neg z, if_neg z]
/-- heaps at rest that are as rows at rest -/
theorem rest_rows {n m : Nat} {hs : List (List Nat)} {out : Nat} {rows : List (List Int)} {out' : Int} (hl : hs.length = n + 1) (h1 : ∀ f, f < n → (hs.getD f []).length ≤ 1) (hr : rows.length = n) (ho : 0 ≤ out') (rr : ∀ r ∈ rows, r.length = m ∧ NN r)
    (e : hsSt n hs out = stSt n rows out') : out' = ((out + (hs.getD n []).length : Nat) : Int) ∧ ∀ (f : Nat) (r : List Int), rows[f]? = some r → r = (List.range m).map fun k : Nat => if (hs.getD f []).head? = some k then (1 : Int) else 0 := by
  constructor
  · have := congrFun (congrFun e n) 0
    unfold hsSt stSt at this
    rw [if_neg (Nat.lt_irrefl n), if_neg (Nat.lt_irrefl n), if_pos ⟨rfl, rfl⟩, if_pos ⟨rfl, rfl⟩] at this
    omega
  · intro f r hfr
    have hf : f < n := by
      have := (List.getElem?_eq_some_iff.mp hfr).1
      omega
    obtain ⟨rl, rn⟩ := rr r (List.mem_of_getElem? hfr)
    have hh := h1 f hf
    refine List.ext_getElem (by rw [rl, List.length_map, List.length_range]) fun a p1 p2 => ?_
    rw [List.getElem_map, List.getElem_range]
    have := congrFun (congrFun e f) a
    unfold hsSt stSt at this
    rw [if_pos hf, if_pos hf] at this
    have e3 : rows.getD f [] = r := by rw [List.getD_eq_getElem?_getD, hfr]; rfl
    have e4 := rn.cnt a
    rw [e3] at this
    have e5 : r.getD a 0 = r[a] := by rw [List.getD_eq_getElem?_getD, List.getElem?_eq_getElem p1]; rfl
    rw [e5, ← this] at e4
    rw [← e4]
    generalize hs.getD f [] = h at *
    match h, hh with
    | [], _ => rfl
    | [x], _ =>
      rw [count_one]
      show (((0 + if a = x then 1 else 0 : Nat) : Nat) : Int) = if some x = some a then 1 else 0
      by_cases z : a = x
      · rw [if_pos z, if_pos (by rw [z])]
        rfl
      · rw [if_neg z, if_neg (fun q => z (by cases q; rfl))]
        rfl
def endRow (m : Nat) (o : Option Nat) : List Int := (List.range m).map fun k : Nat => if o = some k then 1 else 0
theorem endRow_len (m : Nat) (o : Option Nat) : (endRow m o).length = m := by unfold endRow; rw [List.length_map, List.length_range]
theorem endRow_nn (m : Nat) (o : Option Nat) : NN (endRow m o) := fun x hx => by
  obtain ⟨k, _, rfl⟩ := List.mem_map.mp hx
  split <;> decide
theorem endRow_cnt (m : Nat) (o : Option Nat) (a : Nat) : cnt (endRow m o) a = if a < m ∧ o = some a then 1 else 0 := by
  unfold cnt endRow
  rw [List.getD_eq_getElem?_getD, List.getElem?_map]
  by_cases ha : a < m
  · rw [List.getElem?_range ha]
    show Int.toNat (if o = some a then 1 else 0) = _
    by_cases h : o = some a
    · rw [if_pos h, if_pos ⟨ha, h⟩]
      rfl
    · rw [if_neg h, if_neg (fun q => h q.2)]
      rfl
  · rw [List.getElem?_eq_none (by rw [List.length_range]; omega), if_neg (fun q => ha q.1)]
    rfl
theorem sum_map_one (o : Option Nat) : ∀ m : Nat, ((List.range m).map fun k : Nat => if o = some k then (1 : Int) else 0).sum = if ∃ k, k < m ∧ o = some k then 1 else 0
  | 0 => by
    rw [if_neg (by rintro ⟨k, h, _⟩; omega)]
    rfl
  | m + 1 => by
    rw [List.range_succ, List.map_append, List.sum_append, sum_map_one o m]
    show _ + ((if o = some m then (1 : Int) else 0) + 0) = _
    by_cases h : o = some m
    · have e1 : ¬ ∃ k, k < m ∧ o = some k := by
        rintro ⟨k, hk, e⟩
        rw [h] at e
        cases e
        omega
      rw [if_pos h, if_neg e1, if_pos (⟨m, Nat.lt_succ_self m, h⟩ : ∃ k, k < m + 1 ∧ o = some k)]
      rfl
    · rw [if_neg h]
      by_cases q : ∃ k, k < m ∧ o = some k
      · rw [if_pos q, if_pos (by obtain ⟨k, hk, e⟩ := q; exact ⟨k, by omega, e⟩)]
        rfl
      · rw [if_neg q, if_neg (by
          rintro ⟨k, hk, e⟩
          by_cases z : k = m
          · exact h (by rw [e, z])
          · exact q ⟨k, by omega, e⟩)]
        rfl
theorem endRow_sum (m : Nat) (o : Option Nat) : (endRow m o).sum ≤ 1 := by
  unfold endRow
  rw [sum_map_one]
  split <;> decide
/-- heaps at rest as rows -/
theorem hs_end {n m : Nat} {hs : List (List Nat)} {out : Nat} (hl : hs.length = n + 1) (hm : ∀ h ∈ hs, ∀ x ∈ h, x < m) (h1 : ∀ f, f < n → (hs.getD f []).length ≤ 1) :
    hsSt n hs out = stSt n (((hs.take n).map List.head?).map (endRow m)) ((out + (hs.getD n []).length : Nat) : Int) := by
  funext g a
  unfold hsSt stSt
  by_cases hg : g < n
  · rw [if_pos hg, if_pos hg]
    have e : (((hs.take n).map List.head?).map (endRow m)).getD g [] = endRow m (hs.getD g []).head? := by
      rw [List.getD_eq_getElem?_getD, List.getElem?_map, List.getElem?_map, List.getElem?_take_of_lt hg, List.getElem?_eq_getElem (show g < hs.length by omega), List.getD_eq_getElem?_getD, List.getElem?_eq_getElem (show g < hs.length by omega)]
      rfl
    rw [e, endRow_cnt]
    have hh := h1 g hg
    have hm' : ∀ x ∈ hs.getD g [], x < m := fun x hx => by
      rw [List.getD_eq_getElem?_getD, List.getElem?_eq_getElem (show g < hs.length by omega)] at hx
      exact hm _ (List.getElem_mem _) x hx
    generalize hs.getD g [] = h at *
    match h, hh with
    | [], _ => rw [if_neg (fun q => by cases q.2)]; rfl
    | [x], _ =>
      rw [count_one]
      show 0 + (if a = x then 1 else 0) = if a < m ∧ some x = some a then 1 else 0
      have hx := hm' x List.mem_cons_self
      by_cases z : a = x
      · rw [if_pos z, if_pos ⟨by omega, by rw [z]⟩]
      · rw [if_neg z, if_neg (fun q => z (by cases q.2; rfl))]
  · rw [if_neg hg, if_neg hg]
    by_cases z : g = n ∧ a = 0
    · rw [if_pos z, if_pos z]
      rfl
    · rw [if_neg z, if_neg z]
/-- rows are told by their counts -/
theorem st_inj {n m : Nat} {r1 r2 : List (List Int)} {o1 o2 : Int} (l1 : r1.length = n) (l2 : r2.length = n) (k1 : ∀ r ∈ r1, r.length = m ∧ NN r) (k2 : ∀ r ∈ r2, r.length = m ∧ NN r) (p1 : 0 ≤ o1) (p2 : 0 ≤ o2) (e : stSt n r1 o1 = stSt n r2 o2) : r1 = r2 ∧ o1 = o2 := by
  constructor
  · refine List.ext_getElem (by omega) fun f h1 h2 => ?_
    obtain ⟨a1, a2⟩ := k1 _ (List.getElem_mem h1)
    obtain ⟨b1, b2⟩ := k2 _ (List.getElem_mem h2)
    refine List.ext_getElem (by omega) fun a q1 q2 => ?_
    have := congrFun (congrFun e f) a
    unfold stSt at this
    rw [if_pos (by omega), if_pos (by omega)] at this
    have e1 : r1.getD f [] = r1[f] := by rw [List.getD_eq_getElem?_getD, List.getElem?_eq_getElem h1]; rfl
    have e2 : r2.getD f [] = r2[f] := by rw [List.getD_eq_getElem?_getD, List.getElem?_eq_getElem h2]; rfl
    rw [e1, e2] at this
    have c1 := a2.cnt a
    have c2 := b2.cnt a
    have d1 : (r1[f]).getD a 0 = (r1[f])[a] := by rw [List.getD_eq_getElem?_getD, List.getElem?_eq_getElem q1]; rfl
    have d2 : (r2[f]).getD a 0 = (r2[f])[a] := by rw [List.getD_eq_getElem?_getD, List.getElem?_eq_getElem q2]; rfl
    omega
  · have := congrFun (congrFun e n) 0
    unfold stSt at this
    rw [if_neg (Nat.lt_irrefl n), if_neg (Nat.lt_irrefl n), if_pos ⟨rfl, rfl⟩, if_pos ⟨rfl, rfl⟩] at this
    omega
end FmC
end FFmStill
section FFmFew
/-! All orders of few, gone through state by state, what was seen before left out. Pure, nothing of the model. -/
set_option linter.all false
namespace FmC
/-- heaps of people floor by floor, and how many are out -/
abbrev Hs := List (List Nat) × Nat
def pSt (n : Nat) (x : Hs) : St := fun g a => if g < n then (x.1.getD g []).count a else if g = n ∧ a = 0 then x.2 else 0
def tot (hs : List (List Nat)) : Nat := (hs.map List.length).sum
theorem p_is_hs {n : Nat} {hs : List (List Nat)} {out : Nat} (h : hs.length = n) : hsSt n (hs ++ [[]]) out = pSt n (hs, out) := by
  funext g a
  unfold hsSt pSt
  by_cases hg : g < n
  · rw [if_pos hg, if_pos hg, List.getD_eq_getElem?_getD, List.getElem?_append_left (by omega), List.getD_eq_getElem?_getD]
  · rw [if_neg hg, if_neg hg]
    have : ((hs ++ [[]]).getD n []).length = 0 := by
      rw [List.getD_eq_getElem?_getD, List.getElem?_append_right (by omega), h, Nat.sub_self]
      rfl
    by_cases z : g = n ∧ a = 0
    · rw [if_pos z, if_pos z, this]
      rfl
    · rw [if_neg z, if_neg z]
/-- lists that are as others but for the order within -/
def PermL (x y : List (List Nat)) : Prop := x.length = y.length ∧ ∀ i : Nat, (x.getD i []).Perm (y.getD i [])
theorem p_perm {n : Nat} {x y : List (List Nat)} (h : PermL x y) (out : Nat) : pSt n (x, out) = pSt n (y, out) := by
  funext g a
  unfold pSt
  show (if g < n then List.count a (x.getD g []) else _) = if g < n then List.count a (y.getD g []) else _
  rw [(h.2 g).count_eq]
theorem tot_get : ∀ {hs : List (List Nat)} {i : Nat}, i < hs.length → ∀ h', tot (hs.set i h') + (hs.getD i []).length = tot hs + h'.length
  | x :: l, 0, _, h' => by
    unfold tot
    show (h'.length + (l.map List.length).sum) + x.length = (x.length + (l.map List.length).sum) + h'.length
    omega
  | x :: l, i + 1, hi, h' => by
    have ih := tot_get (hs := l) (i := i) (by simpa using hi) h'
    unfold tot at ih ⊢
    show (x.length + ((l.set i h').map List.length).sum) + (l.getD i []).length = (x.length + (l.map List.length).sum) + h'.length
    omega
theorem tot_perm : ∀ {x y : List (List Nat)}, PermL x y → tot x = tot y
  | [], [], _ => rfl
  | [], _ :: _, h => by cases h.1
  | _ :: _, [], h => by cases h.1
  | a :: x, b :: y, h => by
    have ih := tot_perm (x := x) (y := y) ⟨by simpa using h.1, fun i => h.2 (i + 1)⟩
    have h0 : a.Perm b := h.2 0
    unfold tot at ih ⊢
    rw [List.map_cons, List.map_cons, List.sum_cons, List.sum_cons, ih, h0.length_eq]
theorem len_tot : ∀ {hs : List (List Nat)} {h : List Nat}, h ∈ hs → h.length ≤ tot hs
  | x :: l, h, hh => by
    unfold tot
    rw [List.map_cons, List.sum_cons]
    rcases List.mem_cons.mp hh with rfl | hh
    · omega
    · have := len_tot hh
      unfold tot at this
      omega
section
variable {n m : Nat} {S U : Nat → Nat → Nat → Nat}
/-- who two leave behind: the floors, and one more out from the last -/
def metL (n : Nat) (S U : Nat → Nat → Nat → Nat) (hs : List (List Nat)) (f a b : Nat) (rest : List Nat) : List (List Nat) :=
  if f + 1 < n then (hs.set f (rest ++ [S f a b])).set (f + 1) (hs.getD (f + 1) [] ++ [U f a b]) else hs.set f (rest ++ [S f a b])
structure Nxt (n m : Nat) (S U : Nat → Nat → Nat → Nat) (x y : Hs) : Prop where
  len : y.1.length = n
  lt : ∀ h ∈ y.1, ∀ a ∈ h, a < m
  step : Step n m S (outU n U) (pSt n x) (pSt n y)
  tot : tot y.1 + y.2 = tot x.1 + x.2
  le : x.2 ≤ y.2
theorem nxt_of (B : Tabs n m S U) {hs hs2 : List (List Nat)} {out f a b : Nat} {h rest : List Nat} (hf : f < n) (hl : hs.length = n) (hlt : ∀ h ∈ hs, ∀ a ∈ h, a < m) (hh : hs[f]? = some h) (hp : h.Perm (a :: b :: rest))
    (q : PermL hs2 (metL n S U hs f a b rest)) : Nxt n m S U (hs, out) (hs2, out + if f + 1 = n then 1 else 0) := by
  have eh : hs.getD f [] = h := by rw [List.getD_eq_getElem?_getD, hh]; rfl
  have hm := hlt h (List.mem_of_getElem? hh)
  have ha : a < m := hm a (hp.mem_iff.mpr List.mem_cons_self)
  have hb : b < m := hm b (hp.mem_iff.mpr (List.mem_cons_of_mem _ List.mem_cons_self))
  have hr : ∀ x ∈ rest, x < m := fun x hx => hm x (hp.mem_iff.mpr (List.mem_cons_of_mem _ (List.mem_cons_of_mem _ hx)))
  have hpl := hp.length_eq
  rw [List.length_cons, List.length_cons] at hpl
  have hml : (metL n S U hs f a b rest).length = n := by
    unfold metL
    split
    · rw [List.length_set, List.length_set]; exact hl
    · rw [List.length_set]; exact hl
  have hmt : ∀ z ∈ metL n S U hs f a b rest, ∀ x ∈ z, x < m := fun z hz x hx => by
    have r1 : ∀ x ∈ rest ++ [S f a b], x < m := fun x hx => by
      rcases List.mem_append.mp hx with hx | hx
      · exact hr x hx
      · rw [List.mem_singleton.mp hx]
        exact B.sm f a b hf ha hb
    unfold metL at hz
    split at hz
    · rcases List.mem_or_eq_of_mem_set hz with hz | rfl
      · rcases List.mem_or_eq_of_mem_set hz with hz | rfl
        · exact hlt z hz x hx
        · exact r1 x hx
      · rcases List.mem_append.mp hx with hx | hx
        · rw [List.getD_eq_getElem?_getD] at hx
          cases e : hs[f + 1]? with
          | none => rw [e] at hx; cases hx
          | some u =>
            rw [e] at hx
            exact hlt u (List.mem_of_getElem? e) x hx
        · rw [List.mem_singleton.mp hx]
          exact B.um f a b hf ha hb
    · rcases List.mem_or_eq_of_mem_set hz with hz | rfl
      · exact hlt z hz x hx
      · exact r1 x hx
  have ht : tot (metL n S U hs f a b rest) + (if f + 1 = n then 1 else 0) = tot hs := by
    have t1 := tot_get (hs := hs) (i := f) (by omega) (rest ++ [S f a b])
    rw [eh, List.length_append] at t1
    have e1 : [S f a b].length = 1 := rfl
    unfold metL
    by_cases hn : f + 1 < n
    · rw [if_pos hn, if_neg (by omega)]
      have t2 := tot_get (hs := hs.set f (rest ++ [S f a b])) (i := f + 1) (by rw [List.length_set]; omega) (hs.getD (f + 1) [] ++ [U f a b])
      rw [getD_set_ne _ _ _ _ _ (by omega), List.length_append] at t2
      have e2 : [U f a b].length = 1 := rfl
      omega
    · rw [if_neg hn, if_pos (by omega)]
      omega
  refine ⟨by rw [q.1]; exact hml, fun z hz x hx => ?_, ?_, ?_, Nat.le_add_right _ _⟩
  · obtain ⟨i, hi, rfl⟩ := List.getElem_of_mem hz
    have e : hs2.getD i [] = hs2[i] := by rw [List.getD_eq_getElem?_getD, List.getElem?_eq_getElem hi]; rfl
    have hx' := (q.2 i).mem_iff.mp (by rw [e]; exact hx)
    rw [List.getD_eq_getElem?_getD] at hx'
    cases e2 : (metL n S U hs f a b rest)[i]? with
    | none => rw [e2] at hx'; cases hx'
    | some u =>
      rw [e2] at hx'
      exact hmt u (List.mem_of_getElem? e2) x hx'
  · rw [p_perm q]
    have st := hs_step (n := n) (m := m) (S := S) (U := U) (hs := hs ++ [[]]) (out := out) (f := f) (a := a) (b := b) (h := h) (u := (hs ++ [[]]).getD (f + 1) []) (rest := rest) hf (by rw [List.length_append, hl]; rfl)
      (by rw [List.getElem?_append_left (by omega)]; exact hh) (by rw [List.getD_eq_getElem?_getD, List.getElem?_eq_getElem (by rw [List.length_append, hl]; show f + 1 < n + 1; omega)]; rfl) hp ha hb
    rw [p_is_hs hl] at st
    refine (congrArg (Step n m S (outU n U) (pSt n (hs, out))) ?_).mp st
    funext g x
    unfold hsSt pSt metL
    by_cases hn : f + 1 < n
    · rw [if_pos hn]
      have eu : (hs ++ [[]]).getD (f + 1) [] = hs.getD (f + 1) [] := by rw [List.getD_eq_getElem?_getD, List.getElem?_append_left (by omega), List.getD_eq_getElem?_getD]
      rw [eu]
      by_cases hg : g < n
      · rw [if_pos hg, if_pos hg]
        by_cases g1 : g = f + 1
        · subst g1
          rw [getD_set_same _ _ _ _ (by rw [List.length_set, List.length_append]; omega), getD_set_same _ _ _ _ (by rw [List.length_set]; omega)]
        · rw [getD_set_ne _ _ _ _ _ (Ne.symm g1), getD_set_ne _ _ _ _ _ (Ne.symm g1)]
          by_cases g2 : g = f
          · subst g2
            rw [getD_set_same _ _ _ _ (by rw [List.length_append]; omega), getD_set_same _ _ _ _ (by omega)]
          · rw [getD_set_ne _ _ _ _ _ (Ne.symm g2), getD_set_ne _ _ _ _ _ (Ne.symm g2), List.getD_eq_getElem?_getD, List.getElem?_append_left (by omega), List.getD_eq_getElem?_getD]
      · rw [if_neg hg, if_neg hg]
        by_cases z : g = n ∧ x = 0
        · rw [if_pos z, if_pos z, getD_set_ne _ _ _ _ _ (by omega), getD_set_ne _ _ _ _ _ (by omega)]
          have : ((hs ++ [[]]).getD n []).length = 0 := by
            rw [List.getD_eq_getElem?_getD, List.getElem?_append_right (by omega), hl, Nat.sub_self]
            rfl
          rw [this, if_neg (by omega)]
        · rw [if_neg z, if_neg z]
    · have en : f + 1 = n := by omega
      rw [if_neg hn, if_pos en]
      have eu : (hs ++ [[]]).getD (f + 1) [] = [] := by rw [List.getD_eq_getElem?_getD, List.getElem?_append_right (by omega), hl, en, Nat.sub_self]; rfl
      rw [eu]
      by_cases hg : g < n
      · rw [if_pos hg, if_pos hg, getD_set_ne _ _ _ _ _ (by omega)]
        by_cases g2 : g = f
        · subst g2
          rw [getD_set_same _ _ _ _ (by rw [List.length_append]; omega), getD_set_same _ _ _ _ (by omega)]
        · rw [getD_set_ne _ _ _ _ _ (Ne.symm g2), getD_set_ne _ _ _ _ _ (Ne.symm g2), List.getD_eq_getElem?_getD, List.getElem?_append_left (by omega), List.getD_eq_getElem?_getD]
      · rw [if_neg hg, if_neg hg]
        by_cases z : g = n ∧ x = 0
        · rw [if_pos z, if_pos z, en, getD_set_same _ _ _ _ (by rw [List.length_set, List.length_append, hl]; show n < n + 1; omega)]
          rfl
        · rw [if_neg z, if_neg z]
  · show tot hs2 + (out + if f + 1 = n then 1 else 0) = tot hs + out
    rw [tot_perm q]
    omega
/-- nobody can meet -/
def Rest (n : Nat) (x : Hs) : Prop := ∀ f, f < n → (x.1.getD f []).length ≤ 1
theorem p_still {x : Hs} (h : Rest n x) : Still n m S U (pSt n x) := still_of fun f hf => by
  have : pSt n x f = fun a => (x.1.getD f []).count a := by
    funext a
    unfold pSt
    rw [if_pos hf]
  rw [this]
  exact Nat.le_trans (sum_count _ _) (h f hf)
theorem one_of_count {k l : List Nat} (h1 : k.length ≤ 1) (h2 : l.length ≤ 1) (e : ∀ a, k.count a = l.count a) : k = l := by
  match k, l, h1, h2 with
  | [], [], _, _ => rfl
  | [], [b], _, _ => have := e b; simp at this
  | [a], [], _, _ => have := e a; simp at this
  | [a], [b], _, _ =>
    have := e a
    rw [List.count_singleton_self, List.count_singleton] at this
    by_cases z : b = a
    · rw [z]
    · rw [if_neg (by simpa using z)] at this
      cases this
theorem rest_eq {x y : Hs} (lx : x.1.length = n) (ly : y.1.length = n) (hx : Rest n x) (hy : Rest n y) (e : pSt n x = pSt n y) : x = y := by
  have h1 : x.1 = y.1 := by
    refine List.ext_getElem (by omega) fun f p1 p2 => ?_
    have e1 : x.1.getD f [] = x.1[f] := by rw [List.getD_eq_getElem?_getD, List.getElem?_eq_getElem p1]; rfl
    have e2 : y.1.getD f [] = y.1[f] := by rw [List.getD_eq_getElem?_getD, List.getElem?_eq_getElem p2]; rfl
    rw [← e1, ← e2]
    refine one_of_count (hx f (by omega)) (hy f (by omega)) fun a => ?_
    have := congrFun (congrFun e f) a
    unfold pSt at this
    rw [if_pos (by omega), if_pos (by omega)] at this
    exact this
  have h2 : x.2 = y.2 := by
    have := congrFun (congrFun e n) 0
    unfold pSt at this
    rw [if_neg (Nat.lt_irrefl n), if_neg (Nat.lt_irrefl n), if_pos ⟨rfl, rfl⟩, if_pos ⟨rfl, rfl⟩] at this
    exact this
  exact Prod.ext h1 h2
def high (n m : Nat) (x : Hs) : Nat := tall n m (pSt n x)
theorem high_le {x : Hs} (hn : n ≤ 4) (h : tot x.1 ≤ 6) : high n m x ≤ 60 := by
  have h1 : high n m x ≤ sumTo n fun f => (n - f) * 6 := by
    refine sumTo_le fun f hf => Nat.mul_le_mul_left _ ?_
    have : pSt n x f = fun a => (x.1.getD f []).count a := by
      funext a
      unfold pSt
      rw [if_pos hf]
    rw [this]
    exact Nat.le_trans (sum_count _ _) (getD_len (fun z hz => Nat.le_trans (len_tot hz) h) f)
  have h2 : sumTo n (fun f => (n - f) * 6) ≤ 60 := by
    have : n = 0 ∨ n = 1 ∨ n = 2 ∨ n = 3 ∨ n = 4 := by omega
    rcases this with rfl | rfl | rfl | rfl | rfl <;> decide
  omega
end
/-! ### not too many states -/
/-- what is written floor by floor, each floor closed by a 4 -/
def digs : List (List Nat) → List Nat
  | [] => []
  | h :: l => h ++ 4 :: digs l
def val : List Nat → Nat
  | [] => 0
  | d :: l => d + 5 * val l
theorem digs_len : ∀ hs : List (List Nat), (digs hs).length = tot hs + hs.length
  | [] => rfl
  | h :: l => by
    have := digs_len l
    unfold tot at this ⊢
    unfold digs
    rw [List.length_append, List.length_cons, List.length_cons, List.map_cons, List.sum_cons, this]
    omega
theorem val_lt : ∀ {l : List Nat}, (∀ d ∈ l, d < 5) → val l < 5 ^ l.length
  | [], _ => by decide
  | d :: l, h => by
    have h1 := h d List.mem_cons_self
    have h2 := val_lt (l := l) fun e he => h e (List.mem_cons_of_mem _ he)
    unfold val
    rw [List.length_cons, Nat.pow_succ]
    omega
theorem val_pos : ∀ {l : List Nat}, 4 ∈ l → 0 < val l
  | d :: l, h => by
    unfold val
    rcases List.mem_cons.mp h with rfl | h
    · omega
    · have := val_pos h
      omega
theorem digs_four : ∀ {hs : List (List Nat)}, hs ≠ [] → 4 ∈ digs hs
  | h :: l, _ => List.mem_append_right _ List.mem_cons_self
theorem digs_inj : ∀ {x y : List (List Nat)}, x.length = y.length → (∀ h ∈ x, ∀ a ∈ h, a < 4) → (∀ h ∈ y, ∀ a ∈ h, a < 4) → val (digs x) = val (digs y) → x = y
  | [], [], _, _, _, _ => rfl
  | [], _ :: _, h, _, _, _ => by cases h
  | _ :: _, [], h, _, _, _ => by cases h
  | [] :: x, [] :: y, h, hx, hy, e => by
    have e' : 4 + 5 * val (digs x) = 4 + 5 * val (digs y) := e
    rw [digs_inj (x := x) (y := y) (by simpa using h) (fun z hz => hx z (List.mem_cons_of_mem _ hz)) (fun z hz => hy z (List.mem_cons_of_mem _ hz)) (by omega)]
  | [] :: x, (b :: k) :: y, h, hx, hy, e => by
    have e' : 4 + 5 * val (digs x) = b + 5 * val (k ++ 4 :: digs y) := e
    have := hy (b :: k) List.mem_cons_self b List.mem_cons_self
    omega
  | (a :: k) :: x, [] :: y, h, hx, hy, e => by
    have e' : a + 5 * val (k ++ 4 :: digs x) = 4 + 5 * val (digs y) := e
    have := hx (a :: k) List.mem_cons_self a List.mem_cons_self
    omega
  | (a :: k) :: x, (b :: l) :: y, h, hx, hy, e => by
    have e' : a + 5 * val (k ++ 4 :: digs x) = b + 5 * val (l ++ 4 :: digs y) := e
    have h1 := hx (a :: k) List.mem_cons_self a List.mem_cons_self
    have h2 := hy (b :: l) List.mem_cons_self b List.mem_cons_self
    have e2 : val (digs (k :: x)) = val (digs (l :: y)) := by
      show val (k ++ 4 :: digs x) = val (l ++ 4 :: digs y)
      omega
    have ih := digs_inj (x := k :: x) (y := l :: y) (by simpa using h)
      (fun z hz c hc => by
        rcases List.mem_cons.mp hz with rfl | hz
        · exact hx (a :: z) List.mem_cons_self c (List.mem_cons_of_mem _ hc)
        · exact hx z (List.mem_cons_of_mem _ hz) c hc)
      (fun z hz c hc => by
        rcases List.mem_cons.mp hz with rfl | hz
        · exact hy (b :: z) List.mem_cons_self c (List.mem_cons_of_mem _ hc)
        · exact hy z (List.mem_cons_of_mem _ hz) c hc) e2
    injection ih with i1 i2
    rw [i1, i2, show a = b by omega]
termination_by x => tot x + x.length
decreasing_by
  all_goals (unfold tot; simp only [List.map_cons, List.sum_cons, List.length_cons]; omega)
/-- no more than M numbers below M -/
theorem few : ∀ (M : Nat) {l : List Nat}, l.Nodup → (∀ x ∈ l, x < M) → l.length ≤ M
  | 0, [], _, _ => Nat.le_refl _
  | 0, x :: _, _, h => absurd (h x List.mem_cons_self) (Nat.not_lt_zero x)
  | M + 1, l, hn, h => by
    have h2 := few M (l := l.erase M) (hn.erase M) fun x hx => by
      have q := (hn.mem_erase_iff (a := x) (b := M)).mp hx
      have := h x q.2
      omega
    have h3 : l.length ≤ (l.erase M).length + 1 := by
      rw [List.length_erase]
      split <;> omega
    omega
end FmC
end FFmFew
section FFmSrch
/-! The search through all orders: what holds between its turns. Pure, nothing of the model. -/
set_option linter.all false
namespace FmC
section
variable {n m : Nat} {S U : Nat → Nat → Nat → Nat} {α : Type}
structure Okx (n m : Nat) (S U : Nat → Nat → Nat → Nat) (x0 x : Hs) : Prop where
  len : x.1.length = n
  lt : ∀ h ∈ x.1, ∀ a ∈ h, a < m
  run : Run n m S (outU n U) (pSt n x0) (pSt n x)
  tot : tot x.1 + x.2 = tot x0.1 + x0.2
  le : x0.2 ≤ x.2
theorem Okx.nxt {x0 x y : Hs} (h : Okx n m S U x0 x) (k : Nxt n m S U x y) : Okx n m S U x0 y := ⟨k.len, k.lt, h.run.trans (.one k.step), by rw [k.tot, h.tot], Nat.le_trans h.le k.le⟩
theorem Nxt.high {x y : Hs} (B : Tabs n m S U) (k : Nxt n m S U x y) : high n m x = high n m y + 1 := step_tall B.tables k.step
theorem Okx.one {x0 x y : Hs} (B : Tabs n m S U) (T : Tri n m S U) (h : Okx n m S U x0 x) (k : Okx n m S U x0 y) (r1 : Rest n x) (r2 : Rest n y) : x = y :=
  rest_eq h.len k.len r1 r2 (one_end B.tables (three_of B T) h.run k.run (p_still r1) (p_still r2))
/-- what holds between two turns -/
structure Srch (n m : Nat) (S U : Nat → Nat → Nat → Nat) (x0 : Hs) (key : Hs → α) (left vis fnd : List Hs) : Prop where
  ok : ∀ x ∈ left, Okx n m S U x0 x
  okv : ∀ x ∈ vis, Okx n m S U x0 x
  idx : ∀ (i : Nat) (x : Hs), left[i]? = some x → i < 144 * (61 - high n m x)
  nd : (vis.map key).Nodup
  ph : (fnd = [] ∧ ∃ l y, left = l ++ [y] ∧ ∀ x ∈ vis, high n m y < high n m x) ∨ ∃ e, fnd = [e] ∧ e ∈ vis ∧ Rest n e
variable {x0 : Hs} {key : Hs → α} {left vis fnd l ls : List Hs} {y : Hs}
theorem Srch.start {x : Hs} (h : Okx n m S U x0 x) (k : high n m x ≤ 60) : Srch n m S U x0 key [x] [] [] := by
  refine ⟨fun z hz => by rw [List.mem_singleton.mp hz]; exact h, (fun z hz => by cases hz), fun i z e => ?_, List.nodup_nil, .inl ⟨rfl, [], x, rfl, (fun z hz => by cases hz)⟩⟩
  match i, e with
  | 0, e =>
    cases e
    omega
theorem last_eq {l l' : List Hs} {y y' : Hs} (e : l ++ [y] = l' ++ [y']) : y = y' := by
  have := congrArg List.getLast? e
  rw [List.getLast?_concat, List.getLast?_concat] at this
  exact Option.some.inj this
theorem Srch.idx_init (h : Srch n m S U x0 key (l ++ [y]) vis fnd) : ∀ (i : Nat) (x : Hs), l[i]? = some x → i < 144 * (61 - high n m x) := fun i x e => by
  have hi := (List.getElem?_eq_some_iff.mp e).1
  exact h.idx i x (by rw [List.getElem?_append_left hi]; exact e)
theorem Srch.seen (hk : ∀ x z, Okx n m S U x0 x → Okx n m S U x0 z → key x = key z → high n m x = high n m z) (h : Srch n m S U x0 key (l ++ [y]) vis fnd) (k : key y ∈ vis.map key) : Srch n m S U x0 key l vis fnd := by
  refine ⟨fun x hx => h.ok x (List.mem_append_left _ hx), h.okv, h.idx_init, h.nd, ?_⟩
  rcases h.ph with ⟨_, l', y', e, q⟩ | q
  · obtain rfl := last_eq e
    obtain ⟨x, hx, ex⟩ := List.mem_map.mp k
    have h1 := q x hx
    have h2 := hk x y (h.okv x hx) (h.ok y (List.mem_append_right _ List.mem_cons_self)) ex
    omega
  · exact .inr q
theorem nodup_snoc {l : List α} {a : α} (h : l.Nodup) (k : a ∉ l) : (l ++ [a]).Nodup := by
  rw [List.nodup_append]
  exact ⟨h, by simp, fun x hx z hz e => k (by rw [← List.mem_singleton.mp hz, ← e]; exact hx)⟩
theorem Srch.rest (B : Tabs n m S U) (T : Tri n m S U) (h : Srch n m S U x0 key (l ++ [y]) vis fnd) (k : key y ∉ vis.map key) (r : Rest n y) : fnd = [] ∧ Srch n m S U x0 key l (vis ++ [y]) [y] := by
  have oky := h.ok y (List.mem_append_right _ List.mem_cons_self)
  have z : Srch n m S U x0 key l (vis ++ [y]) [y] := by
    refine ⟨fun x hx => h.ok x (List.mem_append_left _ hx), fun x hx => ?_, h.idx_init, ?_, .inr ⟨y, rfl, List.mem_append_right _ List.mem_cons_self, r⟩⟩
    · rcases List.mem_append.mp hx with hx | hx
      · exact h.okv x hx
      · rw [List.mem_singleton.mp hx]
        exact oky
    · rw [List.map_append]
      exact nodup_snoc h.nd k
  refine ⟨?_, z⟩
  rcases h.ph with ⟨q, _⟩ | ⟨e, _, he, hr⟩
  · exact q
  · exact absurd (by rw [oky.one B T (h.okv e he) r hr]; exact List.mem_map_of_mem he) k
theorem Srch.more (B : Tabs n m S U) (h : Srch n m S U x0 key (l ++ [y]) vis fnd) (k : key y ∉ vis.map key) (ne : ls ≠ []) (nx : ∀ z ∈ ls, Nxt n m S U y z) (hl : ls.length ≤ 144) (top : high n m y ≤ 60) : Srch n m S U x0 key (l ++ ls) (vis ++ [y]) fnd := by
  have oky := h.ok y (List.mem_append_right _ List.mem_cons_self)
  have hy := h.idx l.length y (by rw [List.getElem?_append_right (Nat.le_refl _), Nat.sub_self]; rfl)
  refine ⟨fun x hx => ?_, fun x hx => ?_, fun i x e => ?_, ?_, ?_⟩
  · rcases List.mem_append.mp hx with hx | hx
    · exact h.ok x (List.mem_append_left _ hx)
    · exact oky.nxt (nx x hx)
  · rcases List.mem_append.mp hx with hx | hx
    · exact h.okv x hx
    · rw [List.mem_singleton.mp hx]
      exact oky
  · by_cases hi : i < l.length
    · rw [List.getElem?_append_left hi] at e
      exact h.idx_init i x e
    · rw [List.getElem?_append_right (by omega)] at e
      have h1 := (List.getElem?_eq_some_iff.mp e).1
      have h2 := (nx x (List.mem_of_getElem? e)).high B
      omega
  · rw [List.map_append]
    exact nodup_snoc h.nd k
  · rcases h.ph with ⟨q, l', y', e, q2⟩ | ⟨e, he, hv, hr⟩
    · obtain rfl := last_eq e
      refine .inl ⟨q, ?_⟩
      obtain ⟨ls', z, rfl⟩ : ∃ ls' z, ls = ls' ++ [z] := by
        rcases List.eq_nil_or_concat ls with e | ⟨l, b, e⟩
        · exact absurd e ne
        · exact ⟨l, b, by rw [e, List.concat_eq_append]⟩
      refine ⟨l ++ ls', z, by rw [List.append_assoc], fun x hx => ?_⟩
      have h2 := (nx z (List.mem_append_right _ List.mem_cons_self)).high B
      rcases List.mem_append.mp hx with hx | hx
      · have := q2 x hx
        omega
      · rw [List.mem_singleton.mp hx]
        omega
    · exact .inr ⟨e, he, List.mem_append_left _ hv, hr⟩
theorem Srch.fin (h : Srch n m S U x0 key [] vis fnd) : ∃ e, fnd = [e] ∧ Okx n m S U x0 e ∧ Rest n e := by
  rcases h.ph with ⟨_, l, y, e, _⟩ | ⟨e, h1, h2, h3⟩
  · have := congrArg List.length e
    rw [List.length_append] at this
    have : [y].length = 1 := rfl
    have : ([] : List Hs).length = 0 := rfl
    omega
  · exact ⟨e, h1, h.okv e h2, h3⟩
theorem Srch.len (h : Srch n m S U x0 key left vis fnd) : left.length ≤ 8784 := by
  rcases List.eq_nil_or_concat left with e | ⟨l, b, e⟩
  · rw [e]
    exact Nat.zero_le _
  · rw [List.concat_eq_append] at e
    have := h.idx l.length b (by rw [e, List.getElem?_append_right (Nat.le_refl _), Nat.sub_self]; rfl)
    rw [e, List.length_append]
    have : [b].length = 1 := rfl
    omega
theorem Srch.vis_len (hn : n ≤ 4) (hm : m ≤ 4) (ht : tot x0.1 ≤ 6) (h0 : tot x0.1 + x0.2 ≤ 100) (h : Srch n m S U x0 key left vis fnd) (ht' : ∀ x ∈ vis, tot x.1 ≤ 6) : vis.length ≤ 9765625 := by
  have nd : vis.Nodup := by
    have := h.nd
    rw [List.nodup_iff_pairwise_ne, List.pairwise_map] at this
    exact List.nodup_iff_pairwise_ne.mpr (this.imp fun hne e => hne (by rw [e]))
  have nv : (vis.map fun x => val (digs x.1)).Nodup := by
    rw [List.nodup_iff_pairwise_ne, List.pairwise_map]
    refine (List.nodup_iff_pairwise_ne.mp nd).imp_of_mem fun {x z} hx hz ne e => ne ?_
    have ox := h.okv x hx
    have oz := h.okv z hz
    have e1 := digs_inj (by rw [ox.len, oz.len]) (fun k hk a ha => Nat.lt_of_lt_of_le (ox.lt k hk a ha) hm) (fun k hk a ha => Nat.lt_of_lt_of_le (oz.lt k hk a ha) hm) e
    have t1 := ox.tot
    have t2 := oz.tot
    rw [e1] at t1
    exact Prod.ext e1 (by omega)
  have := few 9765625 nv fun v hv => by
    obtain ⟨x, hx, rfl⟩ := List.mem_map.mp hv
    have ox := h.okv x hx
    have l1 := digs_len x.1
    have l2 := ht' x hx
    have l3 : (digs x.1).length ≤ 10 := by rw [l1, ox.len]; omega
    have q : val (digs x.1) < 5 ^ (digs x.1).length := val_lt fun d hd => by
      have : ∀ {hs : List (List Nat)}, (∀ k ∈ hs, ∀ a ∈ k, a < m) → ∀ d ∈ digs hs, d < 5 := by
        intro hs
        induction hs with
        | nil => intro _ d hd; cases hd
        | cons k hs ih =>
          intro hk d hd
          rcases List.mem_append.mp hd with hd | hd
          · have := hk k List.mem_cons_self d hd
            omega
          · rcases List.mem_cons.mp hd with rfl | hd
            · omega
            · exact ih (fun z hz => hk z (List.mem_cons_of_mem _ hz)) d hd
      exact this ox.lt d hd
    exact Nat.lt_of_lt_of_le q (Nat.le_trans (Nat.pow_le_pow_right (by decide) l3) (by decide))
  rw [List.length_map] at this
  exact this
/-! what gets less turn by turn -/
def mu (n m : Nat) (l : List Hs) : Nat := (l.map fun x => 145 ^ high n m x).sum
theorem mu_app (l k : List Hs) : mu n m (l ++ k) = mu n m l + mu n m k := by
  unfold mu
  rw [List.map_append, List.sum_append]
theorem mu_seen : mu n m l < mu n m (l ++ [y]) := by
  rw [mu_app]
  have : mu n m [y] = 145 ^ high n m y := by unfold mu; simp
  have : 0 < 145 ^ high n m y := Nat.pow_pos (by decide)
  omega
theorem mu_more (B : Tabs n m S U) (nx : ∀ z ∈ ls, Nxt n m S U y z) (hl : ls.length ≤ 144) : mu n m (l ++ ls) < mu n m (l ++ [y]) := by
  rw [mu_app, mu_app]
  have e1 : mu n m [y] = 145 ^ high n m y := by unfold mu; simp
  rw [e1]
  by_cases h0 : ls = []
  · subst h0
    have : mu n m [] = 0 := rfl
    have : 0 < 145 ^ high n m y := Nat.pow_pos (by decide)
    omega
  · obtain ⟨z, hz⟩ := List.exists_mem_of_ne_nil ls h0
    have hz := (nx z hz).high B
    have key : ∀ k : List Hs, (∀ z ∈ k, Nxt n m S U y z) → mu n m k = k.length * 145 ^ (high n m y - 1) := by
      intro k
      induction k with
      | nil => intro _; rw [List.length_nil, Nat.zero_mul]; rfl
      | cons w k ih =>
        intro hw
        have h1 := (hw w List.mem_cons_self).high B
        have h2 := ih fun z hz => hw z (List.mem_cons_of_mem _ hz)
        have h3 : mu n m (w :: k) = 145 ^ high n m w + mu n m k := by unfold mu; rw [List.map_cons, List.sum_cons]
        rw [h3, h2, List.length_cons, Nat.add_mul, Nat.one_mul, show high n m w = high n m y - 1 by omega]
        omega
    rw [key ls nx]
    have e2 : 145 ^ high n m y = 145 * 145 ^ (high n m y - 1) := by
      rw [show high n m y = (high n m y - 1) + 1 by omega, Nat.pow_succ, Nat.mul_comm]
      rfl
    have pp : 0 < 145 ^ (high n m y - 1) := Nat.pow_pos (by decide)
    rw [e2]
    have := Nat.mul_le_mul_right (145 ^ (high n m y - 1)) hl
    omega
end
end FmC
end FFmSrch
section FFmKey
set_option Elab.async false
set_option linter.all false
set_option maxRecDepth 100000
namespace Fm
open PySem PySem.Spec PyProof.Rows L2
/-! ### how high heaps stand, read off the text of them -/
def castL (h : List Nat) : List Int := h.map fun k : Nat => (k : Int)
def heapD (h : List Nat) : PyData := .list ((castL h).map PyData.int)
def hsD (x : FmC.Hs) : PyData := .tuple [.list (x.1.map heapD), .int (x.2 : Nat)]
def keyT (x : FmC.Hs) : Str := (hsD x).shown
/-- the floor that is being read, and what was counted -/
def rd (n : Nat) (s : Nat × Nat) (c : Nat) : Nat × Nat := if c = 93 then (s.1 + 1, s.2) else if 48 ≤ c ∧ c ≤ 57 then (s.1, s.2 + (n - s.1)) else s
def rdT (n : Nat) (s : Nat × Nat) (t : Str) : Nat × Nat := t.cps.toList.foldl (rd n) s
theorem rdT_app (n : Nat) (s : Nat × Nat) (t u : Str) : rdT n s (t ++ u) = rdT n (rdT n s t) u := by
  show ((t.cps ++ u.cps).toList).foldl (rd n) s = _
  rw [Array.toList_append, List.foldl_append]
  rfl
theorem rdT_high (n : Nat) : ∀ (l : List Nat) (s : Nat × Nat), n ≤ s.1 → (l.foldl (rd n) s).2 = s.2
  | [], s, _ => rfl
  | c :: l, s, h => by
    rw [List.foldl_cons, rdT_high n l _ (by unfold rd; split <;> (try split) <;> (try exact Nat.le_succ_of_le h) <;> exact h)]
    unfold rd
    split
    · rfl
    · split
      · show s.2 + (n - s.1) = s.2
        omega
      · rfl
theorem rd_open (n : Nat) (s : Nat × Nat) : rdT n s ("[" : Str) = s := by
  have : ("[" : Str).cps.toList = [91] := by decide
  unfold rdT
  rw [this]
  rfl
theorem rd_close (n : Nat) (s : Nat × Nat) : rdT n s ("]" : Str) = (s.1 + 1, s.2) := by
  have : ("]" : Str).cps.toList = [93] := by decide
  unfold rdT
  rw [this]
  rfl
theorem rd_comma (n : Nat) (s : Nat × Nat) : rdT n s (", " : Str) = s := by
  have : (", " : Str).cps.toList = [44, 32] := by decide
  unfold rdT
  rw [this]
  rfl
theorem rd_nil (n : Nat) (s : Nat × Nat) : rdT n s ("" : Str) = s := by
  have : ("" : Str).cps.toList = [] := by decide
  unfold rdT
  rw [this]
  rfl
theorem rd_par (n : Nat) (s : Nat × Nat) : rdT n s ("(" : Str) = s := by
  have : ("(" : Str).cps.toList = [40] := by decide
  unfold rdT
  rw [this]
  rfl
theorem rd_digit (n : Nat) (s : Nat × Nat) {a : Nat} (h : a < 4) : rdT n s (Str.ofString (toString ((a : Nat) : Int))) = (s.1, s.2 + (n - s.1)) := by
  have q : ∃ c, (Str.ofString (toString ((a : Nat) : Int))).cps.toList = [c] ∧ 48 ≤ c ∧ c ≤ 57 := by
    have : a = 0 ∨ a = 1 ∨ a = 2 ∨ a = 3 := by omega
    rcases this with rfl | rfl | rfl | rfl
    · exact ⟨48, by decide, by decide, by decide⟩
    · exact ⟨49, by decide, by decide, by decide⟩
    · exact ⟨50, by decide, by decide, by decide⟩
    · exact ⟨51, by decide, by decide, by decide⟩
  obtain ⟨c, hc, h1, h2⟩ := q
  unfold rdT
  rw [hc, List.foldl_cons, List.foldl_nil]
  unfold rd
  rw [if_neg (by omega), if_pos ⟨h1, h2⟩]
theorem rd_from (n : Nat) : ∀ (ts : List Str) (k : Nat) (acc : Str) (s : Nat × Nat), rdT n s (textFrom k acc ts) = ts.foldl (rdT n) (rdT n s acc)
  | [], k, acc, s => rfl
  | t :: ts, k, acc, s => by
    show rdT n s (textFrom (k + 1) (acc ++ (if k > 0 then ", " else "" : String) ++ t) ts) = _
    rw [rd_from n ts, rdT_app, rdT_app, List.foldl_cons]
    congr 2
    split
    · exact rd_comma n _
    · exact rd_nil n _
theorem rd_list (n : Nat) (ts : List Str) (s : Nat × Nat) : rdT n s (listText ts) = ((ts.foldl (rdT n) s).1 + 1, (ts.foldl (rdT n) s).2) := by
  show rdT n s (textFrom 0 "[" ts ++ "]") = _
  rw [rdT_app, rd_from, rd_open, rd_close]
theorem rd_ints (n : Nat) : ∀ (h : List Nat) (s : Nat × Nat), (∀ a ∈ h, a < 4) → (PyData.shownAll ((castL h).map PyData.int)).foldl (rdT n) s = (s.1, s.2 + h.length * (n - s.1))
  | [], s, _ => by
    simp only [castL, List.map_nil, PyData.shownAll, List.foldl_nil, List.length_nil, Nat.zero_mul, Nat.add_zero]
  | a :: h, s, k => by
    have e : (castL (a :: h)).map PyData.int = .int ((a : Nat) : Int) :: (castL h).map PyData.int := rfl
    rw [e]
    simp only [PyData.shownAll, PyData.shown, List.foldl_cons]
    rw [rd_digit n s (k a List.mem_cons_self), rd_ints n h _ fun b hb => k b (List.mem_cons_of_mem _ hb), List.length_cons, Nat.add_mul, Nat.one_mul]
    show (s.1, s.2 + (n - s.1) + h.length * (n - s.1)) = _
    rw [show s.2 + (n - s.1) + h.length * (n - s.1) = s.2 + (h.length * (n - s.1) + (n - s.1)) by omega]
theorem rd_heap (n : Nat) (h : List Nat) (s : Nat × Nat) (k : ∀ a ∈ h, a < 4) : rdT n s (heapD h).shown = (s.1 + 1, s.2 + h.length * (n - s.1)) := by
  unfold heapD
  simp only [PyData.shown]
  rw [rd_list, rd_ints n h s k]
/-- what is counted floor by floor -/
def cntF (n : Nat) : Nat → List (List Nat) → Nat
  | _, [] => 0
  | f, h :: l => h.length * (n - f) + cntF n (f + 1) l
theorem rd_heaps (n : Nat) : ∀ (hs : List (List Nat)) (s : Nat × Nat), (∀ h ∈ hs, ∀ a ∈ h, a < 4) → (PyData.shownAll (hs.map heapD)).foldl (rdT n) s = (s.1 + hs.length, s.2 + cntF n s.1 hs)
  | [], s, _ => by
    simp only [List.map_nil, PyData.shownAll, List.foldl_nil, List.length_nil, cntF, Nat.add_zero]
  | h :: hs, s, k => by
    simp only [List.map_cons, PyData.shownAll, List.foldl_cons]
    rw [rd_heap n h s (k h List.mem_cons_self), rd_heaps n hs _ fun z hz => k z (List.mem_cons_of_mem _ hz)]
    show (s.1 + 1 + hs.length, s.2 + h.length * (n - s.1) + cntF n (s.1 + 1) hs) = (s.1 + (h :: hs).length, s.2 + cntF n s.1 (h :: hs))
    unfold cntF
    rw [List.length_cons, show s.1 + 1 + hs.length = s.1 + (hs.length + 1) by omega, Nat.add_assoc]
    congr 2
    cases hs <;> rfl
theorem rd_key {n : Nat} {x : FmC.Hs} (hl : x.1.length = n) (k : ∀ h ∈ x.1, ∀ a ∈ h, a < 4) : (rdT n (0, 0) (keyT x)).2 = cntF n 0 x.1 := by
  unfold keyT hsD
  simp only [PyData.shown, PyData.shownAll]
  show (rdT n (0, 0) (("(" : Str) ++ (listText (PyData.shownAll (x.1.map heapD)) ++ (", " : Str) ++ Str.ofString (toString ((x.2 : Nat) : Int))) ++ (")" : Str))).2 = _
  rw [rdT_app, rdT_app, rdT_app, rdT_app, rd_par, rd_list, rd_heaps n x.1 (0, 0) k, rd_comma]
  have e1 : ∀ (s : Nat × Nat) (t : Str), n ≤ s.1 → (rdT n s t).2 = s.2 := fun s t h => rdT_high n _ s h
  have e2 : ∀ (s : Nat × Nat) (t : Str), n ≤ s.1 → n ≤ (rdT n s t).1 := fun s t h => by
    unfold rdT
    have : ∀ (l : List Nat) (s : Nat × Nat), s.1 ≤ (l.foldl (rd n) s).1 := by
      intro l
      induction l with
      | nil => exact fun s => Nat.le_refl _
      | cons c l ih =>
        intro s
        refine Nat.le_trans ?_ (ih _)
        unfold rd
        split
        · exact Nat.le_succ _
        · split <;> exact Nat.le_refl _
    exact Nat.le_trans h (this _ _)
  have hn : n ≤ (((0 : Nat), (0 : Nat)).1 + x.1.length + 1, ((0 : Nat), (0 : Nat)).2 + cntF n ((0 : Nat), (0 : Nat)).1 x.1).1 := by
    show n ≤ 0 + x.1.length + 1
    omega
  rw [e1 _ _ (e2 _ _ hn), e1 _ _ hn]
  show 0 + cntF n 0 x.1 = _
  omega
theorem sum_all (m : Nat) : ∀ {l : List Nat}, (∀ a ∈ l, a < m) → FmC.sumTo m (fun x => l.count x) = l.length
  | [], _ => by
    have : (fun x => ([] : List Nat).count x) = fun _ => 0 := by funext x; rfl
    rw [this, FmC.sumTo_zero]
    rfl
  | a :: l, h => by
    have : (fun x => (a :: l).count x) = fun x => l.count x + if x = a then 1 else 0 := by funext x; exact FmC.count_one l a x
    rw [this, FmC.sumTo_add, FmC.sumTo_at (h a List.mem_cons_self), sum_all m fun b hb => h b (List.mem_cons_of_mem _ hb), List.length_cons]
theorem sum_shift : ∀ (k : Nat) (g : Nat → Nat), FmC.sumTo (k + 1) g = g 0 + FmC.sumTo k fun i => g (i + 1)
  | 0, g => by simp only [FmC.sumTo]; omega
  | k + 1, g => by
    rw [FmC.sumTo, sum_shift k g]
    simp only [FmC.sumTo]
    omega
theorem cnt_sum (n : Nat) : ∀ (hs : List (List Nat)) (f : Nat), cntF n f hs = FmC.sumTo hs.length fun i => (hs.getD i []).length * (n - (f + i))
  | [], f => rfl
  | h :: hs, f => by
    rw [List.length_cons, sum_shift]
    unfold cntF
    rw [cnt_sum n hs (f + 1)]
    show h.length * (n - f) + _ = h.length * (n - (f + 0)) + _
    rw [Nat.add_zero]
    congr 2
    funext i
    show (hs.getD i []).length * (n - (f + 1 + i)) = (hs.getD i []).length * (n - (f + (i + 1)))
    rw [show f + 1 + i = f + (i + 1) by omega]
theorem sumTo_congr : ∀ {k : Nat} {g h : Nat → Nat}, (∀ i, i < k → g i = h i) → FmC.sumTo k g = FmC.sumTo k h
  | 0, _, _, _ => rfl
  | k + 1, g, h, e => by
    simp only [FmC.sumTo]
    rw [sumTo_congr fun i hi => e i (by omega), e k (by omega)]
theorem high_key {n m : Nat} {x : FmC.Hs} (hl : x.1.length = n) (k : ∀ h ∈ x.1, ∀ a ∈ h, a < m) : FmC.high n m x = cntF n 0 x.1 := by
  rw [cnt_sum, hl]
  unfold FmC.high FmC.tall
  refine sumTo_congr fun f hf => ?_
  have : FmC.pSt n x f = fun a => (x.1.getD f []).count a := by
    funext a
    unfold FmC.pSt
    rw [if_pos hf]
  rw [this, sum_all m fun a ha => ?_, Nat.zero_add, Nat.mul_comm]
  rw [List.getD_eq_getElem?_getD, List.getElem?_eq_getElem (by omega)] at ha
  exact k _ (List.getElem_mem _) a ha
/-- two of one text stand equally high -/
theorem key_high {n m : Nat} (hm : m ≤ 4) {x z : FmC.Hs} (lx : x.1.length = n) (lz : z.1.length = n) (kx : ∀ h ∈ x.1, ∀ a ∈ h, a < m) (kz : ∀ h ∈ z.1, ∀ a ∈ h, a < m) (e : keyT x = keyT z) : FmC.high n m x = FmC.high n m z := by
  rw [high_key lx kx, high_key lz kz, ← rd_key lx fun h hh a ha => Nat.lt_of_lt_of_le (kx h hh a ha) hm, ← rd_key lz fun h hh a ha => Nat.lt_of_lt_of_le (kz h hh a ha) hm, e]
end Fm
end FFmKey
section FLX
set_option Elab.async false
set_option linter.all false
set_option maxRecDepth 100000
set_option maxHeartbeats 4000000
local macro_rules | `(tactic| walk_at "ne") => `(tactic| first | assumption | (apply Ne.symm; assumption) | exact L2.ne_of_none (by assumption) (by assumption) | exact Ne.symm (L2.ne_of_none (by assumption) (by assumption)))
local macro_rules | `(tactic| walk_at "hl") => `(tactic| first | assumption | exact L2.upd_same | (refine Eq.trans (L2.upd_ne (by walk_at "ne")) ?_; walk_at "hl"))
local macro_rules | `(tactic| walk_at "sd") => `(tactic| first | (with_reducible show (_ : Int) < _; omega) | (with_reducible show (_ : Int) ≤ _; omega) | assumption | decide | exact ⟨by assumption, by assumption⟩ | exact ⟨by decide, by decide⟩ | exact Or.inr ⟨by decide, by decide⟩ | exact Or.inl ⟨by omega, by omega⟩ | rfl)
local macro_rules | `(tactic| walk_at "st1") => `(tactic| first
  | refine ⟨_, rfl, ?_⟩
  | refine ⟨_, _, rfl, rfl, ?_⟩
  | refine ⟨_, _, rfl, ?_⟩
  | (refine ⟨_, _, _, _, rfl, rfl, L2.SqL.of (by walk_at "hl"), rfl, ?_⟩)
  | (refine ⟨_, _, _, _, rfl, rfl, L2.SqT.of (by walk_at "hl"), rfl, ?_⟩)
  | (refine ⟨_, _, _, _, rfl, rfl, (by walk_at "hl"), rfl, ?_⟩)
  | (refine And.intro (by walk_at "sd") ?_)
  )
local macro_rules | `(tactic| walk_at "st") => `(tactic| repeat walk_at "st1")
local macro_rules | `(tactic| walk_at "op") => `(tactic| try dsimp only [L2.tSeq, L2.tAsg, L2.tOp, L2.tVar, L2.tC, L2.gSub, L2.rI, L2.rI0, L2.rIxL, L2.rIxT, L2.rSetL, L2.tIfS, L2.tTest, L2.tRet, L2.gName, L2.tNext, L2.tAnd, L2.tOr, L2.tNot, L2.tAndV, L2.tOrV, L2.tNotV, L2.tB, L2.tCB, L2.tCons, L2.tNil, L2.tCall, L2.tTup, L2.tLst, L2.tChain, L2.tUn, L2.tPar, L2.tDrop, L2.tIf, L2.tBM, L2.tBM0, L2.rAppend, L2.rCat, L2.rIsi, L2.rIsiT, L2.gTup, L2.gCons, L2.gNil, Fm.tFor_eq, Fm.tLc_eq, Fm.tLc2_eq, L2.iTup, L2.iList, L2.iRng1, L2.iRng2, L2.tSl, L2.tPart, L2.tNoPart, L2.rSlL, L2.rEq, L2.rNe, L2.rU, L2.rEqD, L2.rNeD, Fm.tRevT, Fm.rLenS, Fm.rTupOf, Fm.rLstOf, L2.tDNewK, L2.tCallS, L2.WE, Fm.wKeep, Fm.rIsK, Fm.rIsKT, List.cons_append, List.nil_append, L2.tYes])
namespace Fm
open PySem PySem.Spec PyProof.Rows L2
section
variable {P : Program} {w : World} {K : PySem.W.Frag} {mg : Str → Option Value} {base : Heap}
/-! ### lists of lists -/
/-- lists of their own, of any content, apart from the addresses in bad -/
structure KL (G H0 : Hp) (p C Kc : Addr) (ws wc : List V) (k : Nat) : Prop where
  row : ∀ j, j < wc.length → ∃ (b : Addr) (xs : List V), wc[j]? = some (V.ref b) ∧ G b = some (.lst xs) ∧ xs.length ≤ k ∧ b ≠ p ∧ b ≠ C ∧ b ≠ Kc ∧ H0 b = none ∧ ∀ i : Nat, ws[i]? ≠ some (V.ref b)
/-- the floors on which two can meet -/
def someF (hs : List (List Nat)) (i : Nat) : List Nat := (List.range i).filter fun f => decide (1 < (hs.getD f []).length)
theorem someF_snoc (hs : List (List Nat)) (i : Nat) : someF hs (i + 1) = someF hs i ++ if 1 < (hs.getD i []).length then [i] else [] := by
  unfold someF
  rw [List.range_succ, List.filter_append]
  congr 1
  by_cases z : 1 < (hs.getD i []).length
  · rw [if_pos z, List.filter_cons, if_pos (decide_eq_true z)]
    rfl
  · rw [if_neg z, List.filter_cons, if_neg (by rw [decide_eq_false z]; decide)]
    rfl
theorem LL.cat {H : Hp} {p D C b : Addr} {ws : List V} {fl : List (List Int)} {c : List Int} (h : LL H p D ws fl) (hb : H b = some (.lst (c.map V.int))) (nb : b ≠ p) (hC : H C = none) : LL (upd H C (.lst (ws ++ [.ref b]))) p C (ws ++ [.ref b]) (fl ++ [c]) := by
  have off : ∀ {x : Addr} {o : HO}, H x = some o → x ≠ C := fun {x o} hx z => by
    rw [z, hC] at hx
    cases hx
  refine ⟨upd_same, by rw [List.length_append, List.length_append, h.len]; rfl, fun j d q => ?_⟩
  by_cases hj : j < fl.length
  · rw [List.getElem?_append_left hj] at q
    obtain ⟨b', e1, e2, e3, e4⟩ := h.row j d q
    exact ⟨b', by rw [List.getElem?_append_left (by rw [h.len]; exact hj)]; exact e1, by rw [upd_ne (off e2)]; exact e2, off e2, e4⟩
  · rw [List.getElem?_append_right (by omega)] at q
    cases z : j - fl.length with
    | zero =>
      rw [z] at q
      cases q
      exact ⟨b, by rw [List.getElem?_append_right (by rw [h.len]; omega), h.len, z]; rfl, by rw [upd_ne (off hb)]; exact hb, off hb, nb⟩
    | succ k =>
      rw [z] at q
      cases q
theorem LL.up {H : Hp} {p L b : Addr} {o : HO} {ws : List V} {fl : List (List Int)} (h : LL H p L ws fl) (n1 : b ≠ L) (n2 : ∀ i : Nat, ws[i]? ≠ some (V.ref b)) : LL (upd H b o) p L ws fl :=
  ⟨by rw [upd_ne n1.symm]; exact h.at_, h.len, fun j c q => by
    obtain ⟨b', e1, e2, e3⟩ := h.row j c q
    exact ⟨b', e1, by rw [upd_ne (fun z => n2 j (by rw [← z]; exact e1))]; exact e2, e3⟩⟩
theorem KL.mono {G H0 : Hp} {p C Kc : Addr} {ws wc : List V} {k k' : Nat} (h : KL G H0 p C Kc ws wc k) (l : k ≤ k') : KL G H0 p C Kc ws wc k' := ⟨fun j hj => by
  obtain ⟨b, xs, q1, q2, q3, q⟩ := h.row j hj
  exact ⟨b, xs, q1, q2, Nat.le_trans q3 l, q⟩⟩
theorem KL.ext {G G' H0 : Hp} {p C Kc : Addr} {ws wc : List V} {k : Nat} (h : KL G H0 p C Kc ws wc k) (e : Ext p G G') : KL G' H0 p C Kc ws wc k := ⟨fun j hj => by
  obtain ⟨b, xs, q1, q2, q3, q4, q⟩ := h.row j hj
  exact ⟨b, xs, q1, e _ _ q2 q4, q3, q4, q⟩⟩
theorem KL.up {G H0 : Hp} {p C Kc b : Addr} {o : HO} {ws wc : List V} {k i : Nat} (h : KL G H0 p C Kc ws wc k) (hi : ws[i]? = some (V.ref b)) : KL (upd G b o) H0 p C Kc ws wc k := ⟨fun j hj => by
  obtain ⟨b', xs, q1, q2, q3, q4, q5, q6, q7, q8⟩ := h.row j hj
  exact ⟨b', xs, q1, by rw [upd_ne (fun z => q8 i (by rw [z]; exact hi))]; exact q2, q3, q4, q5, q6, q7, q8⟩⟩
theorem KL.add {G H0 : Hp} {p C Kc b : Addr} {xs : List V} {v : V} {ws wc : List V} {k : Nat} (h : KL G H0 p C Kc ws wc k) (hb : G b = some (.lst xs)) : KL (upd G b (.lst (xs ++ [v]))) H0 p C Kc ws wc (k + 1) := ⟨fun j hj => by
  obtain ⟨b', ys, q1, q2, q3, q4, q5, q6, q7, q8⟩ := h.row j hj
  by_cases z : b' = b
  · subst z
    rw [hb] at q2
    cases q2
    exact ⟨b', xs ++ [v], q1, upd_same, by rw [List.length_append]; show xs.length + 1 ≤ k + 1; omega, q4, q5, q6, q7, q8⟩
  · exact ⟨b', ys, q1, by rw [upd_ne z]; exact q2, by omega, q4, q5, q6, q7, q8⟩⟩
theorem eqv_nil (ds : List PyData) : PyData.eqv (.list ds) (.list []) = ds.isEmpty := by
  cases ds with
  | nil => simp [PyData.eqv, PyData.eqvAll]
  | cons n r => simp [PyData.eqv, PyData.eqvAll]
theorem mem_someF {hs : List (List Nat)} {n f : Nat} : f ∈ someF hs n ↔ f < n ∧ 1 < (hs.getD f []).length := by
  unfold someF
  rw [List.mem_filter, List.mem_range, decide_eq_true_iff]
theorem someF_len (hs : List (List Nat)) (i : Nat) : (someF hs i).length ≤ i := by
  unfold someF
  refine Nat.le_trans (List.length_filter_le _ _) ?_
  rw [List.length_range]
  exact Nat.le_refl _
theorem ints_list {H : Hp} {p S : Addr} {l : List Nat} (h : H S = some (.lst (l.map fun k : Nat => V.int (k : Nat)))) (n : S ≠ p) : Dat H p (.ref S) (.list ((castL l).map PyData.int)) := by
  have e : (l.map fun k : Nat => V.int (k : Nat)) = (castL l).map V.int := by unfold castL; rw [List.map_map]; rfl
  rw [e] at h
  exact .lst h n (by rw [List.length_map, List.length_map]) fun i x d a b => (Dats.ints (H := H) (p := p) (castL l)).2 i x d a b
theorem Ext.free {p b : Addr} {H G : Hp} {o : HO} (h : Ext p H G) (hb : H b = none) : Ext p H (upd G b o) := fun c u ec nc => by
  rw [upd_ne (ne_of_none ec hb)]
  exact h c u ec nc
theorem row_bf {G : Hp} {p C : Addr} {w2 : List V} {hs : List (List Nat)} {f : Nat} {h : List Nat} (L : LL G p C w2 (hs.map castL)) (e : hs[f]? = some h) : ∃ b : Addr, w2[f]? = some (V.ref b) ∧ G b = some (.lst ((castL h).map V.int)) ∧ b ≠ C ∧ b ≠ p :=
  L.row f (castL h) (by rw [List.getElem?_map, e]; rfl)
theorem LL.put {G : Hp} {p C b : Addr} {w2 : List V} {hs : List (List Nat)} {f : Nat} (L : LL G p C w2 (hs.map castL)) (inj : Inj w2) (e : w2[f]? = some (V.ref b)) (h' : List Nat) : LL (upd G b (.lst ((castL h').map V.int))) p C w2 ((hs.set f h').map castL) := by
  rw [List.map_set]
  exact L.updRow e fun j q => inj j f b q e
theorem cast_erase (h : List Nat) (i : Nat) : ((castL h).map V.int).eraseIdx i = (castL (h.eraseIdx i)).map V.int := by
  unfold castL
  rw [List.map_map, List.map_map]
  exact map_erase h i
theorem cast_snoc (h : List Nat) (x : Nat) : (castL h).map V.int ++ [V.int (x : Nat)] = (castL (h ++ [x])).map V.int := by
  unfold castL
  rw [List.map_append, List.map_append]
  rfl
theorem cast_len (l : List Nat) : ((castL l).map V.int).length = l.length := by unfold castL; rw [List.length_map, List.length_map]
theorem cast_at {h : List Nat} {i : Nat} (hi : i < h.length) : ((castL h).map V.int)[i]? = some (V.int (h[i] : Nat)) := by
  unfold castL
  rw [List.map_map, List.getElem?_map, List.getElem?_eq_getElem hi]
  rfl
theorem hu1 {k : Nat} {A : Around} (r : Room k A) : A.units + 1 < cLine := by have := r.units; omega
end
end Fm
end FLX
section FZR
set_option Elab.async false
set_option linter.all false
set_option maxRecDepth 100000
set_option maxHeartbeats 4000000
local macro_rules | `(tactic| walk_at "ne") => `(tactic| first | assumption | (apply Ne.symm; assumption) | exact L2.ne_of_none (by assumption) (by assumption) | exact Ne.symm (L2.ne_of_none (by assumption) (by assumption)))
local macro_rules | `(tactic| walk_at "hl") => `(tactic| first | assumption | exact L2.upd_same | (refine Eq.trans (L2.upd_ne (by walk_at "ne")) ?_; walk_at "hl"))
local macro_rules | `(tactic| walk_at "sd") => `(tactic| first | (with_reducible show (_ : Int) < _; omega) | (with_reducible show (_ : Int) ≤ _; omega) | assumption | decide | exact ⟨by assumption, by assumption⟩ | exact ⟨by decide, by decide⟩ | exact Or.inr ⟨by decide, by decide⟩ | exact Or.inl ⟨by omega, by omega⟩ | rfl)
local macro_rules | `(tactic| walk_at "st1") => `(tactic| first
  | refine ⟨_, rfl, ?_⟩
  | refine ⟨_, _, rfl, rfl, ?_⟩
  | refine ⟨_, _, rfl, ?_⟩
  | (refine ⟨_, _, _, _, rfl, rfl, L2.SqL.of (by walk_at "hl"), rfl, ?_⟩)
  | (refine ⟨_, _, _, _, rfl, rfl, L2.SqT.of (by walk_at "hl"), rfl, ?_⟩)
  | (refine ⟨_, _, _, _, rfl, rfl, (by walk_at "hl"), rfl, ?_⟩)
  | (refine And.intro (by walk_at "sd") ?_)
  )
local macro_rules | `(tactic| walk_at "st") => `(tactic| repeat walk_at "st1")
local macro_rules | `(tactic| walk_at "op") => `(tactic| try dsimp only [L2.tSeq, L2.tAsg, L2.tOp, L2.tVar, L2.tC, L2.gSub, L2.rI, L2.rI0, L2.rIxL, L2.rIxT, L2.rSetL, L2.tIfS, L2.tTest, L2.tRet, L2.gName, L2.tNext, L2.tAnd, L2.tOr, L2.tNot, L2.tAndV, L2.tOrV, L2.tNotV, L2.tB, L2.tCB, L2.tCons, L2.tNil, L2.tCall, L2.tTup, L2.tLst, L2.tChain, L2.tUn, L2.tPar, L2.tDrop, L2.tIf, L2.tBM, L2.tBM0, L2.rAppend, L2.rCat, L2.rIsi, L2.rIsiT, L2.gTup, L2.gCons, L2.gNil, Fm.tFor_eq, Fm.tLc_eq, Fm.tLc2_eq, L2.iTup, L2.iList, L2.iRng1, L2.iRng2, L2.tSl, L2.tPart, L2.tNoPart, L2.rSlL, L2.rEq, L2.rNe, L2.rU, L2.rEqD, L2.rNeD, Fm.tRevT, Fm.rLenS, Fm.rTupOf, Fm.rLstOf, L2.tDNewK, L2.tCallS, L2.WE, Fm.wKeep, Fm.rIsK, Fm.rIsKT, List.cons_append, List.nil_append, L2.tYes])
namespace Fm
open PySem PySem.Spec PyProof.Rows L2
abbrev s_law_rest : Stmt := top 45
abbrev N_law_rest : List Str := ["house", "heaps", "out", "heap", "floor", "stay", "up", "a", "b"]
theorem sc_law_rest : FnScope N_law_rest ["house", "heaps", "out"] (defScope s_law_rest) := ⟨rfl, rfl, rfl, by decide +kernel, rfl, by decide +kernel, by decide +kernel⟩
section
variable {P : Program} {w : World} {K : PySem.W.Frag} {mg : Str → Option Value} {base : Heap}
/-! ### people brought to rest floor by floor -/
def optV : Option Nat → V
  | none => .non
  | some a => .int (a : Nat)
theorem cut_last (xs : List V) (y : V) : cutV (xs ++ [y]) none (some (-1)) = xs := by
  have e1 : HT.sIx (xs ++ [y]).length 0 none = 0 := rfl
  have e2 : HT.sIx (xs ++ [y]).length (xs ++ [y]).length (some (-1)) = xs.length := by
    unfold HT.sIx
    rw [List.length_append]
    show (if (-1 : Int) < 0 then _ else _) = _
    rw [if_pos (by decide)]
    show ((-1 : Int) + ((xs.length + 1 : Nat) : Int)).toNat = _
    omega
  unfold cutV
  rw [e1, e2, List.drop_zero, Nat.sub_zero, List.take_left]
theorem head_opt (h : List Nat) : atI ((castL h).map V.int ++ [V.non]) 0 = some (optV h.head?) := by
  refine atI_nat (j := 0) ?_
  cases h with
  | nil => rfl
  | cons a l => rfl
/-- what holds between two meetings -/
structure RestI (fs : List PyData) (m n out : Nat) (p C : Addr) (H : Hp) (w2 : List V) (hs00 : List (List Nat)) (i : Nat) (hs : List (List Nat)) (G : Hp) : Prop where
  x : Same H G
  ll : LL G p C w2 (hs.map castL)
  len : hs.length = n + 1
  lt : ∀ h ∈ hs, ∀ x ∈ h, x < m
  big : ∀ h ∈ hs, h.length + FmC.tall n m (FmC.hsSt n hs out) ≤ 660
  run : FmC.Run n m (goN fs 0) (FmC.outU n (goN fs 1)) (FmC.hsSt n hs00 out) (FmC.hsSt n hs out)
  low : ∀ f, f < i → (hs.getD f []).length ≤ 1
theorem RestI.same {fs : List PyData} {m n out : Nat} {p C : Addr} {H G G' : Hp} {w2 : List V} {hs00 hs : List (List Nat)} {i : Nat} (I : RestI fs m n out p C H w2 hs00 i hs G) (s : Same G G') : RestI fs m n out p C H w2 hs00 i hs G' :=
  ⟨I.x.trans s, I.ll.same s, I.len, I.lt, I.big, I.run, I.low⟩
def spRestL : Sp := fun vs H Q _ => ∃ (p ph q : Addr) (u : HO) (hv : V) (fs : List PyData) (m n out : Nat) (ws : List V) (hs0 : List (List Nat)), vs = [hv, .ref q, .int (out : Nat)] ∧ H p = some u ∧ Dat H ph hv (.tuple fs) ∧ HouseN m n (.tuple fs) ∧ LL H p q ws (hs0.map castL) ∧ hs0.length = n ∧ (∀ h ∈ hs0, h.length ≤ 60 ∧ ∀ x ∈ h, x < m) ∧
  ∀ (T R : Addr) (os : List (Option Nat)) (hs : List (List Nat)) H', H' T = some (.tup [.ref R, .int ((out + (hs.getD n []).length : Nat) : Int)]) → H' R = some (.lst (os.map optV)) → os = (hs.take n).map List.head? → hs.length = n + 1 → (∀ h ∈ hs, h.length ≤ 660 ∧ ∀ x ∈ h, x < m) → (∀ f, f < n → (hs.getD f []).length ≤ 1) →
    FmC.Run n m (goN fs 0) (FmC.outU n (goN fs 1)) (FmC.hsSt n (hs0 ++ [[]]) out) (FmC.hsSt n hs out) → Same H H' → Q (.ref T) H'
theorem ok_law_rest (D : Df K mg "_law_rest" s_law_rest ["house", "heaps", "out"]) (T : Nms mg) : CallOk P w K mg base CX0 1 "_law_rest" ["house", "heaps", "out"] spRestL := by
  refine df_ok D sc_law_rest (fun vs H Q E h => ?_) (fun f cdv A outer s H vs Q E hr h => ?_)
  · obtain ⟨p, ph, q, u, hv, fs, m, n, out, ws, hs0, rfl, _⟩ := h
    rfl
  · obtain ⟨p, ph, q, u, hv, fs, m, n, out, ws, hs0, rfl, hp, hD, hN, hLL, hhl, hok, k⟩ := h
    have nd := sc_law_rest.nd
    refine ⟨_, (pss_cons (ps_set (i := 1) nd rfl (Or.inl rfl) (pe_op op_cat (pe_lc (own := [("heap", 3)]) (g := (gName 3)) (tt := tYes) (by rfl) nd (pi_list (pv 1)) (blkOk_by (own := [("heap", 3)]) (N := N_law_rest) (sc := defScope s_law_rest) (by decide +kernel)) (fun _ _ _ _ _ => (pg_name (i := 3) nd rfl (Or.inl rfl))) (fun _ _ _ _ _ => pts_nil) (fun _ _ _ _ _ => (pe_callTy (r := rLstOf K) call_lstOf (by rfl) T.n_list (by decide +kernel) (pa_cons (pv 3) pa_nil)))) (pe_lst (pa_cons (pe_lst pa_nil) pa_nil))))
      (pss_cons (ps_for PassesOwn.never rfl (pi_enumT (by rfl) T.n_enumerate (pa_cons (pv 0) pa_nil)) (pg_tup rfl (pgs_cons (pg_name (i := 4) nd rfl (Or.inl rfl)) (pgs_cons (pg_tup rfl (pgs_cons (pg_name (i := 5) nd rfl (Or.inl rfl)) (pgs_cons (pg_name (i := 6) nd rfl (Or.inl rfl)) pgs_nil))) pgs_nil))) (pss_one (ps_while PassesOwn.never (pt_cmpR op_gt (pe_callB (r := rLenS K) call_lenS (by rfl) T.n_len (by decide +kernel) (pa_cons (pe_ix (r := rIxL K) ix_list (pv 1) (pv 4) (fun _ _ => rfl)) pa_nil)) pe_int (nomark _)) (pss_cons (ps_par (i := 7) (j := 8) (by rfl) nd rfl rfl (by decide) rfl rfl (pa_cons (pe_bm0 PySem.F.plainAttrs_list PySem.F.slot_list_pop PySem.F.type_list_pop mt_pop (pe_ix (r := rIxL K) ix_list (pv 1) (pv 4) (fun _ _ => rfl))) (pa_cons (pe_bm0 PySem.F.plainAttrs_list PySem.F.slot_list_pop PySem.F.type_list_pop mt_pop (pe_ix (r := rIxL K) ix_list (pv 1) (pv 4) (fun _ _ => rfl))) pa_nil)) (by rfl))
      (pss_cons (ps_expr (pe_bm PySem.F.plainAttrs_list PySem.F.slot_list_append PySem.F.type_list_append mt_append (pe_ix (r := rIxL K) ix_list (pv 1) (pv 4) (fun _ _ => rfl)) (pa_cons (pe_ix (r := rIxT K) ix_tup (pe_ix (r := rIxT K) ix_tup (pv 5) (pv 7) (fun _ _ => rfl)) (pv 8) (fun _ _ => rfl)) pa_nil)))
      (pss_one (ps_expr (pe_bm PySem.F.plainAttrs_list PySem.F.slot_list_append PySem.F.type_list_append mt_append (pe_ix (r := rIxL K) ix_list (pv 1) (pe_op op_add (pv 4) pe_int) (fun _ _ => rfl)) (pa_cons (pe_ix (r := rIxT K) ix_tup (pe_ix (r := rIxT K) ix_tup (pv 6) (pv 7) (fun _ _ => rfl)) (pv 8) (fun _ _ => rfl)) pa_nil)))))))))
      (pss_one (ps_ret (pe_tup (pa_cons (pe_lc (own := [("heap", 3)]) (g := (gName 3)) (tt := tYes) (by rfl) nd (pi_list (pe_slice (r := rSlL K) sl_list (pv 1) po_none (po_some (pe_un un_neg pe_int)))) (blkOk_by (own := [("heap", 3)]) (N := N_law_rest) (sc := defScope s_law_rest) (by decide +kernel)) (fun _ _ _ _ _ => (pg_name (i := 3) nd rfl (Or.inl rfl))) (fun _ _ _ _ _ => pts_nil) (fun _ _ _ _ _ => (pe_ix (r := rIxL K) ix_list (pe_op op_cat (pv 3) (pe_lst (pa_cons pe_non pa_nil))) pe_int (fun _ _ => rfl)))) (pa_cons (pe_op op_add (pv 2) (pe_callB (r := rLenS K) call_lenS (by rfl) T.n_len (by decide +kernel) (pa_cons (pe_ix (r := rIxL K) ix_list (pv 1) (pe_un un_neg pe_int) (fun _ _ => rfl)) pa_nil))) pa_nil))))))), ?_⟩
    walk_at "op"
    have hmn : 1 ≤ n ∧ n ≤ 4 ∧ 1 ≤ m ∧ m ≤ 6 := by
      obtain ⟨_, _, _, z1, z2, z3, z4, _⟩ := hN
      exact ⟨z1, z2, z3, z4⟩
    refine ⟨_, rfl, q, rfl, ⟨_, SqL.of hLL.at_⟩, fun D1 hD1 => ?_⟩
    refine lI walk_list (fun i G => Same H G ∧ ∃ w1, LL G p D1 w1 ((hs0.take i).map castL) ∧ Inj w1 ∧ Fresh H w1) ⟨same_new hD1, [], LL.nil upd_same, fun i1 i2 b e => (by cases e), fun i b e => (by cases e)⟩ (fun _ _ _ ⟨e, _⟩ => SqL.of (e _ _ hLL.at_)) ?_ ?_
    · rintro i x _ G hi ⟨sG, w1, hL1, inj1, fresh1⟩ ⟨rfl, hxi⟩
      have hil : i < hs0.length := by rw [hLL.len, List.length_map] at hi; exact hi
      have hgi : hs0[i]? = some hs0[i] := List.getElem?_eq_getElem hil
      obtain ⟨b, e1, hb, _, _⟩ := row_bf hLL hgi
      rw [hxi] at e1
      cases e1
      walk_at "op"
      refine ⟨rfl, ?_⟩
      refine iteT ?_
      refine ⟨_, rfl, b, _, rfl, .inl (SqL.of (sG _ _ hb)), fun l hl => ?_⟩
      have sl := same_new (o := .lst ((castL hs0[i]).map V.int)) hl
      have hwl : w1.length ≤ 4 := by rw [hL1.len, List.length_map, List.length_take]; omega
      refine ⟨w1, sl _ _ hL1.at_, Nat.lt_of_le_of_lt hwl (by rw [sizeLine_eq]; omega), sameOff (sG.trans sl) hD1, w1 ++ [.ref l], ?_, inj1.snoc (hL1.off hl), fresh1.snoc (sameFree sG hl)⟩
      rw [tk_snoc hgi, List.map_append]
      exact (hL1.same sl).snoc upd_same (ne_of_none hL1.at_ hl).symm (ne_of_none (sG _ _ hp) hl).symm
    · rintro G1 ⟨s1, w1, hL1, inj1, fresh1⟩
      rw [hLL.len, List.length_map, List.take_length] at hL1
      have hw1 : w1.length = n := by rw [hL1.len, List.length_map, hhl]
      refine ⟨Nat.zero_le _, fun e0 he0 => ⟨by show 1 ≤ sizeLine; decide, fun E1 hE1 => ?_⟩⟩
      have s2 := same_new (o := .lst []) he0
      have s3 := same_new (o := .lst [V.ref e0]) hE1
      have he01 : upd (upd G1 e0 (.lst [])) E1 (.lst [V.ref e0]) e0 = some (.lst (([] : List Int).map V.int)) := s3 _ _ upd_same
      have nep : e0 ≠ p := (ne_of_none (s1 _ _ hp) he0).symm
      have hL3 := hL1.same (s2.trans s3)
      have hE3 : upd (upd G1 e0 (.lst [])) E1 (.lst [V.ref e0]) E1 = some (.lst [V.ref e0]) := upd_same
      have s13 := s1.trans (s2.trans s3)
      have he0H := sameFree s1 he0
      have off0 := hL1.off he0
      generalize upd (upd G1 e0 (.lst [])) E1 (.lst [V.ref e0]) = G3 at *
      refine ⟨D1, E1, w1, [.ref e0], rfl, rfl, hL3.at_, hE3, Nat.le_of_lt (Nat.lt_of_le_of_lt (show w1.length + 1 ≤ 5 by omega) (by rw [sizeLine_eq]; omega)), fun C hC => ?_⟩
      have hLC := hL3.cat he01 nep hC
      have s4 := same_new (o := .lst (w1 ++ [V.ref e0])) hC
      have inj2 : Inj (w1 ++ [.ref e0]) := inj1.snoc off0
      have fresh2 : Fresh H (w1 ++ [.ref e0]) := fresh1.snoc he0H
      have hCH := sameFree s13 hC
      have s14 := s13.trans s4
      have hw2 : (w1 ++ [V.ref e0]).length = n + 1 := by rw [List.length_append, hw1]; rfl
      have eh : hs0.map castL ++ [[]] = (hs0 ++ [[]]).map castL := by rw [List.map_append]; rfl
      rw [eh] at hLC
      have nCp : C ≠ p := (ne_of_none (s13 _ _ hp) hC).symm
      generalize upd G3 C (.lst (w1 ++ [V.ref e0])) = G4 at *
      generalize w1 ++ [V.ref e0] = w2 at *
      have hl1 : (hs0 ++ [[]]).length = n + 1 := by rw [List.length_append, hhl]; rfl
      have h60 : ∀ h ∈ hs0 ++ [[]], h.length ≤ 60 := fun h hh => by
        rcases List.mem_append.mp hh with hh | hh
        · exact (hok h hh).1
        · rw [List.mem_singleton.mp hh]
          exact Nat.zero_le _
      have hlt : ∀ h ∈ hs0 ++ [[]], ∀ x ∈ h, x < m := fun h hh => by
        rcases List.mem_append.mp hh with hh | hh
        · exact (hok h hh).2
        · rw [List.mem_singleton.mp hh]
          exact fun x hx => by cases hx
      have t600 : FmC.tall n m (FmC.hsSt n (hs0 ++ [[]]) out) ≤ 600 := FmC.tall_heaps hmn.2.1 h60
      have B := tabs_of hN (goLt_of hD hN)
      obtain ⟨ah, hsv, rfl, hah, nah, hh⟩ := id hD.isTup
      have hhn : hsv.length = n := by
        rw [hh.1]
        obtain ⟨_, e, z, _⟩ := hN
        cases e
        exact z
      have I0 : RestI fs m n out p C H w2 (hs0 ++ [[]]) 0 (hs0 ++ [[]]) G4 := ⟨s14, hLC, hl1, hlt, fun h hh => by have := h60 h hh; omega, .nil _, fun f hf => absurd hf (Nat.not_lt_zero f)⟩
      walk_at "op"
      refine ⟨_, rfl, ah, hsv, rfl, SqT.of (s14 _ _ hah), ?_⟩
      refine fI walk_enumT (fun i σ G => ∃ (hs : List (List Nat)) (u4 u5 u6 u7 u8 : Option V), σ = [some (.ref ah), some (.ref C), some (.int (out : Nat)), none, u4, u5, u6, u7, u8] ∧ RestI fs m n out p C H w2 (hs0 ++ [[]]) i hs G)
        ⟨hs0 ++ [[]], _, _, _, _, _, rfl, I0⟩ (fun i σ G _ ⟨_, _, _, _, _, _, _, I⟩ => SqT.of (I.x _ _ hah)) ?_ ?_
      · rintro i v σ G _ hi ⟨hs, u4, u5, u6, u7, u8, rfl, I⟩ ⟨t, x, y, rfl, ht, rfl, hxi, hyi⟩
        dsimp only at hxi hyi
        cases hxi
        rw [hhn] at hi
        obtain ⟨ah', af, hs', t0, t1, eah, g1, g2, g3, hF⟩ := floor_at hD hN hi
        cases eah
        rw [hah] at g1
        cases g1
        rw [hyi] at g3
        cases g3
        have I1 := I.same (same_new (o := .tup [V.int (i : Nat), V.ref af]) ht)
        have htt : upd G t (.tup [V.int (i : Nat), V.ref af]) t = some (.tup [V.int (i : Nat), V.ref af]) := upd_same
        clear I I0
        generalize upd G t (.tup [V.int (i : Nat), V.ref af]) = G1 at *
        walk_at "op"
        refine ⟨t, _, rfl, SqT.of htt, rfl, _, _, rfl, _, _, rfl, ?_⟩
        refine ⟨af, _, rfl, SqT.of (I1.x _ _ hF.at_), rfl, _, _, rfl, _, _, rfl, rfl, rfl, ?_⟩
        refine ⟨fun μ σ G => ∃ (hs : List (List Nat)) (u7 u8 : Option V), σ = [some (.ref ah), some (.ref C), some (.int (out : Nat)), none, some (.int (i : Nat)), some (.ref t0), some (.ref t1), u7, u8] ∧ RestI fs m n out p C H w2 (hs0 ++ [[]]) i hs G ∧ (hs.getD i []).length = μ,
          ⟨_, hs, _, _, rfl, I1, rfl⟩, ?_⟩
        clear I1 htt
        rintro μ σ G ⟨hs, u7, u8, rfl, I, hμ⟩
        have hil : i < hs.length := by have := I.len; omega
        have hgi : hs[i]? = some hs[i] := List.getElem?_eq_getElem hil
        have egf : hs.getD i [] = hs[i] := by rw [List.getD_eq_getElem?_getD, hgi]; rfl
        rw [egf] at hμ
        obtain ⟨bf, e1, hb, nbC, nbp⟩ := row_bf I.ll hgi
        have hbH := fresh2 _ _ e1
        have hhm := I.lt _ (List.getElem_mem hil)
        have hhb := I.big _ (List.getElem_mem hil)
        walk_at "op"
        refine ⟨_, rfl, _, rfl, C, w2, _, _, rfl, rfl, SqL.of I.ll.at_, atI_nat e1, bf, _, rfl, .inl (SqL.of hb), _, 1, rfl, rfl, _, rfl, ?_⟩
        rw [cast_len]
        refine ite2 (fun c0 => ?_) (fun c0 => ?_)
        · have c1 : 1 < hs[i].length := by have := of_decide_eq_true c0; omega
          obtain ⟨rest, b', a', eh3⟩ : ∃ rest b' a', hs[i] = rest ++ [b'] ++ [a'] := by
            rcases List.eq_nil_or_concat hs[i] with e | ⟨l, a', e⟩
            · rw [e] at c1
              exact absurd c1 (by decide)
            · rw [List.concat_eq_append] at e
              rcases List.eq_nil_or_concat l with e2 | ⟨l2, b', e2⟩
              · rw [e, e2] at c1
                simp at c1
              · rw [List.concat_eq_append] at e2
                exact ⟨l2, b', a', by rw [e, e2]⟩
          rw [eh3] at hb hhm hhb hgi hμ
          have ha : a' < m := hhm a' (List.mem_append_right _ List.mem_cons_self)
          have hbm : b' < m := hhm b' (List.mem_append_left _ (List.mem_append_right _ List.mem_cons_self))
          have hrm : ∀ x ∈ rest, x < m := fun x hx => hhm x (List.mem_append_left _ (List.mem_append_left _ hx))
          have pm : (rest ++ [b'] ++ [a']).Perm (a' :: b' :: rest) := by
            refine (List.perm_append_comm (l₁ := rest ++ [b']) (l₂ := [a'])).trans (List.Perm.cons a' ?_)
            show (rest ++ [b']).Perm ([b'] ++ rest)
            exact List.perm_append_comm
          rw [List.length_append, List.length_append] at hhb hμ
          have l1 : [b'].length = 1 := rfl
          have l2 : [a'].length = 1 := rfl
          rw [← cast_snoc, ← cast_snoc] at hb
          refine ⟨_, fun σ' H' h => h, ?_⟩
          refine ⟨_, rfl, _, rfl, C, w2, _, _, rfl, rfl, SqL.of I.ll.at_, atI_nat e1, .inl ⟨rfl, _, SqL.of hb⟩, ?_⟩
          refine ⟨bf, _, _, rfl, rfl, hb, by rw [List.length_append]; show _[_ + 1 - 1]? = _; rw [Nat.add_sub_cancel, List.getElem?_append_right (Nat.le_refl _), Nat.sub_self]; rfl, ?_⟩
          rw [List.dropLast_concat, cast_snoc]
          have hL1 := I.ll.put inj2 e1 (rest ++ [b'])
          have hb1 : upd G bf (.lst ((castL (rest ++ [b'])).map V.int)) bf = some (.lst ((castL (rest ++ [b'])).map V.int)) := upd_same
          have s1' : Same H (upd G bf (.lst ((castL (rest ++ [b'])).map V.int))) := sameOff I.x hbH
          generalize upd G bf (.lst ((castL (rest ++ [b'])).map V.int)) = Ga at *
          rw [← cast_snoc] at hb1
          refine ⟨_, rfl, _, rfl, C, w2, _, _, rfl, rfl, SqL.of hL1.at_, atI_nat e1, .inl ⟨rfl, _, SqL.of hb1⟩, ?_⟩
          refine ⟨bf, _, _, rfl, rfl, hb1, by rw [List.length_append]; show _[_ + 1 - 1]? = _; rw [Nat.add_sub_cancel, List.getElem?_append_right (Nat.le_refl _), Nat.sub_self]; rfl, ?_⟩
          rw [List.dropLast_concat]
          have hL2 := hL1.put inj2 e1 rest
          rw [List.set_set] at hL2
          have hb2 : upd Ga bf (.lst ((castL rest).map V.int)) bf = some (.lst ((castL rest).map V.int)) := upd_same
          have s2' : Same H (upd Ga bf (.lst ((castL rest).map V.int))) := sameOff s1' hbH
          clear hL1 hb1 s1'
          generalize upd Ga bf (.lst ((castL rest).map V.int)) = Gb at *
          refine ⟨_, _, rfl, ?_⟩
          obtain ⟨ss0, r0, y0, p1, p2, p3, p4, p5⟩ := (hF.same s2').s _ _ ha hbm
          refine ⟨_, rfl, _, rfl, C, w2, _, _, rfl, rfl, SqL.of hL2.at_, atI_nat e1, .inl ⟨rfl, _, SqL.of hb2⟩, ?_⟩
          refine ⟨_, rfl, _, rfl, t0, ss0, _, _, rfl, rfl, SqT.of p1, atI_nat p2, _, rfl, r0, y0, _, _, rfl, rfl, SqT.of p3, atI_nat p4, ?_⟩
          refine ⟨bf, _, _, rfl, rfl, hb2, by rw [cast_len]; exact Nat.lt_of_le_of_lt (show rest.length ≤ 660 by omega) (by rw [sizeLine_eq]; omega), ?_⟩
          rw [cast_snoc]
          have hL3 := hL2.put inj2 e1 (rest ++ [goN fs 0 i a' b'])
          rw [List.set_set] at hL3
          have s3' : Same H (upd Gb bf (.lst ((castL (rest ++ [goN fs 0 i a' b'])).map V.int))) := sameOff s2' hbH
          clear hL2 hb2 s2' ss0 r0 y0 p1 p2 p3 p4
          generalize upd Gb bf (.lst ((castL (rest ++ [goN fs 0 i a' b'])).map V.int)) = Gc at *
          have hul : i + 1 < hs.length := by have := I.len; omega
          have hgu : hs[i + 1]? = some hs[i + 1] := List.getElem?_eq_getElem hul
          have hum := I.lt _ (List.getElem_mem hul)
          have hub := I.big _ (List.getElem_mem hul)
          generalize hs[i + 1] = u' at *
          obtain ⟨bu, eu, hbu, nuC, nup⟩ := row_bf hL3 (show (hs.set i (rest ++ [goN fs 0 i a' b']))[i + 1]? = some u' by rw [List.getElem?_set_ne (by omega)]; exact hgu)
          have hbuH := fresh2 _ _ eu
          obtain ⟨ss1, r1, y1, q1, q2, q3, q4, q5⟩ := (hF.same s3').u _ _ ha hbm
          refine ⟨_, rfl, _, rfl, _, _, rfl, rfl, C, w2, _, _, rfl, rfl, SqL.of hL3.at_, atI_nat (j := i + 1) eu, .inl ⟨rfl, _, SqL.of hbu⟩, ?_⟩
          refine ⟨_, rfl, _, rfl, t1, ss1, _, _, rfl, rfl, SqT.of q1, atI_nat q2, _, rfl, r1, y1, _, _, rfl, rfl, SqT.of q3, atI_nat q4, ?_⟩
          refine ⟨bu, _, _, rfl, rfl, hbu, by rw [cast_len]; exact Nat.lt_of_le_of_lt (show u'.length ≤ 660 by omega) (by rw [sizeLine_eq]; omega), ?_⟩
          rw [cast_snoc]
          have hL4 := hL3.put inj2 eu (u' ++ [goN fs 1 i a' b'])
          have s4' : Same H (upd Gc bu (.lst ((castL (u' ++ [goN fs 1 i a' b'])).map V.int))) := sameOff s3' hbuH
          have hst := FmC.hs_step (out := out) (S := goN fs 0) (U := goN fs 1) hi I.len hgi hgu pm ha hbm
          have htl := FmC.step_tall B.tables hst
          have mem3 : ∀ z ∈ (hs.set i (rest ++ [goN fs 0 i a' b'])).set (i + 1) (u' ++ [goN fs 1 i a' b']), (∀ x ∈ z, x < m) ∧ z.length + FmC.tall n m (FmC.hsSt n hs out) ≤ 661 := fun z hz => by
            rcases List.mem_or_eq_of_mem_set hz with hz | rfl
            · rcases List.mem_or_eq_of_mem_set hz with hz | rfl
              · exact ⟨I.lt z hz, Nat.le_succ_of_le (I.big z hz)⟩
              · refine ⟨fun x hx => ?_, by rw [List.length_append]; show _ + 1 + _ ≤ _; omega⟩
                rcases List.mem_append.mp hx with hx | hx
                · exact hrm x hx
                · rw [List.mem_singleton.mp hx]
                  exact p5
            · refine ⟨fun x hx => ?_, by rw [List.length_append]; show _ + 1 + _ ≤ _; omega⟩
              rcases List.mem_append.mp hx with hx | hx
              · exact hum x hx
              · rw [List.mem_singleton.mp hx]
                exact q5
          refine ⟨rest.length + 1, by omega, (hs.set i (rest ++ [goN fs 0 i a' b'])).set (i + 1) (u' ++ [goN fs 1 i a' b']), _, _, rfl, ⟨s4', hL4, by rw [List.length_set, List.length_set]; exact I.len, fun z hz => (mem3 z hz).1, fun z hz => by have := (mem3 z hz).2; omega, I.run.trans (.one hst), fun f hf => ?_⟩, ?_⟩
          · rw [FmC.getD_set_ne _ _ _ _ _ (by omega), FmC.getD_set_ne _ _ _ _ _ (by omega)]
            exact I.low f hf
          · rw [FmC.getD_set_ne _ _ _ _ _ (by omega), FmC.getD_set_same _ _ _ _ hil, List.length_append]
            rfl
        · have c1 : hs[i].length ≤ 1 := Nat.not_lt.mp fun z => c0 (decide_eq_true (by omega))
          refine ⟨hs, _, _, _, _, _, rfl, I.x, I.ll, I.len, I.lt, I.big, I.run, fun f hf => ?_⟩
          by_cases hfi : f < i
          · exact I.low f hfi
          · obtain rfl : f = i := by omega
            rw [egf]
            exact c1
      · rintro σ G ⟨hs, u4, u5, u6, u7, u8, rfl, I⟩
        rw [hhn] at I
        walk_at "op"
        clear I0
        obtain ⟨w3, z, hw⟩ : ∃ w3 z, w2 = w3 ++ [z] := by
          rcases List.eq_nil_or_concat w2 with e | ⟨l, b, e⟩
          · rw [e] at hw2
            cases hw2
          · exact ⟨l, b, by rw [e, List.concat_eq_append]⟩
        have hw3 : w3.length = n := by
          rw [hw, List.length_append] at hw2
          have : ([z] : List V).length = 1 := rfl
          omega
        have hsl := I.len
        refine ⟨_, rfl, _, rfl, _, rfl, C, w2, rfl, SqL.of I.ll.at_, fun D2 hD2 => ?_⟩
        rw [hw, cut_last]
        refine ⟨D2, rfl, ⟨_, SqL.of upd_same⟩, fun R hR => ?_⟩
        have hD2' : upd G D2 (.lst w3) D2 = some (.lst w3) := upd_same
        have I2 := I.same (same_new (o := .lst w3) hD2)
        generalize upd G D2 (.lst w3) = G2 at *
        refine lI walk_list (fun i G => Same G2 G ∧ G R = some (.lst (((hs.take i).map List.head?).map optV))) ⟨same_new hR, upd_same⟩ (fun _ _ _ ⟨e, _⟩ => SqL.of (e _ _ hD2')) ?_ ?_
        · rintro i x _ G hi ⟨sG, hRG⟩ ⟨rfl, hxi⟩
          rw [hw3] at hi
          have hil : i < hs.length := by omega
          have hgi : hs[i]? = some hs[i] := List.getElem?_eq_getElem hil
          obtain ⟨b', e1', hb', _, _⟩ := row_bf I2.ll hgi
          rw [hw, List.getElem?_append_left (by omega), hxi] at e1'
          cases e1'
          have htk := tk_snoc hgi
          have hbg := I2.big _ (List.getElem_mem hil)
          generalize hs[i] = h at *
          walk_at "op"
          refine ⟨rfl, ?_⟩
          refine iteT ?_
          refine ⟨_, rfl, by show 1 ≤ sizeLine; decide, fun t1 ht1 => ?_⟩
          have s1' := same_new (o := .lst [V.non]) ht1
          refine ⟨b', t1, _, _, rfl, rfl, s1' _ _ (sG _ _ hb'), upd_same, by rw [cast_len]; exact Nat.le_of_lt (Nat.lt_of_le_of_lt (show h.length + 1 ≤ 661 by omega) (by rw [sizeLine_eq]; omega)), fun t2 ht2 => ?_⟩
          have s2' := s1'.trans (same_new (o := .lst ((castL h).map V.int ++ [V.non])) ht2)
          refine ⟨t2, _, 0, _, rfl, rfl, SqL.of upd_same, head_opt h, ?_⟩
          refine ⟨_, s2' _ _ hRG, by rw [List.length_map, List.length_map, List.length_take]; exact Nat.lt_of_le_of_lt (show min i hs.length ≤ 5 by omega) (by rw [sizeLine_eq]; omega), sameOff (sG.trans s2') hR, ?_⟩
          rw [upd_same, htk, List.map_append, List.map_append]
          rfl
        · rintro G3 ⟨s3, hR3⟩
          rw [hw3] at hR3
          have I3 := I2.same s3
          have hgl : hs[n]? = some hs[n] := List.getElem?_eq_getElem (by omega)
          obtain ⟨bl, el, hbl, _, _⟩ := row_bf I3.ll hgl
          have egl : hs.getD n [] = hs[n] := by rw [List.getD_eq_getElem?_getD, hgl]; rfl
          have elast : atI w2 (-1) = some (.ref bl) := by
            rw [hw, List.getElem?_append_right (by omega), hw3, Nat.sub_self] at el
            cases el
            rw [hw]
            exact L2.atI_last w3 _
          walk_at "op"
          refine ⟨_, rfl, _, rfl, _, rfl, C, w2, _, _, rfl, rfl, SqL.of I3.ll.at_, elast, bl, _, rfl, .inl (SqL.of hbl), _, _, rfl, rfl, ?_⟩
          rw [cast_len, ← egl]
          refine ⟨by show 2 ≤ sizeLine; decide, fun T1 hT1 => ?_⟩
          have s4' := same_new (o := .tup [V.ref R, V.int ((out : Int) + ((hs.getD n []).length : Nat))]) hT1
          exact k T1 R _ hs _ (by rw [upd_same]; rfl) (s4' _ _ hR3) rfl hsl (fun h hh => ⟨by have := I3.big h hh; omega, I3.lt h hh⟩) I3.low I3.run (I3.x.trans s4')
end
end Fm
end FZR
section FFmLcZ
set_option Elab.async false
set_option linter.all false
set_option maxRecDepth 100000
set_option maxHeartbeats 4000000
namespace Fm
open PySem PySem.Spec PyProof.Rows L2
/-! ### a comprehension over zip(xs, ys) whose target is a plain name: the pairs stay tuples of their own -/
/-- what is known of the zip object ahead of turn j; T: the pair that it gave first -/
structure ZAt (z TI TO i1 i2 a b : Addr) (j : Nat) (T : Addr) (h : Heap) : Prop where
  ti : IsPair h TI (.ref i1) (.ref i2)
  to : ∃ x y, IsPair h TO x y
  l1 : h.IsListIter i1 a j
  l2 : h.IsListIter i2 b j
  st : (j = 0 ∧ IsZip h z TI TO .none) ∨ (0 < j ∧ ∃ f, IsZipHeld h z TI TO T f)
def fpZ (z TI TO i1 i2 : Addr) : List Addr := [z, TI, TO, i1, i2]
/-- tuples stay -/
def KeepsT (A B : Hp) : Prop := ∀ (c : Addr) (zs : List V), A c = some (.tup zs) → B c = some (.tup zs)
section
variable {z TI TO i1 i2 a b T : Addr} {j : Nat} {h h' : Heap}
theorem ZAt.here (Z : ZAt z TI TO i1 i2 a b j T h) : ∃ o, h.get? z = some o ∧ ∀ v, o.data ≠ .cell v := by
  rcases Z.st with ⟨_, q⟩ | ⟨_, f, q⟩
  · exact ⟨_, q, fun v w => nomatch w⟩
  · exact ⟨_, q, fun v w => nomatch w⟩
theorem ZAt.objs (Z : ZAt z TI TO i1 i2 a b j T h) : ∀ c ∈ fpZ z TI TO i1 i2, ∃ o, h.get? c = some o ∧ ∀ v, o.data ≠ .cell v := by
  intro c hc
  obtain ⟨x, y, hTO⟩ := Z.to
  obtain ⟨o1, g1, _, k1⟩ := Z.l1
  obtain ⟨o2, g2, _, k2⟩ := Z.l2
  have e' : c = z ∨ c = TI ∨ c = TO ∨ c = i1 ∨ c = i2 := by simpa [fpZ] using hc
  rcases e' with q | q | q | q | q
  · rw [q]; exact Z.here
  · rw [q]; exact ⟨_, Z.ti, fun v w => nomatch w⟩
  · rw [q]; exact ⟨_, hTO, fun v w => nomatch w⟩
  · rw [q]; exact ⟨o1, g1, fun v w => by rw [k1] at w; cases w⟩
  · rw [q]; exact ⟨o2, g2, fun v w => by rw [k2] at w; cases w⟩
theorem ZAt.keep (Z : ZAt z TI TO i1 i2 a b j T h) (k : ∀ c ∈ fpZ z TI TO i1 i2, ∀ o, h.get? c = some o → h'.get? c = some o) : ZAt z TI TO i1 i2 a b j T h' := by
  obtain ⟨x, y, hTO⟩ := Z.to
  refine ⟨k TI (by simp [fpZ]) _ Z.ti, ⟨x, y, k TO (by simp [fpZ]) _ hTO⟩, Z.l1.at fun o q => k i1 (by simp [fpZ]) o q, Z.l2.at fun o q => k i2 (by simp [fpZ]) o q, ?_⟩
  rcases Z.st with ⟨q0, q⟩ | ⟨q0, f, q⟩
  · exact .inl ⟨q0, k z (by simp [fpZ]) _ q⟩
  · exact .inr ⟨q0, f, k z (by simp [fpZ]) _ q⟩
theorem tup_alive {X : Cx} {pins : List (Addr × Obj)} {σ : L2.St} {H : Hp} {s : Shared} {zs : List V} (I : Inv X pins σ H s) (e : H T = some (.tup zs)) : ∃ o, s.heap.get? T = some o := by
  obtain ⟨its, _, ⟨o, ho, _⟩, _⟩ := I.tuple (SqT.of e)
  exact ⟨o, ho⟩
/-- a pair comes -/
theorem ZAt.item {X : Cx} {pins : List (Addr × Obj)} {σ : L2.St} {H : Hp} {s : Shared} {E : Value → Shared → Prop} {xs ys : List V} {x y : V} (D : ZipApart z TI TO i1 i2 a b) (I : Inv X pins σ H s) (hf : ∀ c ∈ fpZ z TI TO i1 i2, FpOk X pins H c) (Z : ZAt z TI TO i1 i2 a b j T s.heap)
    (al : 0 < j → ∃ zs, H T = some (.tup zs)) (hqx : SqL X.K H a xs) (hqy : SqL X.K H b ys) (hx : xs[j]? = some x) (hy : ys[j]? = some y) :
    wpAny (model X.prog X.w) X.A (pyNext (.ref z)) (fun r s1 => ∃ T' : Addr, r = some (.ref T') ∧ H T' = none ∧ Inv X pins σ (upd H T' (.tup [x, y])) s1 ∧ ZAt z TI TO i1 i2 a b (j + 1) (if j = 0 then T' else T) s1.heap ∧ ∀ c ∈ fpZ z TI TO i1 i2, upd H T' (.tup [x, y]) c = none) E s := by
  obtain ⟨p1, r1, q1, _⟩ := I.list hqx
  obtain ⟨p2, r2, q2, _⟩ := I.list hqy
  obtain ⟨u, hu, ru⟩ := r1.get hx
  obtain ⟨v, hv, rv⟩ := r2.get hy
  obtain ⟨x0, y0, hTO⟩ := Z.to
  have off : ∀ c ∈ fpZ z TI TO i1 i2, c < s.heap.objs.size := fun c hc => by
    obtain ⟨o, e, _⟩ := Z.objs c hc
    exact Heap.lt_size e
  have fresh : H s.heap.objs.size = none := I.hok.fresh (Nat.le_refl _)
  have mk : ∀ h'' : Heap, IsPair h'' s.heap.objs.size u v → (∀ c o, c ∉ fpZ z TI TO i1 i2 → s.heap.get? c = some o → h''.get? c = some o) → Inv X pins σ (upd H s.heap.objs.size (.tup [x, y])) { s with heap := h'' } := fun h'' hp hk => by
    have new : ObjOk X.prog X.w (upd H s.heap.objs.size (.tup [x, y])) h'' s.heap.objs.size (.tup [x, y]) := ⟨by show 2 ≤ sizeLine; decide, [u, v], .cons ru (.cons rv .nil), ⟨_, hp, rfl, _, rfl⟩⟩
    exact I.turnedNew (t' := s.toks) (ch := fpZ z TI TO i1 i2) hk hf (Nat.le_refl _) new
  have nofp : ∀ c ∈ fpZ z TI TO i1 i2, upd H s.heap.objs.size (.tup [x, y]) c = none := fun c hc => by
    rw [upd_ne (Nat.ne_of_lt (off c hc))]
    exact (hf c hc).1
  rcases Z.st with ⟨q0, hz⟩ | ⟨q0, f, hz⟩
  · refine wpAny_pyNext_zip_item D hz Z.ti hTO Z.l1 Z.l2 q1.isList q2.isList (x := u) (y := v) (by simpa using hu) (by simpa using hv) fun h2 z2 t2 a2 b2 n2 _ k2 => ?_
    refine ⟨s.heap.objs.size, rfl, fresh, mk h2 n2 (fun c o hc e => k2 c o (fun q => hc (by simp [fpZ, q])) (fun q => hc (by simp [fpZ, q])) (fun q => hc (by simp [fpZ, q])) (fun q => hc (by simp [fpZ, q])) e), ?_, nofp⟩
    rw [if_pos q0]
    exact ⟨k2 _ _ D.TIz D.TITO D.TIi1 D.TIi2 Z.ti, ⟨_, _, t2⟩, a2, b2, .inr ⟨Nat.succ_pos _, false, z2⟩⟩
  · obtain ⟨zs, hTt⟩ := al q0
    obtain ⟨oT, hoT⟩ := tup_alive I hTt
    refine wpAny_pyNext_zip_item_held D hz hoT Z.ti Z.l1 Z.l2 q1.isList q2.isList (x := u) (y := v) (by simpa using hu) (by simpa using hv) fun h2 z2 a2 b2 n2 _ k2 => ?_
    refine ⟨s.heap.objs.size, rfl, fresh, mk h2 n2 (fun c o hc e => k2 c o (fun q => hc (by simp [fpZ, q])) (fun q => hc (by simp [fpZ, q])) (fun q => hc (by simp [fpZ, q])) e), ?_, nofp⟩
    rw [if_neg (by omega)]
    exact ⟨k2 _ _ D.TIz D.TIi1 D.TIi2 Z.ti, ⟨_, _, k2 _ _ D.TOz D.TOi1 D.TOi2 hTO⟩, a2, b2, .inr ⟨Nat.succ_pos _, true, z2⟩⟩
/-- none is left -/
theorem ZAt.done {X : Cx} {pins : List (Addr × Obj)} {σ : L2.St} {H : Hp} {s : Shared} {E : Value → Shared → Prop} {xs ys : List V} (hc : X.calm = true) (D : ZipApart z TI TO i1 i2 a b) (I : Inv X pins σ H s) (hf : ∀ c ∈ fpZ z TI TO i1 i2, FpOk X pins H c) (Z : ZAt z TI TO i1 i2 a b j T s.heap)
    (al : 0 < j → ∃ zs, H T = some (.tup zs)) (hqx : SqL X.K H a xs) (hqy : SqL X.K H b ys) (hend : xs.length ≤ j ∨ ys.length ≤ j) :
    wpAny (model X.prog X.w) X.A (pyNext (.ref z)) (fun r s1 => r = none ∧ Inv X pins σ H s1) E s := by
  obtain ⟨p1, r1, q1, _⟩ := I.list hqx
  obtain ⟨p2, r2, q2, _⟩ := I.list hqy
  obtain ⟨x0, y0, hTO⟩ := Z.to
  have m1 := r1.length
  have m2 := r2.length
  have he : p1.toArray[j]? = none ∨ p2.toArray[j]? = none := by
    rcases hend with q | q
    · exact .inl (by simp; omega)
    · exact .inr (by simp; omega)
  rcases Z.st with ⟨q0, hz⟩ | ⟨q0, f, hz⟩
  · refine wpAny_pyNext_zip_end (I.ok.hd hc) D hz Z.ti hTO Z.l1 Z.l2 q1.isList q2.isList he fun h2 k2 => ?_
    exact ⟨rfl, I.turnedL (t' := s.toks) (ch := fpZ z TI TO i1 i2) (fun c o hc e => k2 c o (fun q => hc (by simp [fpZ, q])) (fun q => hc (by simp [fpZ, q])) (fun q => hc (by simp [fpZ, q])) (fun q => hc (by simp [fpZ, q])) e) hf⟩
  · obtain ⟨zs, hTt⟩ := al q0
    obtain ⟨oT, hoT⟩ := tup_alive I hTt
    refine wpAny_pyNext_zip_end_held (I.ok.hd hc) D hz hoT Z.ti Z.l1 Z.l2 q1.isList q2.isList he fun h2 k2 => ?_
    exact ⟨rfl, I.turnedL (t' := s.toks) (ch := fpZ z TI TO i1 i2) (fun c o hc e => k2 c o (fun q => hc (by simp [fpZ, q])) (fun q => hc (by simp [fpZ, q])) (fun q => hc (by simp [fpZ, q])) e) hf⟩
end
/-- the reading: Pv holds between the turns, and tuples stay -/
def tLcZ (K : PySem.W.Frag) (ta : TA) (g : TG) (vs : List Nat) (te : TE) : TE := fun σ H Q => ta σ H fun us H1 => ∃ (a b : Addr) (xs ys : List V), us = [.ref a, .ref b] ∧ SqL K H1 a xs ∧ SqL K H1 b ys ∧ ∀ D, H1 D = none → ∃ Pv : Nat → Hp → Prop, Pv 0 (upd H1 D (.lst [])) ∧
  (∀ j G, j ≤ min xs.length ys.length → Pv j G → SqL K G a xs ∧ SqL K G b ys) ∧
  (∀ j x y G T, xs[j]? = some x → ys[j]? = some y → Pv j G → G T = none → g (.ref T) (wipe σ vs) (upd G T (.tup [x, y])) fun σ2 G2 => wipe σ2 vs = wipe σ vs ∧ bLeaf te D σ2 G2 fun G3 => KeepsT (upd G T (.tup [x, y])) G3 ∧ Pv (j + 1) G3) ∧ ∀ G, Pv (min xs.length ys.length) G → Q (.ref D) G
theorem run_lz {X : Cx} {pins : List (Addr × Obj)} {σ : L2.St} {H : Hp} {s : Shared} {R : Result → Shared → Prop} {elt : Expr} {gens : List Comprehension} {scope : Scope} {pos npos : Pos} {nm : Str} {ik : Expr} {Dl z TI TO i1 i2 a b : Addr} {vs : List Nat} {g : TG} {te : TE} {xs ys : List V} {Pv : Nat → Hp → Prop} {Nx : Hp → Prop}
    (hc : X.calm = true) (hxe : X.xe = fun _ _ => False) (TI' : TurnIs (.ListComp elt gens scope pos) 0 (.Name nm npos) ik X.env (.ref Dl) (stepLeaf elt X.env (.ref Dl))) (pg : PG X (.Name nm npos) g) (pe : PE X elt te)
    (D : ZipApart z TI TO i1 i2 a b) (hf : ∀ c ∈ fpZ z TI TO i1 i2, ∀ H', H' c = none → FpOk X pins H' c) (I : Inv X pins (wipe σ vs) H s) (st : ZAt z TI TO i1 i2 a b 0 0 s.heap) (nf : ∀ c ∈ fpZ z TI TO i1 i2, H c = none) (p0 : Pv 0 H)
    (sq : ∀ j G, j ≤ min xs.length ys.length → Pv j G → SqL X.K G a xs ∧ SqL X.K G b ys)
    (turn : ∀ j x y G T, xs[j]? = some x → ys[j]? = some y → Pv j G → G T = none → g (.ref T) (wipe σ vs) (upd G T (.tup [x, y])) fun σ2 G2 => wipe σ2 vs = wipe σ vs ∧ bLeaf te Dl σ2 G2 fun G3 => KeepsT (upd G T (.tup [x, y])) G3 ∧ Pv (j + 1) G3)
    (hR : ∀ s' H', Inv X pins (wipe σ vs) H' s' → Pv (min xs.length ys.length) H' → R (.ok .next) s') : codeAny (model X.prog X.w) X.A (.compLoop (.ListComp elt gens scope pos) 0 (.ref z) (.ref Dl) X.env) R s := by
  refine loop_by TI' (fun n s' => ∃ j H' T, n + j = min xs.length ys.length ∧ Inv X pins (wipe σ vs) H' s' ∧ ZAt z TI TO i1 i2 a b j T s'.heap ∧ (∀ c ∈ fpZ z TI TO i1 i2, H' c = none) ∧ Pv j H' ∧ (0 < j → ∃ zs, H' T = some (.tup zs))) (fun n s1 hW => ?_) (min xs.length ys.length) ⟨0, H, 0, rfl, I, st, nf, p0, fun q => absurd q (Nat.lt_irrefl 0)⟩
  obtain ⟨j, H1, T, hn, I1, st1, nf1, w1, al⟩ := hW
  obtain ⟨sx, sy⟩ := sq j H1 (by omega) w1
  rcases Nat.eq_zero_or_pos n with h0 | h0
  · refine thnF (st1.done (E := fun _ _ => False) hc D I1 (fun c hc => hf c hc H1 (nf1 c hc)) al sx sy (by omega)) fun r s2 ⟨hr, I2⟩ => ?_
    subst hr
    have : j = min xs.length ys.length := by omega
    rw [this] at w1
    exact hR s2 H1 I2 w1
  · have hx : xs[j]? = some (xs[j]'(by omega)) := List.getElem?_eq_getElem _
    have hy : ys[j]? = some (ys[j]'(by omega)) := List.getElem?_eq_getElem _
    refine thnF (st1.item (E := fun _ _ => False) D I1 (fun c hc => hf c hc H1 (nf1 c hc)) al sx sy hx hy) fun r s2 ⟨T', hr, hT', I2, st2, nf2⟩ => ?_
    subst hr
    show wpAny _ _ (letOwnedTupleGo (.Name nm npos) (.ref z) (.ref T')) _ _ s2
    refine wpAny_pure ?_
    have P3 := I2.pinned (fun c hc => hf c hc _ (nf2 c hc)) st2.objs
    have pgr := pg.run _ s2 _ _ (.ref T') (.ref T') _ P3 rfl (turn j _ _ H1 T' hx hy w1 hT')
    rw [hxe] at pgr
    refine thnF pgr fun _ s4 ⟨σ4, H4, I4, hw, q4⟩ => ?_
    refine lv_leaf hxe pe _ s4 σ4 H4 _ _ _ I4 q4 fun s5 H5 I5 n5 => wpAny_pure ⟨rfl, n - 1, by omega, j + 1, H5, if j = 0 then T' else T, by omega, ?_⟩
    obtain ⟨kt, n5⟩ := n5
    have kept : ∀ c ∈ fpZ z TI TO i1 i2, ∀ o, s2.heap.get? c = some o → s5.heap.get? c = some o ∧ H5 c = none := fun c hc o e => by
      have w := I5.pin (c, o) (List.mem_append_right _ (List.mem_append_right _ (mem_pinsAt hc e)))
      exact ⟨w.1, w.2.1⟩
    refine ⟨I5.unpinned.weak ?_ (fun i v e => ?_), st2.keep fun c hc o e => (kept c hc o e).1, fun c hc => ?_, n5, fun _ => ?_⟩
    · rw [wipe_length, wipe_length, ← wipe_length σ4 vs, hw, wipe_length]
    · rw [← hw] at e
      obtain ⟨e1, e2⟩ := wipe_some e
      rw [wipe_out fun q => by cases q]
      exact e1
    · obtain ⟨o, e, _⟩ := st2.objs c hc
      exact (kept c hc o e).2
    · by_cases q : j = 0
      · rw [if_pos q]
        exact ⟨_, kt T' _ upd_same⟩
      · rw [if_neg q]
        obtain ⟨zs, hz⟩ := al (by omega)
        refine ⟨zs, kt T zs ?_⟩
        rw [upd_ne (ne_of_none hz hT')]
        exact hz
/-- the zip object, as it stands ahead of its first turn -/
theorem zip_made {X : Cx} {pins : List (Addr × Obj)} {σ : L2.St} {H : Hp} {s : Shared} {E : Value → Shared → Prop} {a b : Addr} {xs ys : List V} {P : Value → Shared → Prop} (I : Inv X pins σ H s) (sx : SqL X.K H a xs) (sy : SqL X.K H b ys)
    (hP : ∀ (z TI TO i1 i2 : Addr) (s2 : Shared), ZipApart z TI TO i1 i2 a b → Inv X pins σ H s2 → ZAt z TI TO i1 i2 a b 0 0 s2.heap → (∀ c ∈ fpZ z TI TO i1 i2, FpOk X pins H c) → P (.ref z) s2) :
    wpAny (model X.prog X.w) X.A (call (.type "zip") [.ref a, .ref b]) (fun v s1 => wpAny (model X.prog X.w) X.A (pyIter v) P E s1) E s := by
  obtain ⟨p1, r1, q1, _⟩ := I.list sx
  obtain ⟨p2, r2, q2, _⟩ := I.list sy
  have la : a < s.heap.objs.size := q1.lt
  have lb : b < s.heap.objs.size := q2.lt
  refine call_zip_2 q1.isList q2.isList fun h2 z2 t2 o2 a2 b2 _ k2 => wpAny_pyIter_zip z2 ?_
  refine hP _ _ _ _ _ _ (PySem.W.ktu_apart s.heap.objs.size a b la lb) (I.kept (t' := s.toks) k2) ⟨t2, ⟨_, _, o2⟩, a2, b2, .inl ⟨rfl, z2⟩⟩ fun c hc => ?_
  have hle : s.heap.objs.size ≤ c := by
    have e' : c = s.heap.objs.size + 4 ∨ c = s.heap.objs.size + 2 ∨ c = s.heap.objs.size + 3 ∨ c = s.heap.objs.size ∨ c = s.heap.objs.size + 1 := by simpa [fpZ] using hc
    rcases e' with w | w | w | w | w
    · rw [w]; exact Nat.le_add_right _ _
    · rw [w]; exact Nat.le_add_right _ _
    · rw [w]; exact Nat.le_add_right _ _
    · rw [w]; exact Nat.le_refl _
    · rw [w]; exact Nat.le_add_right _ _
  exact I.fpOk hle (I.hok.fresh hle)
theorem lz_core {X : Cx} {pins : List (Addr × Obj)} {s : Shared} {σ : L2.St} {H : Hp} {Q : VK} {elt e e2 : Expr} {nm : Str} {npos p zpos : Pos} {scope : Scope} {own : List (Str × Nat)} {pos pos' : Pos} {ta : TA} {g : TG} {te : TE} {use : Option (Value → Sem Unit)} {Qf : Value → Shared → Prop} (hc : X.calm = true) (hN : X.N.Nodup) (I : Inv X pins σ H s) (hgz : Gl X "zip") (hm : X.mg "zip" = none) (ha : PA X [e, e2] ta) (ok : BlkOk X.N X.env.scope scope own)
    (hg : ∀ (s : Shared) (H : Hp) (C : Addr) (cl : List (Str × Addr)) (fp : List Addr), PG (X.blk s H scope (compEnvC scope cl C X.env) fp) (.Name nm npos) g)
    (he : ∀ (s : Shared) (H : Hp) (C : Addr) (cl : List (Str × Addr)) (fp : List Addr), PE (X.blk s H scope (compEnvC scope cl C X.env) fp) elt te)
    (hst : starEach [e, e2] X.env = (false, eval e X.env) :: starEach [e2] X.env) (hpl : (backTo zpos (starEach [e2] X.env)).any (·.1) = false)
    (hs : ∀ x, foldedSetIterable (.Call (.Name "zip" p) [e, e2] [] zpos) X.env x = pure x)
    (h : tLcZ X.K ta g (own.map (·.2)) te σ H Q)
    (hRR : ∀ D C s' m H', Inv X pins σ H' s' → Q (.ref D) H' → s'.heap.Ns C m → FpOk X pins H' C → compPost (model X.prog X.w) X.A X.xe use Qf (.ref D) C (.ok .next) s') :
    wpAny (model X.prog X.w) X.A (comprehension (.ListComp elt [⟨.Name nm npos, .Call (.Name "zip" p) [e, e2] [] zpos, [], 0⟩] scope pos) scope X.env pos' (newList []) false (eval (.Call (.Name "zip" p) [e, e2] [] zpos) X.env) use) Qf X.xe s := by
  have hfree : ∀ y ∈ scope.names, y.2 = .free → ∃ c, X.env.cells.lookup y.1 = some c := fun y hy e => I.ok.has _ (ok.free y hy e)
  refine wpAny_comprehension_free (use := use) rfl hs (closure_ok hfree) ok.kind (fun y hy e => (ok.uniq y hy).trans (by rw [e])) ?_
  refine Call_ (ld_blt I hgz hm PyProof.Rows.boot_zip (PyProof.Rows.callWith_type1 (thn (ha.run zpos pins s σ H _ I h) fun us s1 ⟨vs, H1, I1, r1, q1⟩ => ?_) hst hpl))
  obtain ⟨a, b, xs, ys, rfl, sx, sy, q⟩ := q1
  cases r1 with
  | cons r rr =>
  cases rr with
  | cons r' rr =>
  cases rr
  cases r
  cases r'
  refine zip_made I1 sx sy fun z TI TO i1 i2 s2 D I2 st2 f2 => ?_
  refine wpAny_newObj_type (newEnv_comp ?_) (show 0 ≤ sizeLine by omega)
  generalize hD : s2.heap.objs.size = Dl
  have nD : H1 Dl = none := I2.hok.fresh (Nat.le_of_eq hD)
  obtain ⟨Pv, p0, sq, turn, fin⟩ := q Dl nD
  have older : ∀ c ∈ fpZ z TI TO i1 i2, c < s2.heap.objs.size := fun c hc => by
    obtain ⟨o, e, _⟩ := st2.objs c hc
    exact Heap.lt_size e
  generalize eL : ({ s2 with heap := s2.heap.push { cls := .type "list", data := .seq ([] : List Value).toArray } } : Shared) = t3
  have hL : t3.heap = s2.heap.push { cls := .type "list", data := .seq ([] : List Value).toArray } := by rw [← eL]
  have I3 : Inv X pins σ (upd H1 Dl (.lst [])) t3 := by
    subst eL
    exact I2.laid (t' := s2.toks) (fun a o e => Heap.get?_push_of_some _ e) (Nat.le_of_eq hD) ⟨Nat.zero_le _, [], 0, .nil, by rw [← hD]; exact Heap.get?_push_size _ rfl⟩
  have F3 : ∀ c ∈ fpZ z TI TO i1 i2, FpOk X pins (upd H1 Dl (.lst [])) c ∧ c < t3.heap.objs.size := fun c hc => by
    have lt := older c hc
    refine ⟨⟨?_, (f2 c hc).2⟩, by rw [hL, Heap.size_push]; exact Nat.lt_succ_of_lt lt⟩
    rw [upd_ne (by rw [← hD]; exact Nat.ne_of_lt lt)]
    exact (f2 c hc).1
  have Bk := block_start I3 ok hN F3
  have N3 : ∀ c ∈ fpZ z TI TO i1 i2, upd H1 Dl (.lst []) c = none := fun c hc => (F3 c hc).1.1
  show codeAny _ _ (.compStart (.ListComp elt [⟨.Name nm npos, .Call (.Name "zip" p) [e, e2] [] zpos, [], 0⟩] scope pos) 0 (.ref z) (.ref Dl) (compEnvC scope (cellsFrom (t3.heap.objs.size + 1) scope.names (cloFrom X.env.cells scope.names [])) t3.heap.objs.size X.env)) (compPost (model X.prog X.w) X.A X.xe use Qf (.ref Dl) t3.heap.objs.size) { t3 with heap := pushCells (t3.heap.push { cls := .type "dict", data := .dict #[] }) scope.names }
  have pgB := hg t3 (upd H1 Dl (.lst [])) t3.heap.objs.size (cellsFrom (t3.heap.objs.size + 1) scope.names (cloFrom X.env.cells scope.names [])) (fpZ z TI TO i1 i2)
  have peB := he t3 (upd H1 Dl (.lst [])) t3.heap.objs.size (cellsFrom (t3.heap.objs.size + 1) scope.names (cloFrom X.env.cells scope.names [])) (fpZ z TI TO i1 i2)
  generalize eC : compEnvC scope (cellsFrom (t3.heap.objs.size + 1) scope.names (cloFrom X.env.cells scope.names [])) t3.heap.objs.size X.env = ce at Bk pgB peB ⊢
  have hce : ce.locals = t3.heap.objs.size := by rw [← eC]; rfl
  have st4 : ZAt z TI TO i1 i2 a b 0 0 (pushCells (t3.heap.push { cls := .type "dict", data := .dict #[] }) scope.names) := st2.keep fun c _ o e => pushCells_keeps _ _ _ _ (Heap.get?_push_of_some _ (by rw [hL]; exact Heap.get?_push_of_some _ e))
  have loop := run_lz (X := X.blk t3 (upd H1 Dl (.lst [])) scope ce (fpZ z TI TO i1 i2)) (R := compPost (model X.prog X.w) X.A X.xe use Qf (.ref Dl) t3.heap.objs.size) (σ := σ) (vs := own.map (·.2)) (g := g) (te := te) (Pv := Pv) (Nx := fun G => Q (.ref Dl) G) (elt := elt) (gens := [⟨.Name nm npos, .Call (.Name "zip" p) [e, e2] [] zpos, [], 0⟩]) (scope := scope) (pos := pos) (ik := .Call (.Name "zip" p) [e, e2] [] zpos) hc rfl (fun it => rfl) pgB peB D
    (fun c hc H' w => ⟨w, (Bk.ok.exf c hc).1, Bk.ok.exfs c hc, .inl hc, fun x c' e => (Bk.ok.exf c hc).2 x c' e, fun p hp => by cases hp⟩) Bk st4 N3 p0 sq turn (fun s' H' I' hq => ?_)
  · exact start_by loop rfl (by
      obtain ⟨_, f0⟩ | ⟨hz, _⟩ := st4.st
      · exact wpAny_pyIter_zip f0 ⟨rfl, loop⟩
      · exact absurd hz (Nat.lt_irrefl 0))
  · have back : Inv X pins σ H' s' := I3.call' (ch := fpZ z TI TO i1 i2) I'.os I'.base I'.hok I'.bare fun c hc => ⟨(F3 c hc).1.2.2.2.1, (F3 c hc).1.2.1, (F3 c hc).1.2.2.2.2.1, (F3 c hc).1.2.2.2.2.2⟩
    obtain ⟨m, hm, _⟩ := I'.loc
    have hm : s'.heap.Ns ce.locals m := hm
    have free : H' ce.locals = none := I'.free
    rw [hce] at hm free
    exact hRR Dl _ s' m H' back (fin H' hq) hm (I3.fpOk (Nat.le_refl _) free)
theorem pe_lz {X : Cx} {elt e e2 : Expr} {nm : Str} {npos p zpos : Pos} {scope : Scope} {own : List (Str × Nat)} {pos : Pos} {ta : TA} {g : TG} {te : TE} (hc : X.calm = true) (hN : X.N.Nodup) (hgz : Gl X "zip") (hm : X.mg "zip" = none) (ha : PA X [e, e2] ta) (ok : BlkOk X.N X.env.scope scope own)
    (hg : ∀ (s : Shared) (H : Hp) (C : Addr) (cl : List (Str × Addr)) (fp : List Addr), PG (X.blk s H scope (compEnvC scope cl C X.env) fp) (.Name nm npos) g)
    (he : ∀ (s : Shared) (H : Hp) (C : Addr) (cl : List (Str × Addr)) (fp : List Addr), PE (X.blk s H scope (compEnvC scope cl C X.env) fp) elt te)
    (hst : starEach [e, e2] X.env = (false, eval e X.env) :: starEach [e2] X.env := by rfl) (hpl : (backTo zpos (starEach [e2] X.env)).any (·.1) = false := by rfl)
    (hs : ∀ x, foldedSetIterable (.Call (.Name "zip" p) [e, e2] [] zpos) X.env x = pure x := by intro _; rfl) :
    PE X (.ListComp elt [⟨.Name nm npos, .Call (.Name "zip" p) [e, e2] [] zpos, [], 0⟩] scope pos) (tLcZ X.K ta g (own.map (·.2)) te) := by
  refine ⟨fun pins s σ H Q I h => ?_⟩
  rw [eval_ListComp]
  refine lz_core hc hN I hgz hm ha ok hg he hst hpl hs h fun D C s' m H' I' q hn f => ⟨m, hn, fun h'' sb => ?_⟩
  obtain ⟨f0, f1, f2, f3, f4, f5⟩ := f
  exact ⟨.ref D, H', I'.turned (t' := s'.toks) (fun b o hb e => (sb.2 b hb).trans e) f0 f1 f3 f4 f5, rfl, q⟩
/-- name = [.. for name in zip(..)] -/
theorem ps_setLz {X : Cx} {i : Nat} {y : Str} {py spos : Pos} {elt e e2 : Expr} {nm : Str} {npos p zpos : Pos} {scope : Scope} {own : List (Str × Nat)} {pos : Pos} {ta : TA} {g : TG} {te : TE} (hc : X.calm = true) (hN : X.N.Nodup) (hy : X.N[i]? = some y) (hyl : X.env.scope.names.lookup y = some .local)
    (hsw : swapsWith (.ListComp elt [⟨.Name nm npos, .Call (.Name "zip" p) [e, e2] [] zpos, [], 0⟩] scope pos) (some (.Name y py)) spos.line X.env = pure true) (hgz : Gl X "zip") (hm : X.mg "zip" = none) (ha : PA X [e, e2] ta) (ok : BlkOk X.N X.env.scope scope own)
    (hg : ∀ (s : Shared) (H : Hp) (C : Addr) (cl : List (Str × Addr)) (fp : List Addr), PG (X.blk s H scope (compEnvC scope cl C X.env) fp) (.Name nm npos) g)
    (he : ∀ (s : Shared) (H : Hp) (C : Addr) (cl : List (Str × Addr)) (fp : List Addr), PE (X.blk s H scope (compEnvC scope cl C X.env) fp) elt te)
    (hst : starEach [e, e2] X.env = (false, eval e X.env) :: starEach [e2] X.env := by rfl) (hpl : (backTo zpos (starEach [e2] X.env)).any (·.1) = false := by rfl)
    (hs : ∀ x, foldedSetIterable (.Call (.Name "zip" p) [e, e2] [] zpos) X.env x = pure x := by intro _; rfl) :
    PS X (.Assign [.Name y py] (.ListComp elt [⟨.Name nm npos, .Call (.Name "zip" p) [e, e2] [] zpos, [], 0⟩] scope pos) spos) (tAsg (tLcZ X.K ta g (own.map (·.2)) te) (gName i)) := by
  refine ⟨fun pins s σ H D I h => ?_⟩
  rw [exec_Assign_Name_used _ _ _ _ hsw]
  refine wpAny_bind (wpAny_standAt (wpAny_bind ?_))
  show wpAny _ X.A (do let _ ← comprehension (.ListComp elt [⟨.Name nm npos, .Call (.Name "zip" p) [e, e2] [] zpos, [], 0⟩] scope pos) scope X.env (firstIterPos [⟨.Name nm npos, .Call (.Name "zip" p) [e, e2] [] zpos, [], 0⟩] pos) (newList []) false (eval (.Call (.Name "zip" p) [e, e2] [] zpos) X.env) (some (assign (.Name y py) X.env))) _ _ s
  have h : tLcZ X.K ta g (own.map (·.2)) te σ H (fun x H1 => gName i x σ H1 D.nx) := h
  refine wpAny_bind (thn (lz_core (Qf := fun _ s' => SP X pins D .next s') hc hN I hgz hm ha ok hg he hst hpl hs h fun L C s' m H' I' q hn f => ?_) fun _ s' hq => wpAny_pure (wpAny_pure hq))
  show wpAny _ _ (assign (.Name y py) X.env (.ref L)) _ _ _
  refine wpAny_assign_Name (store_ok2 (v := V.ref L) I' hN hy (.inl hyl) rfl (fun s2 I2 ⟨a, sb, ha⟩ => ?_) (.inr hyl))
  obtain ⟨f0, f1, f2, f3, f4, f5⟩ := f
  have haC : C ≠ a := by
    rcases ha with z | z
    · rw [z]; exact f1
    · exact fun e => f4 y a z e.symm
  refine ⟨m, hn.sameBut sb haC, fun h3 sb3 => ?_⟩
  exact ⟨_, H', I2.turned (t' := s2.toks) (fun b o hb e => (sb3.2 b hb).trans e) f0 f1 f3 f4 f5, q⟩
/-- over its place's K -/
theorem ps_setLzK {X : Cx} {K : PySem.W.Frag} {i : Nat} {y : Str} {py spos : Pos} {elt e e2 : Expr} {nm : Str} {npos p zpos : Pos} {scope : Scope} {own : List (Str × Nat)} {pos : Pos} {ta : TA} {g : TG} {te : TE} (eK : X.K = K) (hc : X.calm = true) (hN : X.N.Nodup) (hy : X.N[i]? = some y) (hyl : X.env.scope.names.lookup y = some .local)
    (hsw : swapsWith (.ListComp elt [⟨.Name nm npos, .Call (.Name "zip" p) [e, e2] [] zpos, [], 0⟩] scope pos) (some (.Name y py)) spos.line X.env = pure true) (hgz : Gl X "zip") (hm : X.mg "zip" = none) (ha : PA X [e, e2] ta) (ok : BlkOk X.N X.env.scope scope own)
    (hg : ∀ (s : Shared) (H : Hp) (C : Addr) (cl : List (Str × Addr)) (fp : List Addr), PG (X.blk s H scope (compEnvC scope cl C X.env) fp) (.Name nm npos) g)
    (he : ∀ (s : Shared) (H : Hp) (C : Addr) (cl : List (Str × Addr)) (fp : List Addr), PE (X.blk s H scope (compEnvC scope cl C X.env) fp) elt te)
    (hst : starEach [e, e2] X.env = (false, eval e X.env) :: starEach [e2] X.env := by rfl) (hpl : (backTo zpos (starEach [e2] X.env)).any (·.1) = false := by rfl)
    (hs : ∀ x, foldedSetIterable (.Call (.Name "zip" p) [e, e2] [] zpos) X.env x = pure x := by intro _; rfl) :
    PS X (.Assign [.Name y py] (.ListComp elt [⟨.Name nm npos, .Call (.Name "zip" p) [e, e2] [] zpos, [], 0⟩] scope pos) spos) (tAsg (tLcZ K ta g (own.map (·.2)) te) (gName i)) := by
  subst eK
  exact ps_setLz hc hN hy hyl hsw hgz hm ha ok hg he hst hpl hs
end Fm
end FFmLcZ
section FFmLate
/-! Standings together, late comers, numbers called otherwise, how many people. Pure, nothing of the model. -/
set_option linter.all false
namespace FmC
section
variable {n m : Nat} {S U : Nat → Nat → Nat → Nat}
/-! ### together -/
theorem st_add {a b : List (List Int)} {o1 o2 : Int} (l1 : a.length = n) (l2 : b.length = n) (k1 : ∀ r ∈ a, r.length = m ∧ NN r) (k2 : ∀ r ∈ b, r.length = m ∧ NN r) (p1 : 0 ≤ o1) (p2 : 0 ≤ o2) : stSt n (List.zipWith addR a b) (o1 + o2) = stSt n a o1 + stSt n b o2 := by
  funext g x
  simp only [add_at]
  unfold stSt
  by_cases hg : g < n
  · rw [if_pos hg, if_pos hg, if_pos hg]
    have e : (List.zipWith addR a b).getD g [] = addR (a.getD g []) (b.getD g []) := by
      rw [List.getD_eq_getElem?_getD, List.getElem?_zipWith, List.getElem?_eq_getElem (show g < a.length by omega), List.getElem?_eq_getElem (show g < b.length by omega), List.getD_eq_getElem?_getD, List.getElem?_eq_getElem (show g < a.length by omega), List.getD_eq_getElem?_getD, List.getElem?_eq_getElem (show g < b.length by omega)]
      rfl
    have ka : a.getD g [] ∈ a := by rw [List.getD_eq_getElem?_getD, List.getElem?_eq_getElem (show g < a.length by omega)]; exact List.getElem_mem _
    have kb : b.getD g [] ∈ b := by rw [List.getD_eq_getElem?_getD, List.getElem?_eq_getElem (show g < b.length by omega)]; exact List.getElem_mem _
    obtain ⟨q1, q2⟩ := k1 _ ka
    obtain ⟨q3, q4⟩ := k2 _ kb
    rw [e]
    unfold cnt
    rw [addR_get (by omega)]
    have := q2.get x
    have := q4.get x
    omega
  · rw [if_neg hg, if_neg hg, if_neg hg]
    by_cases z : g = n ∧ x = 0
    · rw [if_pos z, if_pos z, if_pos z]
      omega
    · rw [if_neg z, if_neg z, if_neg z]
theorem Run.both {c c' d d' : St} (h : Run n m S U c c') (k : Run n m S U d d') : Run n m S U (c + d) (c' + d') := by
  have h1 := h.beside d
  have h2 := k.beside c'
  rw [add_cm d c, add_cm d c'] at h1
  exact h1.trans h2
/-! ### how many people -/
def heads (n m : Nat) (c : St) : Nat := sumTo n (fun f => sumTo m (c f)) + c n 0
theorem sumTo_congr' : ∀ {k : Nat} {g h : Nat → Nat}, (∀ i, i < k → g i = h i) → sumTo k g = sumTo k h
  | 0, _, _, _ => rfl
  | k + 1, g, h, e => by
    simp only [sumTo]
    rw [sumTo_congr' fun i hi => e i (by omega), e k (by omega)]
theorem heads_add (c d : St) : heads n m (c + d) = heads n m c + heads n m d := by
  unfold heads
  have : (fun f => sumTo m ((c + d) f)) = fun f => sumTo m (c f) + sumTo m (d f) := by
    funext f
    exact sumTo_add m (c f) (d f)
  rw [this, sumTo_add]
  show _ + (c n 0 + d n 0) = _
  omega
theorem heads_one {f a : Nat} (hf : f < n) (ha : a < m) : heads n m (one f a) = 1 := by
  unfold heads
  have : (fun g => sumTo m (one f a g)) = fun g => if g = f then 1 else 0 := by
    funext g
    by_cases h : g = f
    · subst h
      rw [if_pos rfl, sum_one ha]
    · rw [if_neg h]
      have : one f a g = fun _ => 0 := by funext b; exact one_ne fun q => h q.1
      rw [this, sumTo_zero]
  rw [this, sumTo_at hf, one_ne (by omega)]
theorem heads_out : heads n m (one n 0) = 1 := by
  unfold heads
  have : sumTo n (fun g => sumTo m (one n 0 g)) = sumTo n fun _ => 0 := sumTo_congr' fun g hg => by
    have : one n 0 g = fun _ => 0 := by funext b; exact one_ne (by omega)
    rw [this, sumTo_zero]
  rw [this, sumTo_zero, one_self]
theorem heads_up (B : Tabs n m S U) {f a b : Nat} (hf : f < n) (ha : a < m) (hb : b < m) : heads n m (one (f + 1) (outU n U f a b)) = 1 := by
  unfold outU
  by_cases h : f + 1 < n
  · rw [if_pos h]
    exact heads_one h (B.um f a b hf ha hb)
  · rw [if_neg h, show f + 1 = n by omega]
    exact heads_out
theorem heads_step (B : Tabs n m S U) {c d : St} (h : Step n m S (outU n U) c d) : heads n m c = heads n m d := by
  obtain ⟨e, f, a, b, hf, ha, hb, rfl, rfl⟩ := h
  rw [heads_add, heads_add, heads_add, heads_add, heads_one hf ha, heads_one hf hb, heads_one hf (B.sm f a b hf ha hb), heads_up B hf ha hb]
theorem heads_run (B : Tabs n m S U) {c d : St} (h : Run n m S (outU n U) c d) : heads n m c = heads n m d := by
  induction h with
  | nil => rfl
  | cons s _ ih => rw [heads_step B s, ih]
theorem sum_cnt_eq : ∀ {m : Nat} {c : List Int}, c.length = m → NN c → ((sumTo m (cnt c) : Nat) : Int) = c.sum
  | 0, [], _, _ => rfl
  | m + 1, x :: c, hl, h => by
    have ih := sum_cnt_eq (m := m) (c := c) (by simpa using hl) fun y hy => h y (List.mem_cons_of_mem _ hy)
    have hx := h x List.mem_cons_self
    have e : ∀ k, sumTo (k + 1) (cnt (x :: c)) = x.toNat + sumTo k (cnt c) := fun k => by
      induction k with
      | zero => simp only [sumTo]; show 0 + cnt (x :: c) 0 = x.toNat + 0; unfold cnt; rw [List.getD_cons_zero]; omega
      | succ k ih =>
        rw [sumTo, ih, sumTo]
        have : cnt (x :: c) (k + 1) = cnt c k := by unfold cnt; rw [List.getD_cons_succ]
        omega
    rw [e m, List.sum_cons]
    omega
theorem sumTo_shift : ∀ (k : Nat) (g : Nat → Nat), sumTo (k + 1) g = g 0 + sumTo k fun i => g (i + 1)
  | 0, g => by simp only [sumTo]; omega
  | k + 1, g => by
    rw [sumTo, sumTo_shift k g]
    simp only [sumTo]
    omega
theorem rows_sum : ∀ {k : Nat} {rows : List (List Int)}, rows.length = k → (∀ r ∈ rows, r.length = m ∧ NN r) → ((sumTo k (fun f => sumTo m (cnt (rows.getD f []))) : Nat) : Int) = (rows.map List.sum).sum
  | 0, [], _, _ => rfl
  | k + 1, r :: rows, hl, h => by
    have ih := rows_sum (k := k) (rows := rows) (by simpa using hl) fun y hy => h y (List.mem_cons_of_mem _ hy)
    obtain ⟨q1, q2⟩ := h r List.mem_cons_self
    rw [sumTo_shift, List.map_cons, List.sum_cons, ← ih, ← sum_cnt_eq q1 q2]
    show ((sumTo m (cnt r) + sumTo k (fun i => sumTo m (cnt (rows.getD i []))) : Nat) : Int) = _
    omega
theorem heads_st {rows : List (List Int)} {out : Int} (hl : rows.length = n) (h : ∀ r ∈ rows, r.length = m ∧ NN r) (ho : 0 ≤ out) : ((heads n m (stSt n rows out) : Nat) : Int) = (rows.map List.sum).sum + out := by
  unfold heads
  have e : sumTo n (fun f => sumTo m (stSt n rows out f)) = sumTo n fun f => sumTo m (cnt (rows.getD f [])) := sumTo_congr' fun f hf => by
    have : stSt n rows out f = cnt (rows.getD f []) := by
      funext x
      unfold stSt
      rw [if_pos hf]
    rw [this]
  rw [e, Int.natCast_add, rows_sum hl h]
  have : stSt n rows out n 0 = out.toNat := by
    unfold stSt
    rw [if_neg (Nat.lt_irrefl n), if_pos ⟨rfl, rfl⟩]
  rw [this]
  omega
/-! ### a late comer -/
/-- whoever comes to a floor of a standing at rest leads it on, one more out where somebody stands on each floor from there on -/
theorem late (B : Tabs n m S U) : ∀ (k : Nat) {c : St} {f a : Nat}, k + f = n → f < n → a < m → (∀ g, g < n → sumTo m (c g) ≤ 1) →
    ∃ d, Run n m S (outU n U) (c + one f a) d ∧ (∀ g, g < n → sumTo m (d g) ≤ 1) ∧ ((∀ g, f ≤ g → g < n → sumTo m (c g) = 1) → d n 0 = c n 0 + 1) ∧ (¬ (∀ g, f ≤ g → g < n → sumTo m (c g) = 1) → d n 0 = c n 0)
  | 0, c, f, a, e, hf, ha, hc => by omega
  | k + 1, c, f, a, e, hf, ha, hc => by
    have pl : ∀ (d : St) (g b : Nat), sumTo m ((d + one f b) g) = sumTo m (d g) + if g = f then sumTo m (one f b f) else 0 := fun d g b => by
      have : (d + one f b) g = fun x => d g x + one f b g x := rfl
      rw [this, sumTo_add]
      congr 1
      by_cases h : g = f
      · rw [if_pos h, h]
      · rw [if_neg h]
        have : one f b g = fun _ => 0 := by funext x; exact one_ne fun q => h q.1
        rw [this, sumTo_zero]
    by_cases h0 : sumTo m (c f) = 0
    · refine ⟨c + one f a, .nil _, fun g hg => ?_, ?_⟩
      · rw [pl]
        by_cases h : g = f
        · rw [if_pos h, sum_one ha, h, h0]
          exact Nat.le_refl _
        · rw [if_neg h]
          exact hc g hg
      · have h2 : (c + one f a) n 0 = c n 0 := by rw [add_at, one_ne (by omega), Nat.add_zero]
        exact ⟨fun q => by have := q f (Nat.le_refl _) hf; omega, fun _ => h2⟩
    · -- somebody stands there
      have h1 : sumTo m (c f) = 1 := by have := hc f hf; omega
      obtain ⟨b, hb, hb1⟩ : ∃ b, b < m ∧ 1 ≤ c f b := by
        have : ∀ j, sumTo j (c f) ≠ 0 → ∃ b, b < j ∧ 1 ≤ c f b := by
          intro j
          induction j with
          | zero => intro q; exact absurd rfl q
          | succ j ih =>
            intro q
            simp only [sumTo] at q
            by_cases z : c f j = 0
            · obtain ⟨b, q1, q2⟩ := ih (by omega)
              exact ⟨b, by omega, q2⟩
            · exact ⟨j, by omega, by omega⟩
        exact this m h0
      -- the rest without them
      let r : St := fun g x => c g x - one f b g x
      have er : c = r + one f b := by
        funext g x
        show c g x = (c g x - one f b g x) + one f b g x
        by_cases z : g = f ∧ x = b
        · obtain ⟨rfl, rfl⟩ := z
          rw [one_self]
          omega
        · rw [one_ne z]
          omega
      have hr : sumTo m (r f) = 0 := by
        have := pl r f b
        rw [← er, if_pos rfl, sum_one hb] at this
        omega
      have hrg : ∀ g, g ≠ f → sumTo m (r g) = sumTo m (c g) := fun g hg => by
        have := pl r g b
        rw [← er, if_neg hg] at this
        omega
      have st : Step n m S (outU n U) (c + one f a) (r + one f (S f b a) + one (f + 1) (outU n U f b a)) := ⟨r, f, b, a, hf, hb, ha, by rw [er], rfl⟩
      have hs := B.sm f b a hf hb ha
      have hc2 : ∀ g, g < n → sumTo m ((r + one f (S f b a)) g) = sumTo m (c g) := fun g hg => by
        rw [pl]
        by_cases h : g = f
        · rw [if_pos h, sum_one hs, h, hr, h1]
        · rw [if_neg h, hrg g h]
          omega
      have hn0 : (r + one f (S f b a)) n 0 = c n 0 := by
        show (c n 0 - one f b n 0) + one f (S f b a) n 0 = c n 0
        rw [one_ne (by omega), one_ne (by omega)]
        omega
      by_cases hn : f + 1 < n
      · have eu : outU n U f b a = U f b a := if_pos hn
        obtain ⟨d, q1, q2, q3⟩ := late B k (c := r + one f (S f b a)) (f := f + 1) (a := U f b a) (by omega) hn (B.um f b a hf hb ha) fun g hg => by rw [hc2 g hg]; exact hc g hg
        rw [← eu] at q1
        refine ⟨d, (Run.one st).trans q1, q2, ?_⟩
        rw [hn0] at q3
        refine ⟨fun z => q3.1 fun g h1' h2 => by rw [hc2 g h2]; exact z g (by omega) h2, fun z => q3.2 fun q => z fun g h1' h2 => ?_⟩
        by_cases hgf : g = f
        · rw [hgf]; exact h1
        · rw [← hc2 g h2]; exact q g (by omega) h2
      · have en : f + 1 = n := by omega
        have eu : outU n U f b a = 0 := if_neg hn
        rw [eu, en] at st
        refine ⟨_, .one st, fun g hg => ?_, ?_⟩
        · have : (r + one f (S f b a) + one n 0) g = fun x => (r + one f (S f b a)) g x + one n 0 g x := rfl
          rw [this, sumTo_add, hc2 g hg]
          have : one n 0 g = fun _ => 0 := by funext x; exact one_ne (by omega)
          rw [this, sumTo_zero]
          exact hc g hg
        · have h3 : (r + one f (S f b a) + one n 0) n 0 = c n 0 + 1 := by rw [add_at, hn0, one_self]
          exact ⟨fun _ => h3, fun z => absurd (fun g h1' h2 => by rw [show g = f by omega]; exact h1) z⟩
end
/-! ### numbers called otherwise, floor by floor -/
section
variable {n m : Nat} {S U S' U' : Nat → Nat → Nat → Nat} {cl bk : Nat → Nat → Nat}
def turnSt (n m : Nat) (bk : Nat → Nat → Nat) (c : St) : St := fun g x => if g < n then (if x < m then c g (bk g x) else 0) else c g x
theorem turn_add (c d : St) : turnSt n m bk (c + d) = turnSt n m bk c + turnSt n m bk d := by
  funext g x
  unfold turnSt
  simp only [add_at]
  by_cases h : g < n
  · rw [if_pos h, if_pos h, if_pos h]
    by_cases k : x < m
    · rw [if_pos k, if_pos k, if_pos k]
    · rw [if_neg k, if_neg k, if_neg k]
  · rw [if_neg h, if_neg h, if_neg h]
theorem turn_one (C : ∀ g, g < n → Calls m (cl g) (bk g)) {f a : Nat} (hf : f < n) (ha : a < m) : turnSt n m bk (one f a) = one f (cl f a) := by
  funext g x
  unfold turnSt
  by_cases hg : g < n
  · rw [if_pos hg]
    have K := C g hg
    by_cases hx : x < m
    · rw [if_pos hx]
      by_cases z : g = f
      · subst z
        rw [one_at, one_at, if_pos rfl, if_pos rfl]
        by_cases w : bk g x = a
        · rw [if_pos w, if_pos (by rw [← w, K.cb x hx])]
        · rw [if_neg w, if_neg (fun q => w (by rw [q, K.bc a ha]))]
      · rw [one_ne fun q => z q.1, one_ne fun q => z q.1]
    · rw [if_neg hx, one_ne]
      rintro ⟨rfl, rfl⟩
      exact hx (K.cm a ha)
  · rw [if_neg hg, one_ne (by omega), one_ne (by omega)]
theorem turn_out : turnSt n m bk (one n 0) = one n 0 := by
  funext g x
  unfold turnSt
  by_cases hg : g < n
  · rw [if_pos hg]
    by_cases hx : x < m
    · rw [if_pos hx, one_ne (by omega), one_ne (by omega)]
    · rw [if_neg hx, one_ne (by omega)]
  · rw [if_neg hg]
theorem turn_step (B : Tabs n m S U) (C : ∀ g, g < n → Calls m (cl g) (bk g)) (hS : ∀ f a b, f < n → a < m → b < m → S' f a b = cl f (S f (bk f a) (bk f b))) (hU : ∀ f a b, f + 1 < n → a < m → b < m → U' f a b = cl (f + 1) (U f (bk f a) (bk f b)))
    {c d : St} (h : Step n m S (outU n U) c d) : Step n m S' (outU n U') (turnSt n m bk c) (turnSt n m bk d) := by
  obtain ⟨e, f, a, b, hf, ha, hb, rfl, rfl⟩ := h
  have K := C f hf
  refine ⟨turnSt n m bk e, f, cl f a, cl f b, hf, K.cm a ha, K.cm b hb, ?_, ?_⟩
  · rw [turn_add, turn_add, turn_one C hf ha, turn_one C hf hb]
  · rw [turn_add, turn_add, turn_one C hf (B.sm f a b hf ha hb), hS f _ _ hf (K.cm a ha) (K.cm b hb), K.bc a ha, K.bc b hb]
    congr 1
    unfold outU
    by_cases hn : f + 1 < n
    · rw [if_pos hn, if_pos hn, turn_one C hn (B.um f a b hf ha hb), hU f _ _ hn (K.cm a ha) (K.cm b hb), K.bc a ha, K.bc b hb]
    · rw [if_neg hn, if_neg hn, show f + 1 = n by omega]
      exact turn_out
theorem turn_run (B : Tabs n m S U) (C : ∀ g, g < n → Calls m (cl g) (bk g)) (hS : ∀ f a b, f < n → a < m → b < m → S' f a b = cl f (S f (bk f a) (bk f b))) (hU : ∀ f a b, f + 1 < n → a < m → b < m → U' f a b = cl (f + 1) (U f (bk f a) (bk f b)))
    {c d : St} (h : Run n m S (outU n U) c d) : Run n m S' (outU n U') (turnSt n m bk c) (turnSt n m bk d) := by
  induction h with
  | nil => exact .nil _
  | cons s _ ih => exact .cons (turn_step B C hS hU s) ih
theorem turn_tri (B : Tabs n m S U) (T : Tri n m S U) (C : ∀ g, g < n → Calls m (cl g) (bk g)) (hS : ∀ f a b, f < n → a < m → b < m → S' f a b = cl f (S f (bk f a) (bk f b))) (hU : ∀ f a b, f + 1 < n → a < m → b < m → U' f a b = cl (f + 1) (U f (bk f a) (bk f b))) : Tri n m S' U' := by
  intro f x y z hf hx hy hz
  have K := C f hf
  have bx := K.bm x hx
  have by_ := K.bm y hy
  have bz := K.bm z hz
  obtain ⟨t1, t2, t3⟩ := T f _ _ _ hf bx by_ bz
  have sxy := B.sm f _ _ hf bx by_
  have sxz := B.sm f _ _ hf bx bz
  have e1 : S' f x y = cl f (S f (bk f x) (bk f y)) := hS f x y hf hx hy
  have e2 : S' f x z = cl f (S f (bk f x) (bk f z)) := hS f x z hf hx hz
  have b1 : bk f (S' f x y) = S f (bk f x) (bk f y) := by rw [e1, K.bc _ sxy]
  have b2 : bk f (S' f x z) = S f (bk f x) (bk f z) := by rw [e2, K.bc _ sxz]
  have m1 : S' f x y < m := by rw [e1]; exact K.cm _ sxy
  have m2 : S' f x z < m := by rw [e2]; exact K.cm _ sxz
  refine ⟨by rw [hS f _ z hf m1 hz, hS f _ y hf m2 hy, b1, b2, t1], fun h1 => ?_, fun h2 => ?_⟩
  · have K1 := C (f + 1) h1
    have u1 := B.um f _ _ hf bx by_
    have u2 := B.um f _ _ hf sxy bz
    have u3 := B.um f _ _ hf bx bz
    have u4 := B.um f _ _ hf sxz by_
    rw [hU f x y h1 hx hy, hU f _ z h1 m1 hz, hU f x z h1 hx hz, hU f _ y h1 m2 hy, b1, b2, hS (f + 1) _ _ h1 (K1.cm _ u1) (K1.cm _ u2), hS (f + 1) _ _ h1 (K1.cm _ u3) (K1.cm _ u4), K1.bc _ u1, K1.bc _ u2, K1.bc _ u3, K1.bc _ u4, t2 h1]
  · have h1 : f + 1 < n := by omega
    have K1 := C (f + 1) h1
    have u1 := B.um f _ _ hf bx by_
    have u2 := B.um f _ _ hf sxy bz
    have u3 := B.um f _ _ hf bx bz
    have u4 := B.um f _ _ hf sxz by_
    rw [hU f x y h1 hx hy, hU f _ z h1 m1 hz, hU f x z h1 hx hz, hU f _ y h1 m2 hy, b1, b2, hU (f + 1) _ _ h2 (K1.cm _ u1) (K1.cm _ u2), hU (f + 1) _ _ h2 (K1.cm _ u3) (K1.cm _ u4), K1.bc _ u1, K1.bc _ u2, K1.bc _ u3, K1.bc _ u4, t3 h2]
end
end FmC
end FFmLate
section FFmTupIx
set_option Elab.async false
set_option linter.all false
set_option maxRecDepth 100000
set_option maxHeartbeats 4000000
namespace Fm
open PySem PySem.Spec PySem.Calls PyProof.Rows L2 PySem.SeqAt
/-- t.index(k), a tuple of whole numbers, k among them -/
def rIxOfT (K : PySem.W.Frag) : V → List V → Hp → VK → Prop := fun x xs H Q => ∃ (a : Addr) (ns : List Int) (k : Int), x = V.ref a ∧ xs = [.int k] ∧ SqT K H a (ns.map V.int) ∧ k ∈ ns ∧ Q (.int (ns.idxOf k : Nat)) H
theorem mt_ixOfT {X : Cx} : MtR X "tuple.index" (rIxOfT X.K) := by
  intro pins s σ H x xs v us Q I rx rxs h
  obtain ⟨a, ns, k, rfl, rfl, hs, hk, q⟩ := h
  cases rx
  obtain ⟨u, rfl, ru⟩ := rxs.one
  obtain ⟨t, rfl⟩ := ru
  obtain ⟨its, rv, ht, _⟩ := I.tuple hs
  exact tuple_index_ints ht rv.ints hk ⟨.int (ns.idxOf k : Nat), H, I.tok _, ⟨_, rfl⟩, q⟩
theorem inI (k : Int) : ∀ r : List Int, inV (.int k) (r.map V.int) = decide (k ∈ r)
  | [] => rfl
  | x :: r => by
    have ih := inI k r
    unfold inV at ih ⊢
    rw [List.map_cons, List.any_cons, ih]
    have e : eqV (.int x) (.int k) = (x == k) := rfl
    rw [e]
    by_cases z : x = k
    · subst z
      rw [beq_self_eq_true, Bool.true_or, decide_eq_true List.mem_cons_self]
    · rw [beq_eq_false_iff_ne.mpr z, Bool.false_or]
      by_cases q : k ∈ r
      · rw [decide_eq_true q, decide_eq_true (List.mem_cons_of_mem _ q)]
      · rw [decide_eq_false q, decide_eq_false]
        intro w
        rcases List.mem_cons.mp w with w | w
        · exact z w.symm
        · exact q w
theorem flat_ints (r : List Int) : (r.map V.int).all flatV = true := by
  rw [List.all_eq_true]
  intro x hx
  obtain ⟨c, _, rfl⟩ := List.mem_map.mp hx
  rfl
end Fm
end FFmTupIx
section FFmDatR
set_option Elab.async false
set_option linter.all false
set_option maxRecDepth 100000
set_option maxHeartbeats 4000000
namespace Fm
open PySem PySem.Spec PySem.Calls PyProof.Rows L2
/-! ### tuples whose object is known (to have no dict) -/
def TupF (u : HO) (xs : List V) : Prop := ∃ o : Obj, u = .frz o (.tup xs) ∧ o.dict = none
def TupO (u : HO) (xs : List V) : Prop := u = .tup xs ∨ TupF u xs
theorem TupO.t {xs : List V} : TupO (.tup xs) xs := .inl rfl
theorem TupO.sq {K : PySem.W.Frag} {H : Hp} {a : Addr} {u : HO} {xs : List V} (t : TupO u xs) (h : H a = some u) : SqT K H a xs := by
  rcases t with rfl | ⟨o, rfl, _⟩
  · exact SqT.of h
  · exact .inl (.inr ⟨o, h⟩)
theorem TupO.ty {K : PySem.W.Frag} {H : Hp} {a : Addr} {u : HO} {xs : List V} (t : TupO u xs) (h : H a = some u) : TyX K H (.ref a) (.type "tuple") := by
  rcases t with rfl | ⟨o, rfl, _⟩
  · exact .base (.tup h)
  · exact .fTuple h
theorem TupO.notL {u : HO} {xs ys : List V} (t : TupO u xs) : u ≠ .lst ys := by
  rcases t with rfl | ⟨o, rfl, _⟩ <;> exact fun e => nomatch e
/-- rows of whole numbers, so known or not -/
def RowsP (T : HO → List V → Prop) (H : Hp) (xs : List V) (rows : List (List Int)) : Prop := xs.length = rows.length ∧ ∀ (i : Nat) (x : V) (r : List Int), xs[i]? = some x → rows[i]? = some r → ∃ b u, x = V.ref b ∧ H b = some u ∧ T u (r.map V.int)
/-- a standing: its rows so known or not -/
def StP (T : HO → List V → Prop) (H : Hp) (v : V) (rows : List (List Int)) (out : Int) : Prop := ∃ a xs, v = V.ref a ∧ H a = some (.tup (xs ++ [.int out])) ∧ RowsP T H xs rows
section
variable {T : HO → List V → Prop} {H H' : Hp} {xs : List V} {rows : List (List Int)} {v : V} {out : Int}
theorem RowsP.same (h : RowsP T H xs rows) (e : Same H H') : RowsP T H' xs rows := ⟨h.1, fun i x r a b => by
  obtain ⟨c, u, rfl, hc, t⟩ := h.2 i x r a b
  exact ⟨c, u, rfl, e _ _ hc, t⟩⟩
theorem StP.same (h : StP T H v rows out) (e : Same H H') : StP T H' v rows out := by
  obtain ⟨a, xs, rfl, ha, hx⟩ := h
  exact ⟨a, xs, rfl, e _ _ ha, hx.same e⟩
theorem RowsP.imp {T' : HO → List V → Prop} (h : RowsP T H xs rows) (f : ∀ u ys, T u ys → T' u ys) : RowsP T' H xs rows := ⟨h.1, fun i x r a b => by
  obtain ⟨c, u, rfl, hc, t⟩ := h.2 i x r a b
  exact ⟨c, u, rfl, hc, f _ _ t⟩⟩
theorem StP.imp {T' : HO → List V → Prop} (h : StP T H v rows out) (f : ∀ u ys, T u ys → T' u ys) : StP T' H v rows out := by
  obtain ⟨a, xs, rfl, ha, hx⟩ := h
  exact ⟨a, xs, rfl, ha, hx.imp f⟩
theorem StP.fo (h : StP TupF H v rows out) : StP TupO H v rows out := h.imp fun _ _ t => .inr t
theorem RowsP.nil : RowsP T H [] [] := ⟨rfl, fun _ _ _ a _ => by simp at a⟩
theorem RowsP.snoc {b : Addr} {u : HO} {r : List Int} (h : RowsP T H xs rows) (hb : H b = some u) (t : T u (r.map V.int)) : RowsP T H (xs ++ [.ref b]) (rows ++ [r]) := by
  refine ⟨by simp [h.1], fun i x e a b' => ?_⟩
  by_cases hi : i < xs.length
  · rw [List.getElem?_append_left hi] at a
    rw [List.getElem?_append_left (by rw [← h.1]; exact hi)] at b'
    exact h.2 i x e a b'
  · rw [List.getElem?_append_right (by omega)] at a
    rw [List.getElem?_append_right (by rw [← h.1]; omega)] at b'
    rw [h.1] at a
    cases e0 : i - rows.length with
    | zero =>
      rw [e0] at a b'
      simp at a b'
      subst a b'
      exact ⟨b, u, rfl, hb, t⟩
    | succ j =>
      rw [e0] at a
      simp at a
theorem RowsP.setL {L : Addr} {ys : List V} {o : HO} (h : RowsP TupO H xs rows) (hL : H L = some (.lst ys)) : RowsP TupO (upd H L o) xs rows := ⟨h.1, fun i x r a b => by
  obtain ⟨c, u, rfl, hc, t⟩ := h.2 i x r a b
  exact ⟨c, u, rfl, by rw [upd_ne (fun z => by rw [z, hL] at hc; cases hc; exact t.notL rfl)]; exact hc, t⟩⟩
theorem RowsP.setLF {L : Addr} {ys : List V} {o : HO} (h : RowsP TupF H xs rows) (hL : H L = some (.lst ys)) : RowsP TupF (upd H L o) xs rows := ⟨h.1, fun i x r a b => by
  obtain ⟨c, u, rfl, hc, t⟩ := h.2 i x r a b
  exact ⟨c, u, rfl, by rw [upd_ne (fun z => by rw [z, hL] at hc; cases hc; exact (show TupO _ _ from .inr t).notL rfl)]; exact hc, t⟩⟩
theorem RowsP.new {S : Addr} {o : HO} (h : RowsP T H xs rows) (hS : H S = none) : RowsP T (upd H S o) xs rows := h.same (same_new hS)
theorem RowsP.at {i : Nat} {x : V} (h : RowsP T H xs rows) (e : xs[i]? = some x) : ∃ r b u, rows[i]? = some r ∧ x = V.ref b ∧ H b = some u ∧ T u (r.map V.int) := by
  have hi : i < xs.length := (List.getElem?_eq_some_iff.mp e).1
  have hj : i < rows.length := by rw [← h.1]; exact hi
  obtain ⟨b, u, hx, hb, t⟩ := h.2 i x rows[i] e (List.getElem?_eq_getElem hj)
  exact ⟨rows[i], b, u, List.getElem?_eq_getElem hj, hx, hb, t⟩
theorem RowsP.back {i : Nat} {r : List Int} (h : RowsP T H xs rows) (e : rows[i]? = some r) : ∃ b u, xs[i]? = some (V.ref b) ∧ H b = some u ∧ T u (r.map V.int) := by
  have hj : i < rows.length := (List.getElem?_eq_some_iff.mp e).1
  have hi : i < xs.length := by rw [h.1]; exact hj
  obtain ⟨b, u, hx, hb, t⟩ := h.2 i xs[i] r (List.getElem?_eq_getElem hi) e
  exact ⟨b, u, by rw [List.getElem?_eq_getElem hi, hx], hb, t⟩
end
/-! ### tuple(list), its object told -/
def rTupF (K : PySem.W.Frag) : List V → Hp → VK → Prop := fun xs H Q => ∃ p ys, xs = [.ref p] ∧ SqL K H p ys ∧ ∀ l o, H l = none → o.dict = none → Q (.ref l) (upd H l (.frz o (.tup ys)))
theorem call_tupF {X : Cx} : CallR X (.type "tuple") (rTupF X.K) := by
  intro pins s σ H xs us Q I r h
  obtain ⟨p, ys, rfl, hq, q⟩ := h
  obtain ⟨u, rfl, rx⟩ := vals1 r
  cases rx
  obtain ⟨its, r', pl, hz⟩ := I.list hq
  have hlen := r'.length
  refine call_tuple_list pl.isList (fun h' kp => ?_) (by simp only [List.size_toArray] <;> omega)
  have I1 : Inv X pins σ H { s with heap := h' } := I.kept (t' := s.toks) kp
  have I2 : Inv X pins σ (upd H h'.objs.size (.frz { cls := .type "tuple", data := .seq its.toArray } (.tup ys))) { s with heap := h'.push { cls := .type "tuple", data := .seq its.toArray } } :=
    I1.laid (t' := s.toks) (fun b o e => Heap.get?_push_of_some _ e) (Nat.le_refl _) (show ObjOk X.prog X.w _ _ _ (.frz { cls := .type "tuple", data := .seq its.toArray } (.tup ys)) from ⟨Heap.get?_push_size _ rfl, hz, its, r', IsTup.new _ _⟩)
  exact ⟨.ref h'.objs.size, _, I2, rfl, q _ _ (I1.hok.fresh (Nat.le_refl _)) rfl⟩
/-- both at once: a list to a tuple, told or not -/
def rTupE (K : PySem.W.Frag) : List V → Hp → VK → Prop := fun xs H Q => rTupF K xs H Q ∨ rTupOf K xs H Q
theorem call_tupE {X : Cx} : CallR X (.type "tuple") (rTupE X.K) := call_tupF.or call_tupOf
theorem pi_tupK {X : Cx} {K : PySem.W.Frag} {tg l : Expr} {tl : TE} (e : X.K = K) (hl : PE X l tl) : PI X tg l (iTup K tl) := by
  subst e
  exact pi_tup hl
/-! ### a method of such a tuple -/
def tBMF (r : V → List V → Hp → VK → Prop) (to : TE) (t : TA) : TE := fun σ H Q => to σ H fun x H1 => (∃ p u xs, x = V.ref p ∧ H1 p = some u ∧ TupF u xs) ∧ t σ H1 fun xs H2 => r x xs H2 Q
theorem pe_bmF {X : Cx} {o e : Expr} {es : List Expr} {to : TE} {t : TA} {name : Str} {apos cpos : Pos} {id : String} {r : V → List V → Hp → VK → Prop} (pa : PlainAttrs "tuple") (slot : Slot "tuple" name id) (hty : typeOf (.builtin id) = pure (.type "method_descriptor")) (hm : MtR X id r) (ho : PE X o to) (ha : PA X (e :: es) t)
    (hbase : attributeBase o name X.env (eval o X.env) = eval o X.env := by rfl)
    (hfew : ((backTo cpos (starEach (e :: es) X.env)).all (fun x => !x.1) && (backToKw cpos (keywordEach [] X.env)).all (fun x => x.1.isSome)
      && decide ((e :: es).length + ([] : List Keyword).length + (if ([] : List Keyword).isEmpty then 0 else 1) < 30)) = true := by rfl)
    (hline : (apos.endLine == cpos.line) = true := by rfl) (hs : starEach (e :: es) X.env = (false, eval e X.env) :: starEach es X.env := by rfl) (hplain : (backTo cpos (starEach es X.env)).any (·.1) = false := by rfl) :
    PE X (.Call (.Attribute o name apos) (e :: es) [] cpos) (tBMF r to t) := by
  refine ⟨fun pins s σ H Q I h => ?_⟩
  refine wpAny_Call_method_late hbase hfew hline rfl (thn (ho.run pins s σ H _ I h) fun v s1 ⟨x, H1, I1, r1, ty, q1⟩ => ?_)
  obtain ⟨p, u, ys, rfl, hp, ob, rfl, hd⟩ := ty
  have r0 := r1
  cases r1
  obtain ⟨hg, _, its, _, ob', e', hc, n, _⟩ := (show ObjOk X.prog X.w H1 s1.heap p (.frz ob (.tup ys)) from I1.hok p _ hp)
  have h1 : s1.TypeIs (.ref p) "tuple" := ⟨ob', e', hc⟩
  have h2 : ∀ a, Value.ref p = .ref a → ∃ ob, s1.heap.get? a = some ob ∧ ob.dict = none := fun a e => by
    cases e
    exact ⟨ob, hg, hd⟩
  refine ⟨"tuple", id, pa, slot, hty, h1, h2, ?_⟩
  have hA := ha.run cpos pins s1 σ H1 _ I1 q1
  rw [hs] at hA ⊢
  refine Calls.callWith_builtin (by show (false || (backTo cpos (starEach es X.env)).any (·.1)) = false; rw [hplain] <;> rfl) (Calls.evalArgs_plain ?_)
  exact thn hA fun us s2 ⟨vs, H2, I2, r2, q2⟩ => hm pins s2 σ H2 (.ref p) vs (.ref p) us Q I2 r0 r2 q2
theorem pe_bmFK {X : Cx} {K : PySem.W.Frag} {o e : Expr} {es : List Expr} {to : TE} {t : TA} {name : Str} {apos cpos : Pos} {id : String} {r : PySem.W.Frag → V → List V → Hp → VK → Prop} (eK : X.K = K) (pa : PlainAttrs "tuple") (slot : Slot "tuple" name id) (hty : typeOf (.builtin id) = pure (.type "method_descriptor")) (hm : MtR X id (r X.K)) (ho : PE X o to) (ha : PA X (e :: es) t)
    (hbase : attributeBase o name X.env (eval o X.env) = eval o X.env := by rfl)
    (hfew : ((backTo cpos (starEach (e :: es) X.env)).all (fun x => !x.1) && (backToKw cpos (keywordEach [] X.env)).all (fun x => x.1.isSome)
      && decide ((e :: es).length + ([] : List Keyword).length + (if ([] : List Keyword).isEmpty then 0 else 1) < 30)) = true := by rfl)
    (hline : (apos.endLine == cpos.line) = true := by rfl) (hs : starEach (e :: es) X.env = (false, eval e X.env) :: starEach es X.env := by rfl) (hplain : (backTo cpos (starEach es X.env)).any (·.1) = false := by rfl) :
    PE X (.Call (.Attribute o name apos) (e :: es) [] cpos) (tBMF (r K) to t) := by
  subst eK
  exact pe_bmF pa slot hty hm ho ha hbase hfew hline hs hplain
end Fm
end FFmDatR
section FXJ
set_option Elab.async false
set_option linter.all false
set_option maxRecDepth 100000
set_option maxHeartbeats 4000000
local macro_rules | `(tactic| walk_at "ne") => `(tactic| first | assumption | (apply Ne.symm; assumption) | exact L2.ne_of_none (by assumption) (by assumption) | exact Ne.symm (L2.ne_of_none (by assumption) (by assumption)))
local macro_rules | `(tactic| walk_at "hl") => `(tactic| first | assumption | exact L2.upd_same | (refine Eq.trans (L2.upd_ne (by walk_at "ne")) ?_; walk_at "hl"))
local macro_rules | `(tactic| walk_at "sd") => `(tactic| first | (with_reducible show (_ : Int) < _; omega) | (with_reducible show (_ : Int) ≤ _; omega) | assumption | decide | exact ⟨by assumption, by assumption⟩ | exact ⟨by decide, by decide⟩ | exact Or.inr ⟨by decide, by decide⟩ | exact Or.inl ⟨by omega, by omega⟩ | rfl)
local macro_rules | `(tactic| walk_at "st1") => `(tactic| first
  | refine ⟨_, rfl, ?_⟩
  | refine ⟨_, _, rfl, rfl, ?_⟩
  | refine ⟨_, _, rfl, ?_⟩
  | (refine ⟨_, _, _, _, rfl, rfl, L2.SqL.of (by walk_at "hl"), rfl, ?_⟩)
  | (refine ⟨_, _, _, _, rfl, rfl, L2.SqT.of (by walk_at "hl"), rfl, ?_⟩)
  | (refine ⟨_, _, _, _, rfl, rfl, (by walk_at "hl"), rfl, ?_⟩)
  | (refine And.intro (by walk_at "sd") ?_)
  )
local macro_rules | `(tactic| walk_at "st") => `(tactic| repeat walk_at "st1")
local macro_rules | `(tactic| walk_at "op") => `(tactic| try dsimp only [L2.tSeq, L2.tAsg, L2.tOp, L2.tVar, L2.tC, L2.gSub, L2.rI, L2.rI0, L2.rIxL, L2.rIxT, L2.rSetL, L2.tIfS, L2.tTest, L2.tRet, L2.gName, L2.tNext, L2.tAnd, L2.tOr, L2.tNot, L2.tAndV, L2.tOrV, L2.tNotV, L2.tB, L2.tCB, L2.tCons, L2.tNil, L2.tCall, L2.tTup, L2.tLst, L2.tChain, L2.tUn, L2.tPar, L2.tDrop, L2.tIf, L2.tBM, L2.tBM0, L2.rAppend, L2.rCat, L2.rIsi, L2.rIsiT, L2.gTup, L2.gCons, L2.gNil, Fm.tFor_eq, Fm.tLc_eq, Fm.tLc2_eq, L2.iTup, L2.iList, L2.iRng1, L2.iRng2, L2.tSl, L2.tPart, L2.tNoPart, L2.rSlL, L2.rEq, L2.rNe, L2.rU, L2.rEqD, L2.rNeD, Fm.tRevT, Fm.rLenS, Fm.rTupOf, Fm.rLstOf, L2.tDNewK, L2.tCallS, L2.WE, Fm.wKeep, Fm.rIsK, Fm.rIsKT, List.cons_append, List.nil_append, L2.tYes])
namespace Fm
open PySem PySem.Spec PyProof.Rows L2
abbrev s_law_joined : Stmt := top 46
abbrev N_law_joined : List Str := ["house", "one", "other", "heaps", "number", "pair"]
theorem sc_law_joined : FnScope N_law_joined ["house", "one", "other"] (defScope s_law_joined) := ⟨rfl, rfl, rfl, by decide +kernel, rfl, by decide +kernel, by decide +kernel⟩
section
variable {P : Program} {w : World} {K : PySem.W.Frag} {mg : Str → Option Value} {base : Heap}
/-! ### two rests together -/
def joinO (os1 os2 : List (Option Nat)) : List (List Nat) := List.zipWith (fun a b => [a, b].filterMap id) os1 os2
theorem joinO_mem {os1 os2 : List (Option Nat)} {h : List Nat} (hh : h ∈ joinO os1 os2) : ∃ o1, o1 ∈ os1 ∧ ∃ o2, o2 ∈ os2 ∧ h = [o1, o2].filterMap id := by
  obtain ⟨j, hj⟩ := List.getElem?_of_mem hh
  unfold joinO at hj
  rw [List.getElem?_zipWith] at hj
  cases e1 : os1[j]? with
  | none => rw [e1] at hj; cases hj
  | some o1 =>
    cases e2 : os2[j]? with
    | none => rw [e1, e2] at hj; cases hj
    | some o2 =>
      rw [e1, e2] at hj
      cases hj
      exact ⟨o1, List.mem_of_getElem? e1, o2, List.mem_of_getElem? e2, rfl⟩
def endR (m : Nat) (o : Option Nat) : List Int := (List.range m).map fun k : Nat => if o = some k then 1 else 0
theorem endR_snoc (m : Nat) (o : Option Nat) : endR (m + 1) o = endR m o ++ [if o = some m then 1 else 0] := by unfold endR; rw [List.range_succ, List.map_append]; rfl
/-- a rest as a state -/
def rsSt (n m : Nat) (os : List (Option Nat)) (o : Nat) : FmC.St := FmC.stSt n (os.map (endR m)) ((o : Nat) : Int)
theorem cnt_endR {m : Nat} {o : Option Nat} (a : Nat) : FmC.cnt (endR m o) a = if a < m ∧ o = some a then 1 else 0 := by
  unfold FmC.cnt endR
  rw [List.getD_eq_getElem?_getD, List.getElem?_map]
  by_cases h : a < m
  · rw [List.getElem?_range h]
    show (if o = some a then (1 : Int) else 0).toNat = _
    by_cases z : o = some a
    · rw [if_pos z, if_pos ⟨h, z⟩]; rfl
    · rw [if_neg z, if_neg (fun q => z q.2)]; rfl
  · rw [List.getElem?_eq_none (by rw [List.length_range]; omega), if_neg (fun q => h q.1)]
    rfl
theorem rs_lt {n m : Nat} {os : List (Option Nat)} {o g a : Nat} (hg : g < n) : rsSt n m os o g a = FmC.cnt ((os.map (endR m)).getD g []) a := by unfold rsSt FmC.stSt; rw [if_pos hg]
theorem rs_at {n m : Nat} {os : List (Option Nat)} {o g a : Nat} {x : Option Nat} (hg : g < n) (e : os[g]? = some x) : rsSt n m os o g a = if a < m ∧ x = some a then 1 else 0 := by
  rw [rs_lt hg, List.getD_eq_getElem?_getD, List.getElem?_map, e, ← cnt_endR]
  rfl
theorem rs_ge {n m : Nat} {os : List (Option Nat)} {o g a : Nat} (hg : ¬ g < n) : rsSt n m os o g a = if g = n ∧ a = 0 then o else 0 := by unfold rsSt FmC.stSt; rw [if_neg hg, Int.toNat_natCast]
theorem count_two (x1 x2 : Option Nat) (a : Nat) : List.count a ([x1, x2].filterMap id) = (if x1 = some a then 1 else 0) + (if x2 = some a then 1 else 0) := by
  cases x1 <;> cases x2 <;> simp [List.count_cons, List.filterMap_cons, Nat.add_comm]
theorem join_st {n m : Nat} {os1 os2 : List (Option Nat)} {o1 o2 : Nat} (l1 : os1.length = n) (l2 : os2.length = n) (lt1 : ∀ a, some a ∈ os1 → a < m) (lt2 : ∀ a, some a ∈ os2 → a < m) : FmC.hsSt n (joinO os1 os2 ++ [[]]) (o1 + o2) = rsSt n m os1 o1 + rsSt n m os2 o2 := by
  have hjl : (joinO os1 os2).length = n := by
    unfold joinO
    rw [List.length_zipWith, l1, l2, Nat.min_self]
  funext g a
  rw [FmC.add_at]
  by_cases hg : g < n
  · have e1 : os1[g]? = some os1[g] := List.getElem?_eq_getElem (by omega)
    have e2 : os2[g]? = some os2[g] := List.getElem?_eq_getElem (by omega)
    have ej : (joinO os1 os2)[g]? = some ([os1[g], os2[g]].filterMap id) := by
      unfold joinO
      rw [List.getElem?_zipWith, e1, e2]
    have q1 : os1[g] = some a → a < m := fun e => lt1 a (e ▸ List.getElem_mem (by omega))
    have q2 : os2[g] = some a → a < m := fun e => lt2 a (e ▸ List.getElem_mem (by omega))
    rw [rs_at hg e1, rs_at hg e2]
    unfold FmC.hsSt
    rw [if_pos hg, List.getD_eq_getElem?_getD, List.getElem?_append_left (by omega), ej]
    show List.count a ([os1[g], os2[g]].filterMap id) = _
    rw [count_two]
    have z : ∀ {x : Option Nat}, (x = some a → a < m) → (if x = some a then 1 else 0) = if a < m ∧ x = some a then 1 else 0 := fun {x} q => by
      by_cases h : x = some a
      · rw [if_pos h, if_pos ⟨q h, h⟩]
      · rw [if_neg h, if_neg (fun k => h k.2)]
    rw [z q1, z q2]
  · rw [rs_ge hg, rs_ge hg]
    unfold FmC.hsSt
    rw [if_neg hg]
    have e0 : (joinO os1 os2 ++ [[]]).getD n [] = [] := by
      rw [List.getD_eq_getElem?_getD, List.getElem?_append_right (by omega), hjl, Nat.sub_self]
      rfl
    rw [e0]
    by_cases h : g = n ∧ a = 0
    · rw [if_pos h, if_pos h, if_pos h]
      rfl
    · rw [if_neg h, if_neg h, if_neg h]
theorem rest_st {n m : Nat} {hs : List (List Nat)} {o : Nat} (hl : hs.length = n + 1) (hm : ∀ h ∈ hs, ∀ x ∈ h, x < m) (h1 : ∀ f, f < n → (hs.getD f []).length ≤ 1) : FmC.hsSt n hs o = rsSt n m ((hs.take n).map List.head?) (o + (hs.getD n []).length) := FmC.hs_end hl hm h1
def nS (k : Nat) (c : FmC.St) : FmC.St := fun f a => k * c f a
theorem nS_add (d k : Nat) (c : FmC.St) : nS d c + nS k c = nS (d + k) c := by
  funext f a
  rw [FmC.add_at]
  unfold nS
  rw [Nat.add_mul]
theorem nS_one (c : FmC.St) : nS 1 c = c := by
  funext f a
  unfold nS
  rw [Nat.one_mul]
theorem nS_zero (c : FmC.St) (n m : Nat) : nS 0 c = rsSt n m (List.replicate n none) 0 := by
  funext g a
  unfold nS
  rw [Nat.zero_mul]
  by_cases hg : g < n
  · rw [rs_at hg (by rw [List.getElem?_replicate, if_pos hg]), if_neg (fun z => by cases z.2)]
  · rw [rs_ge hg]
    split <;> rfl
def RunR (fs : List PyData) (m n : Nat) : FmC.St → FmC.St → Prop := FmC.Run n m (goN fs 0) (FmC.outU n (goN fs 1))
/-- a rest that stands in the store -/
structure RestAt (H : Hp) (T : Addr) (m n : Nat) (os : List (Option Nat)) (o : Nat) : Prop where
  at_ : ∃ L, H T = some (.tup [.ref L, .int ((o : Nat) : Int)]) ∧ H L = some (.lst (os.map optV))
  len : os.length = n
  lt : ∀ a, some a ∈ os → a < m
theorem RestAt.same {H H' : Hp} {T : Addr} {m n : Nat} {os : List (Option Nat)} {o : Nat} (h : RestAt H T m n os o) (e : Same H H') : RestAt H' T m n os o := by
  obtain ⟨L, h1, h2⟩ := h.at_
  exact ⟨⟨L, e _ _ h1, e _ _ h2⟩, h.len, h.lt⟩
def spJoined : Sp := fun vs H Q _ => ∃ (p ph T1 T2 : Addr) (u : HO) (hv : V) (fs : List PyData) (m n : Nat) (os1 os2 : List (Option Nat)) (o1 o2 : Nat), vs = [hv, .ref T1, .ref T2] ∧ H p = some u ∧ Dat H ph hv (.tuple fs) ∧ HouseN m n (.tuple fs) ∧ RestAt H T1 m n os1 o1 ∧ RestAt H T2 m n os2 o2 ∧
  ∀ (T : Addr) (os : List (Option Nat)) (o : Nat) H', RestAt H' T m n os o → RunR fs m n (rsSt n m os1 o1 + rsSt n m os2 o2) (rsSt n m os o) → Same H H' → Q (.ref T) H'
theorem ok_law_joined (D : Df K mg "_law_joined" s_law_joined ["house", "one", "other"]) (T : Nms mg) (c_law_rest : CallOk P w K mg base CX0 1 "_law_rest" ["house", "heaps", "out"] spRestL) : CallOk P w K mg base CX0 2 "_law_joined" ["house", "one", "other"] spJoined := by
  refine df_ok D sc_law_joined (fun vs H Q E h => ?_) (fun f cdv A outer s H vs Q E hr h => ?_)
  · obtain ⟨p, ph, T1, T2, u, hv, fs, m, n, os1, os2, o1, o2, rfl, _⟩ := h
    rfl
  · obtain ⟨p, ph, T1, T2, u, hv, fs, m, n, os1, os2, o1, o2, rfl, hp, hD, hN, hR1, hR2, k⟩ := h
    have nd := sc_law_joined.nd
    obtain ⟨⟨L1, hT1, hL1⟩, l1, lt1⟩ := hR1
    obtain ⟨⟨L2, hT2, hL2⟩, l2, lt2⟩ := hR2
    refine ⟨_, (pss_cons (ps_setLz (i := 3) (own := [("pair", 5)]) (g := (gName 5)) (by rfl) nd rfl rfl (sw_true rfl rfl rfl (by decide +kernel)) (by rfl) T.n_zip (pa_cons (pe_ix (r := rIxT K) ix_tup (pv 1) pe_int (fun _ _ => rfl)) (pa_cons (pe_ix (r := rIxT K) ix_tup (pv 2) pe_int (fun _ _ => rfl)) pa_nil)) (blkOk_by (own := [("pair", 5)]) (N := N_law_joined) (sc := defScope s_law_joined) (by decide +kernel)) (fun _ _ _ _ _ => (pg_name (i := 5) nd rfl (Or.inl rfl))) (fun _ _ _ _ _ => (pe_lc (own := [("number", 4)]) (g := (gName 4)) (by rfl) nd (pi_tupK (K := K) rfl (pv 5)) (blkOk_by (own := [("number", 4)]) (N := N_law_joined) (sc := relS _ (defScope s_law_joined)) (by decide +kernel)) (fun _ _ _ _ _ => (pg_name (i := 4) nd rfl (Or.inl rfl))) (fun _ _ _ _ _ => (pts_one (pt_cmpR op_notN (pv 4) pe_non (nomark _)))) (fun _ _ _ _ _ => (pv 4)))))
      (pss_one (ps_ret (pe_cc c_law_rest (hr.mono (by omega)) (pa_cons (pv 0) (pa_cons (pv 3) (pa_cons (pe_op op_add (pe_ix (r := rIxT K) ix_tup (pv 1) pe_int (fun _ _ => rfl)) (pe_ix (r := rIxT K) ix_tup (pv 2) pe_int (fun _ _ => rfl))) pa_nil))))))), ?_⟩
    walk_at "op"
    dsimp only [tLcZ]
    walk_at "op"
    have hmn : 1 ≤ n ∧ n ≤ 4 ∧ 1 ≤ m ∧ m ≤ 6 := by
      obtain ⟨_, _, _, z1, z2, z3, z4, _⟩ := hN
      exact ⟨z1, z2, z3, z4⟩
    have hjl : (joinO os1 os2).length = n := by
      unfold joinO
      rw [List.length_zipWith, l1, l2, Nat.min_self]
    refine ⟨_, rfl, T1, _, 0, _, rfl, rfl, SqT.of hT1, rfl, _, rfl, T2, _, 0, _, rfl, rfl, SqT.of hT2, rfl, L1, L2, _, _, rfl, SqL.of hL1, SqL.of hL2, fun D1 hD1 => ?_⟩
    refine ⟨fun j G => Same H G ∧ ∃ ws, LL G p D1 ws (((joinO os1 os2).take j).map castL), ⟨same_new hD1, [], LL.nil upd_same⟩, fun j G _ ⟨e, _⟩ => ⟨SqL.of (e _ _ hL1), SqL.of (e _ _ hL2)⟩, ?_, ?_⟩
    · rintro j x y G t hx hy ⟨sG, ws, hLL⟩ ht
      rw [List.getElem?_map] at hx hy
      obtain ⟨x1, e1, rfl⟩ : ∃ x1, os1[j]? = some x1 ∧ x = optV x1 := by
        cases e : os1[j]? with
        | none => rw [e] at hx; cases hx
        | some c => rw [e] at hx; cases hx; exact ⟨c, rfl, rfl⟩
      obtain ⟨x2, e2, rfl⟩ : ∃ x2, os2[j]? = some x2 ∧ y = optV x2 := by
        cases e : os2[j]? with
        | none => rw [e] at hy; cases hy
        | some c => rw [e] at hy; cases hy; exact ⟨c, rfl, rfl⟩
      have ej : (joinO os1 os2)[j]? = some ([x1, x2].filterMap id) := by
        unfold joinO
        rw [List.getElem?_zipWith, e1, e2]
      have st := same_new (o := .tup [optV x1, optV x2]) ht
      have ht1 : upd G t (.tup [optV x1, optV x2]) t = some (.tup [optV x1, optV x2]) := upd_same
      have s1 := sG.trans st
      have hLL1 := hLL.same st
      have htK : ∀ G', Same (upd G t (.tup [optV x1, optV x2])) G' → KeepsT (upd G t (.tup [optV x1, optV x2])) G' := fun G' e c zs q => e c _ q
      generalize upd G t (.tup [optV x1, optV x2]) = G1 at *
      walk_at "op"
      refine ⟨rfl, ?_⟩
      refine ⟨_, rfl, t, rfl, ⟨_, SqT.of ht1⟩, fun R hR => ?_⟩
      refine lI walk_tup (fun i G => Same G1 G ∧ G R = some (.lst ((castL (([x1, x2].take i).filterMap id)).map V.int))) ⟨same_new hR, upd_same⟩ (fun _ _ _ ⟨e, _⟩ => SqT.of (e _ _ ht1)) ?_ ?_
      · rintro i x _ G hi ⟨sG', hRG⟩ ⟨rfl, hxi⟩
        have hi2 : i < [x1, x2].length := hi
        have hgo : [x1, x2][i]? = some [x1, x2][i] := List.getElem?_eq_getElem hi2
        have ex : x = optV [x1, x2][i] := by
          have : ([x1, x2].map optV)[i]? = some x := hxi
          rw [List.getElem?_map, hgo] at this
          cases this
          rfl
        have htk := tk_snoc hgo
        generalize [x1, x2][i] = o at *
        subst ex
        walk_at "op"
        refine ⟨rfl, _, rfl, rfl, ?_⟩
        cases o with
        | none =>
          refine ⟨false, rfl, ?_⟩
          rw [if_neg (by decide)]
          refine ⟨sG', ?_⟩
          rw [htk, List.filterMap_append, show List.filterMap id [(none : Option Nat)] = [] from rfl, List.append_nil]
          exact hRG
        | some a =>
          refine ⟨true, rfl, ?_⟩
          rw [if_pos rfl]
          refine ⟨_, rfl, _, hRG, ?_, sameOff sG' hR, ?_⟩
          · rw [cast_len]
            have z1 := List.length_filterMap_le id (List.take i [x1, x2])
            have z2 := List.length_take_le i [x1, x2]
            have z3 : [x1, x2].length = 2 := rfl
            exact Nat.lt_of_le_of_lt (show _ ≤ 2 by omega) (by rw [sizeLine_eq]; omega)
          · rw [upd_same]
            show some (HO.lst (_ ++ [V.int ((a : Nat) : Int)])) = _
            rw [cast_snoc, htk, List.filterMap_append]
            rfl
      · rintro G ⟨sG', hRG⟩
        rw [show [optV x1, optV x2].length = [x1, x2].length from rfl, List.take_length] at hRG
        have hLL2 := hLL1.same sG'
        have wl : ws.length ≤ 4 := by
          rw [hLL.len, List.length_map, List.length_take]
          omega
        refine ⟨ws, hLL2.at_, Nat.lt_of_le_of_lt wl (by rw [sizeLine_eq]; omega), fun c zs q => ?_, sameOff (s1.trans sG') hD1, ws ++ [.ref R], ?_⟩
        · rw [upd_ne (ne_of q hLL1.at_ (fun z => by cases z))]
          exact sG' _ _ q
        · rw [tk_snoc ej, List.map_append]
          exact hLL2.snoc hRG (ne_of_none hLL1.at_ hR).symm (ne_of_none (s1 _ _ hp) hR).symm
    · rintro G ⟨sG, ws, hLL⟩
      rw [List.length_map, List.length_map, l1, l2, Nat.min_self, ← hjl, List.take_length] at hLL
      walk_at "op"
      refine ⟨_, rfl, _, rfl, _, rfl, T1, _, 1, _, rfl, rfl, SqT.of (sG _ _ hT1), rfl, _, rfl, T2, _, 1, _, rfl, rfl, SqT.of (sG _ _ hT2), rfl, _, _, rfl, rfl, ?_⟩
      rw [← Int.natCast_add]
      refine ⟨p, ph, D1, u, hv, fs, m, n, o1 + o2, ws, joinO os1 os2, rfl, sG _ _ hp, hD.same sG, hN, hLL, hjl, ?_, fun T' R' os hs G' hT' hR' hos hhs hall hlow hrun s' => ?_⟩
      · intro h hh
        obtain ⟨x1, h1, x2, h2, rfl⟩ := joinO_mem hh
        refine ⟨Nat.le_trans (List.length_filterMap_le _ _) (show 2 ≤ 60 by decide), fun x hx => ?_⟩
        rw [List.mem_filterMap] at hx
        obtain ⟨o, ho, e⟩ := hx
        have e' : o = some x := e
        subst e'
        rcases List.mem_cons.mp ho with rfl | ho
        · exact lt1 x h1
        · rw [List.mem_singleton] at ho
          subst ho
          exact lt2 x h2
      · have hrun' := hrun
        rw [join_st l1 l2 lt1 lt2, rest_st hhs (fun h hh => (hall h hh).2) hlow, ← hos] at hrun'
        refine k T' os _ G' ⟨⟨R', hT', hR'⟩, ?_, fun a ha => ?_⟩ hrun' (sG.trans s')
        · rw [hos, List.length_map, List.length_take]
          omega
        · rw [hos] at ha
          obtain ⟨h, hh, e⟩ := List.mem_map.mp ha
          have hh' := List.mem_of_mem_take hh
          cases h with
          | nil => cases e
          | cons y l =>
            cases e
            exact (hall _ hh').2 _ List.mem_cons_self
end
end Fm
end FXJ
section FXT
set_option Elab.async false
set_option linter.all false
set_option maxRecDepth 100000
set_option maxHeartbeats 4000000
local macro_rules | `(tactic| walk_at "ne") => `(tactic| first | assumption | (apply Ne.symm; assumption) | exact L2.ne_of_none (by assumption) (by assumption) | exact Ne.symm (L2.ne_of_none (by assumption) (by assumption)))
local macro_rules | `(tactic| walk_at "hl") => `(tactic| first | assumption | exact L2.upd_same | (refine Eq.trans (L2.upd_ne (by walk_at "ne")) ?_; walk_at "hl"))
local macro_rules | `(tactic| walk_at "sd") => `(tactic| first | (with_reducible show (_ : Int) < _; omega) | (with_reducible show (_ : Int) ≤ _; omega) | assumption | decide | exact ⟨by assumption, by assumption⟩ | exact ⟨by decide, by decide⟩ | exact Or.inr ⟨by decide, by decide⟩ | exact Or.inl ⟨by omega, by omega⟩ | rfl)
local macro_rules | `(tactic| walk_at "st1") => `(tactic| first
  | refine ⟨_, rfl, ?_⟩
  | refine ⟨_, _, rfl, rfl, ?_⟩
  | refine ⟨_, _, rfl, ?_⟩
  | (refine ⟨_, _, _, _, rfl, rfl, L2.SqL.of (by walk_at "hl"), rfl, ?_⟩)
  | (refine ⟨_, _, _, _, rfl, rfl, L2.SqT.of (by walk_at "hl"), rfl, ?_⟩)
  | (refine ⟨_, _, _, _, rfl, rfl, (by walk_at "hl"), rfl, ?_⟩)
  | (refine And.intro (by walk_at "sd") ?_)
  )
local macro_rules | `(tactic| walk_at "st") => `(tactic| repeat walk_at "st1")
local macro_rules | `(tactic| walk_at "op") => `(tactic| try dsimp only [L2.tSeq, L2.tAsg, L2.tOp, L2.tVar, L2.tC, L2.gSub, L2.rI, L2.rI0, L2.rIxL, L2.rIxT, L2.rSetL, L2.tIfS, L2.tTest, L2.tRet, L2.gName, L2.tNext, L2.tAnd, L2.tOr, L2.tNot, L2.tAndV, L2.tOrV, L2.tNotV, L2.tB, L2.tCB, L2.tCons, L2.tNil, L2.tCall, L2.tTup, L2.tLst, L2.tChain, L2.tUn, L2.tPar, L2.tDrop, L2.tIf, L2.tBM, L2.tBM0, L2.rAppend, L2.rCat, L2.rIsi, L2.rIsiT, L2.gTup, L2.gCons, L2.gNil, Fm.tFor_eq, Fm.tLc_eq, Fm.tLc2_eq, L2.iTup, L2.iList, L2.iRng1, L2.iRng2, L2.tSl, L2.tPart, L2.tNoPart, L2.rSlL, L2.rEq, L2.rNe, L2.rU, L2.rEqD, L2.rNeD, Fm.tRevT, Fm.rLenS, Fm.rTupOf, Fm.rLstOf, L2.tDNewK, L2.tCallS, L2.WE, Fm.wKeep, Fm.rIsK, Fm.rIsKT, List.cons_append, List.nil_append, L2.tYes])
namespace Fm
open PySem PySem.Spec PyProof.Rows L2
abbrev s_law_times : Stmt := top 48
abbrev N_law_times : List Str := ["house", "some", "many", "found"]
theorem sc_law_times : FnScope N_law_times ["house", "some", "many"] (defScope s_law_times) := ⟨rfl, rfl, rfl, by decide +kernel, rfl, by decide +kernel, by decide +kernel⟩
section
variable {P : Program} {w : World} {K : PySem.W.Frag} {mg : Str → Option Value} {base : Heap}
/-! ### as many of the same -/
theorem run_both {fs : List PyData} {m n : Nat} {a b c d : FmC.St} (h : RunR fs m n a b) (k : RunR fs m n c d) : RunR fs m n (a + c) (b + d) := FmC.Run.both h k
theorem run_trans {fs : List PyData} {m n : Nat} {a b c : FmC.St} (h : RunR fs m n a b) (k : RunR fs m n b c) : RunR fs m n a c := FmC.Run.trans h k
theorem run_nil {fs : List PyData} {m n : Nat} (a : FmC.St) : RunR fs m n a a := FmC.Run.nil a
def spTimes : Sp := fun vs H Q _ => ∃ (p ph T1 : Addr) (u : HO) (hv : V) (fs : List PyData) (m n : Nat) (os1 : List (Option Nat)) (o1 N : Nat) (x : FmC.St), vs = [hv, .ref T1, .int ((N : Nat) : Int)] ∧ H p = some u ∧ Dat H ph hv (.tuple fs) ∧ HouseN m n (.tuple fs) ∧ RestAt H T1 m n os1 o1 ∧ RunR fs m n x (rsSt n m os1 o1) ∧
  ∀ (T : Addr) (os : List (Option Nat)) (o : Nat) H', RestAt H' T m n os o → RunR fs m n (nS N x) (rsSt n m os o) → Same H H' → Q (.ref T) H'
theorem ok_law_times (D : Df K mg "_law_times" s_law_times ["house", "some", "many"]) (T : Nms mg) (c_law_joined : CallOk P w K mg base CX0 2 "_law_joined" ["house", "one", "other"] spJoined) : CallOk P w K mg base CX0 3 "_law_times" ["house", "some", "many"] spTimes := by
  refine df_ok D sc_law_times (fun vs H Q E h => ?_) (fun f cdv A outer s H vs Q E hr h => ?_)
  · obtain ⟨p, ph, T1, u, hv, fs, m, n, os1, o1, N, x, rfl, _⟩ := h
    rfl
  · obtain ⟨p, ph, T1, u, hv, fs, m, n, os1, o1, N, x, rfl, hp, hD, hN, hR1, hx, k⟩ := h
    have nd := sc_law_times.nd
    have hmn : 1 ≤ n ∧ n ≤ 4 ∧ 1 ≤ m ∧ m ≤ 6 := by
      obtain ⟨_, _, _, z1, z2, z3, z4, _⟩ := hN
      exact ⟨z1, z2, z3, z4⟩
    obtain ⟨ah, hsv, rfl, hah, nah, hh⟩ := id hD.isTup
    have hhn : hsv.length = n := by
      rw [hh.1]
      obtain ⟨_, e, z, _⟩ := hN
      cases e
      exact z
    refine ⟨_, (pss_cons (ps_set (i := 3) nd rfl (Or.inl rfl) (pe_tup (pa_cons (pe_op op_rep (pe_lst (pa_cons pe_non pa_nil)) (pe_callB (r := rLenS K) call_lenS (by rfl) T.n_len (by decide +kernel) (pa_cons (pv 0) pa_nil))) (pa_cons pe_int pa_nil))))
      (pss_cons (ps_while PassesOwn.never (pt_cmpR op_gt (pv 2) pe_int (nomark _)) (pss_cons (ps_if (pt_cmpR op_eq (pe_op op_mod (pv 2) pe_int) pe_int (nomark _)) (pss_one (ps_set (i := 3) nd rfl (Or.inl rfl) (pe_cc c_law_joined (hr.mono (by omega)) (pa_cons (pv 0) (pa_cons (pv 3) (pa_cons (pv 1) pa_nil)))))) pss_nil)
      (pss_cons (ps_set (i := 1) nd rfl (Or.inl rfl) (pe_cc c_law_joined (hr.mono (by omega)) (pa_cons (pv 0) (pa_cons (pv 1) (pa_cons (pv 1) pa_nil)))))
      (pss_one (ps_set (i := 2) nd rfl (Or.inl rfl) (pe_op op_fdivW (pv 2) pe_int))))))
      (pss_one (ps_ret (pv 3))))), ?_⟩
    walk_at "op"
    refine ⟨by show 1 ≤ sizeLine; decide, fun L0 hL0 => ?_⟩
    have s0 := same_new (o := .lst [V.non]) hL0
    refine ⟨_, rfl, ah, hsv, rfl, .inr (SqT.of (s0 _ _ hah)), ?_⟩
    rw [hhn]
    refine ⟨_, _, _, rfl, rfl, upd_same, by omega, by omega, by rw [Int.toNat_natCast]; exact Nat.le_of_lt (Nat.lt_of_le_of_lt (show 1 * n ≤ 4 by omega) (by rw [sizeLine_eq]; omega)), fun L1 hL1 => ?_⟩
    have efl : (List.replicate ((n : Int)).toNat [V.non]).flatten = ((List.replicate n (none : Option Nat)).map optV) := by
      rw [Int.toNat_natCast, List.map_replicate, List.flatten_replicate_singleton]
      rfl
    rw [efl]
    have s1 := same_new (o := .lst ((List.replicate n (none : Option Nat)).map optV)) hL1
    have hL1' : upd (upd H L0 (.lst [V.non])) L1 (.lst ((List.replicate n (none : Option Nat)).map optV)) L1 = some (.lst ((List.replicate n (none : Option Nat)).map optV)) := upd_same
    have s01 := s0.trans s1
    generalize upd (upd H L0 (.lst [V.non])) L1 (.lst ((List.replicate n (none : Option Nat)).map optV)) = H2 at *
    refine ⟨by show 2 ≤ sizeLine; decide, fun F0 hF0 => ?_⟩
    have s2 := same_new (o := .tup [V.ref L1, V.int 0]) hF0
    have s02 := s01.trans s2
    have hF : RestAt (upd H2 F0 (.tup [V.ref L1, V.int 0])) F0 m n (List.replicate n none) 0 := ⟨⟨L1, upd_same, s2 _ _ hL1'⟩, List.length_replicate, fun a ha => by cases (List.mem_replicate.mp ha).2⟩
    have hR1' := hR1.same s02
    generalize upd H2 F0 (.tup [V.ref L1, V.int 0]) = H3 at *
    have z0 : RunR fs m n (nS 0 x) (rsSt n m (List.replicate n none) 0) := by
      rw [← nS_zero x n m]
      exact run_nil _
    have z1 : RunR fs m n (nS 1 x) (rsSt n m os1 o1) := by
      rw [nS_one]
      exact hx
    refine ⟨fun μ σ G => ∃ (Tf Ts : Addr) (osf oss : List (Option Nat)) (of os d c : Nat), σ = [some (.ref ah), some (.ref Ts), some (.int ((μ : Nat) : Int)), some (.ref Tf)] ∧ Same H G ∧ RestAt G Tf m n osf of ∧ RestAt G Ts m n oss os ∧ RunR fs m n (nS d x) (rsSt n m osf of) ∧ RunR fs m n (nS c x) (rsSt n m oss os) ∧ d + c * μ = N ∧ μ ≤ N,
      ⟨N, F0, T1, _, _, 0, o1, 0, 1, rfl, s02, hF, hR1', z0, z1, by omega, Nat.le_refl _⟩, ?_⟩
    clear hF hR1' z0 z1 s0 s1 s2 s01 s02 hL0 hL1 hF0 hL1'
    rintro μ σ G ⟨Tf, Ts, osf, oss, of, os, d, c, rfl, sG, hf, hs, rf, rs, hdc, hμ⟩
    walk_at "op"
    refine ⟨_, rfl, _, _, rfl, rfl, ?_⟩
    refine ⟨decide (0 < ((μ : Nat) : Int)), rfl, ?_⟩
    by_cases hμ0 : 0 < μ
    · rw [if_pos (decide_eq_true (by omega))]
      refine ⟨_, fun σ' H' h => h, ?_⟩
      refine ⟨_, rfl, _, _, rfl, rfl, by decide, rfl, ?_⟩
      by_cases hm : μ % 2 = 1
      · refine ⟨true, ?_, ?_⟩
        · rw [decide_eq_true (by congr 1; omega)]
        rw [if_pos rfl]
        refine ⟨_, rfl, _, rfl, _, rfl, p, ph, Tf, Ts, u, .ref ah, fs, m, n, osf, oss, of, os, rfl, sG _ _ hp, hD.same sG, hN, hf, hs, fun T1 o1' oo G1 h1 r1 s1 => ?_⟩
        have r1' : RunR fs m n (nS (d + c) x) (rsSt n m o1' oo) := by
          rw [← nS_add]
          exact run_trans (run_both rf rs) r1
        have sG1 := sG.trans s1
        have hs1 := hs.same s1
        refine ⟨_, rfl, _, rfl, _, rfl, p, ph, Ts, Ts, u, .ref ah, fs, m, n, oss, oss, os, os, rfl, sG1 _ _ hp, hD.same sG1, hN, hs1, hs1, fun Tn on o2 G2 hn rn s2 => ?_⟩
        refine ⟨_, rfl, _, _, rfl, rfl, ⟨by decide, by decide⟩, ?_⟩
        have rn' : RunR fs m n (nS (c + c) x) (rsSt n m on o2) := by
          rw [← nS_add]
          exact run_trans (run_both rs rs) rn
        refine ⟨μ / 2, by omega, T1, Tn, o1', on, oo, o2, (d + c), c + c, ?_, sG1.trans s2, h1.same s2, hn, r1', rn', ?_, by omega⟩
        · rw [show ((μ : Nat) : Int) / 2 = ((μ / 2 : Nat) : Int) by omega]
          rfl
        · have e2 : (c + c) * (μ / 2) = c * (2 * (μ / 2)) := by rw [← Nat.mul_assoc, Nat.mul_two]
          have e3 : μ = 2 * (μ / 2) + μ % 2 := (Nat.div_add_mod μ 2).symm
          have e4 : c * μ = c * (2 * (μ / 2)) + c * (μ % 2) := by
            conv => lhs; rw [e3, Nat.mul_add]
          rw [e2]
          rw [hm] at e4
          omega
      · refine ⟨false, ?_, ?_⟩
        · rw [decide_eq_false (fun z => by injection z with z; omega)]
        rw [if_neg (by decide)]
        refine ⟨_, rfl, _, rfl, _, rfl, p, ph, Ts, Ts, u, .ref ah, fs, m, n, oss, oss, os, os, rfl, sG _ _ hp, hD.same sG, hN, hs, hs, fun Tn on o2 G2 hn rn s2 => ?_⟩
        refine ⟨_, rfl, _, _, rfl, rfl, ⟨by decide, by decide⟩, ?_⟩
        have rn' : RunR fs m n (nS (c + c) x) (rsSt n m on o2) := by
          rw [← nS_add]
          exact run_trans (run_both rs rs) rn
        refine ⟨μ / 2, by omega, Tf, Tn, osf, on, of, o2, d, c + c, ?_, sG.trans s2, hf.same s2, hn, rf, rn', ?_, by omega⟩
        · rw [show ((μ : Nat) : Int) / 2 = ((μ / 2 : Nat) : Int) by omega]
          rfl
        · have e2 : (c + c) * (μ / 2) = c * (2 * (μ / 2)) := by rw [← Nat.mul_assoc, Nat.mul_two]
          have e3 : μ = 2 * (μ / 2) + μ % 2 := (Nat.div_add_mod μ 2).symm
          have e4 : c * μ = c * (2 * (μ / 2)) + c * (μ % 2) := by
            conv => lhs; rw [e3, Nat.mul_add]
          rw [e2]
          rw [show μ % 2 = 0 by omega] at e4
          omega
    · rw [if_neg (by rw [decide_eq_true_eq]; omega)]
      have hμ0 : μ = 0 := by omega
      subst hμ0
      have hd : d = N := by omega
      subst hd
      exact ⟨_, rfl, k Tf osf of G hf rf sG⟩
end
end Fm
end FXT
section FXD
set_option Elab.async false
set_option linter.all false
set_option maxRecDepth 100000
set_option maxHeartbeats 4000000
local macro_rules | `(tactic| walk_at "ne") => `(tactic| first | assumption | (apply Ne.symm; assumption) | exact L2.ne_of_none (by assumption) (by assumption) | exact Ne.symm (L2.ne_of_none (by assumption) (by assumption)))
local macro_rules | `(tactic| walk_at "hl") => `(tactic| first | assumption | exact L2.upd_same | (refine Eq.trans (L2.upd_ne (by walk_at "ne")) ?_; walk_at "hl"))
local macro_rules | `(tactic| walk_at "sd") => `(tactic| first | (with_reducible show (_ : Int) < _; omega) | (with_reducible show (_ : Int) ≤ _; omega) | assumption | decide | exact ⟨by assumption, by assumption⟩ | exact ⟨by decide, by decide⟩ | exact Or.inr ⟨by decide, by decide⟩ | exact Or.inl ⟨by omega, by omega⟩ | rfl)
local macro_rules | `(tactic| walk_at "st1") => `(tactic| first
  | refine ⟨_, rfl, ?_⟩
  | refine ⟨_, _, rfl, rfl, ?_⟩
  | refine ⟨_, _, rfl, ?_⟩
  | (refine ⟨_, _, _, _, rfl, rfl, L2.SqL.of (by walk_at "hl"), rfl, ?_⟩)
  | (refine ⟨_, _, _, _, rfl, rfl, L2.SqT.of (by walk_at "hl"), rfl, ?_⟩)
  | (refine ⟨_, _, _, _, rfl, rfl, (by walk_at "hl"), rfl, ?_⟩)
  | (refine And.intro (by walk_at "sd") ?_)
  )
local macro_rules | `(tactic| walk_at "st") => `(tactic| repeat walk_at "st1")
local macro_rules | `(tactic| walk_at "op") => `(tactic| try dsimp only [L2.tSeq, L2.tAsg, L2.tOp, L2.tVar, L2.tC, L2.gSub, L2.rI, L2.rI0, L2.rIxL, L2.rIxT, L2.rSetL, L2.tIfS, L2.tTest, L2.tRet, L2.gName, L2.tNext, L2.tAnd, L2.tOr, L2.tNot, L2.tAndV, L2.tOrV, L2.tNotV, L2.tB, L2.tCB, L2.tCons, L2.tNil, L2.tCall, L2.tTup, L2.tLst, L2.tChain, L2.tUn, L2.tPar, L2.tDrop, L2.tIf, L2.tBM, L2.tBM0, L2.rAppend, L2.rCat, L2.rIsi, L2.rIsiT, L2.gTup, L2.gCons, L2.gNil, Fm.tFor_eq, Fm.tLc_eq, Fm.tLc2_eq, L2.iTup, L2.iList, L2.iRng1, L2.iRng2, L2.tSl, L2.tPart, L2.tNoPart, L2.rSlL, L2.rEq, L2.rNe, L2.rU, L2.rEqD, L2.rNeD, Fm.tRevT, Fm.rLenS, Fm.rTupOf, Fm.rLstOf, L2.tDNewK, L2.tCallS, L2.WE, Fm.wKeep, Fm.rIsK, Fm.rIsKT, List.cons_append, List.nil_append, L2.tYes])
namespace Fm
open PySem PySem.Spec PyProof.Rows L2
abbrev s_law_end : Stmt := top 49
abbrev N_law_end : List Str := ["house", "rest", "floors", "number", "k"]
theorem sc_law_end : FnScope N_law_end ["house", "rest"] (defScope s_law_end) := ⟨rfl, rfl, rfl, by decide +kernel, rfl, by decide +kernel, by decide +kernel⟩
abbrev s_law_due : Stmt := top 51
abbrev N_law_due : List Str := ["house", "standing", "found", "floor", "counts", "number", "many", "lone", "k"]
theorem sc_law_due : FnScope N_law_due ["house", "standing"] (defScope s_law_due) := ⟨rfl, rfl, rfl, by decide +kernel, rfl, by decide +kernel, by decide +kernel⟩
section
variable {P : Program} {w : World} {K : PySem.W.Frag} {mg : Str → Option Value} {base : Heap}
/-! ### the end of any standing, as the law has it -/
def loneO (n f a : Nat) : List (Option Nat) := (List.range n).map fun k => if k = f then some a else none
theorem lone_len (n f a : Nat) : (loneO n f a).length = n := by unfold loneO; rw [List.length_map, List.length_range]
theorem lone_at {n f a g : Nat} (hg : g < n) : (loneO n f a)[g]? = some (if g = f then some a else none) := by
  unfold loneO
  rw [List.getElem?_map, List.getElem?_range hg]
  rfl
theorem lone_st {n m f a : Nat} (hf : f < n) (ha : a < m) : rsSt n m (loneO n f a) 0 = FmC.one f a := by
  funext g b
  by_cases hg : g < n
  · rw [rs_at hg (lone_at hg)]
    by_cases e : g = f ∧ b = a
    · obtain ⟨rfl, rfl⟩ := e
      rw [FmC.one_self, if_pos ⟨ha, by rw [if_pos rfl]⟩]
    · rw [FmC.one_ne e, if_neg]
      rintro ⟨q1, q2⟩
      by_cases z : g = f
      · rw [if_pos z] at q2
        cases q2
        exact e ⟨z, rfl⟩
      · rw [if_neg z] at q2
        cases q2
  · rw [rs_ge hg, FmC.one_ne (by omega)]
    split <;> rfl
def preS (n : Nat) (rows : List (List Int)) (out : Nat) (f a : Nat) : FmC.St := fun g b => if g < n then (if g < f ∨ (g = f ∧ b < a) then FmC.cnt (rows.getD g []) b else 0) else if g = n ∧ b = 0 then out else 0
theorem pre_zero {n m : Nat} {rows : List (List Int)} {out : Nat} : preS n rows out 0 0 = rsSt n m (List.replicate n none) out := by
  funext g b
  unfold preS
  by_cases hg : g < n
  · rw [if_pos hg, if_neg (by omega), rs_at hg (by rw [List.getElem?_replicate, if_pos hg]), if_neg (fun z => by cases z.2)]
  · rw [if_neg hg, rs_ge hg]
theorem pre_step {n f a c : Nat} {rows : List (List Int)} {out : Nat} (hf : f < n) (hc : FmC.cnt (rows.getD f []) a = c) : preS n rows out f a + nS c (FmC.one f a) = preS n rows out f (a + 1) := by
  funext g b
  rw [FmC.add_at]
  unfold preS nS
  by_cases hg : g < n
  · rw [if_pos hg, if_pos hg]
    by_cases e : g = f ∧ b = a
    · obtain ⟨rfl, rfl⟩ := e
      rw [if_neg (by omega), if_pos (by omega), FmC.one_self, hc]
      omega
    · rw [FmC.one_ne e, Nat.mul_zero]
      by_cases q : g < f ∨ (g = f ∧ b < a)
      · rw [if_pos q, if_pos (by omega)]
        rfl
      · rw [if_neg q, if_neg (by omega)]
  · rw [if_neg hg, if_neg hg, FmC.one_ne (by omega), Nat.mul_zero]
    rfl
theorem cnt_far {r : List Int} {b : Nat} (h : r.length ≤ b) : FmC.cnt r b = 0 := by
  unfold FmC.cnt
  rw [List.getD_eq_getElem?_getD, List.getElem?_eq_none h]
  rfl
theorem pre_row {n m f : Nat} {rows : List (List Int)} {out : Nat} (h : (rows.getD f []).length = m) : preS n rows out f m = preS n rows out (f + 1) 0 := by
  funext g b
  unfold preS
  by_cases hg : g < n
  · rw [if_pos hg, if_pos hg]
    by_cases q : g < f ∨ (g = f ∧ b < m)
    · rw [if_pos q, if_pos (by omega)]
    · rw [if_neg q]
      by_cases z : g = f
      · subst z
        rw [if_pos (by omega), cnt_far (by omega)]
      · rw [if_neg (by omega)]
  · rw [if_neg hg, if_neg hg]
theorem pre_end {n : Nat} {rows : List (List Int)} {out : Nat} : preS n rows out n 0 = FmC.stSt n rows ((out : Nat) : Int) := by
  funext g b
  unfold preS FmC.stSt
  by_cases hg : g < n
  · rw [if_pos hg, if_pos hg, if_pos (.inl hg)]
  · rw [if_neg hg, if_neg hg, Int.toNat_natCast]
def spEndL : Sp := fun vs H Q _ => ∃ (p ph T R : Addr) (u : HO) (hv : V) (fs : List PyData) (m n : Nat) (os : List (Option Nat)) (out : Int), vs = [hv, .ref T] ∧ H p = some u ∧ Dat H ph hv (.tuple fs) ∧ HouseN m n (.tuple fs) ∧ H T = some (.tup [.ref R, .int out]) ∧ H R = some (.lst (os.map optV)) ∧ 1 ≤ os.length ∧ os.length ≤ 4 ∧
  ∀ v H', Dat H' p v (stD (os.map (endR m)) out) → Same H H' → Q v H'
theorem ok_law_end (D : Df K mg "_law_end" s_law_end ["house", "rest"]) (T : Nms mg) : CallOk P w K mg base CX0 1 "_law_end" ["house", "rest"] spEndL := by
  refine df_ok D sc_law_end (fun vs H Q E h => ?_) (fun f cdv A outer s H vs Q E hr h => ?_)
  · obtain ⟨p, ph, T, R, u, hv, fs, m, n, os, out, rfl, _⟩ := h
    rfl
  · obtain ⟨p, ph, T0, R0, u, hv, fs, m, n, os, out, rfl, hp, hD, hN, hT, hR0, ho1, ho4, k⟩ := h
    have nd := sc_law_end.nd
    have hmn : 1 ≤ n ∧ n ≤ 4 ∧ 1 ≤ m ∧ m ≤ 6 := by
      obtain ⟨_, _, _, z1, z2, z3, z4, _⟩ := hN
      exact ⟨z1, z2, z3, z4⟩
    obtain ⟨ah, af, hs, t0, t1, rfl, g1, g2, g3, hF⟩ := floor_at hD hN (f := 0) (by omega)
    obtain ⟨ss, hss, hsl⟩ := stay_len hD hN (by omega) g1 g3 hF
    refine ⟨_, (pss_cons (ps_set (i := 2) nd rfl (Or.inl rfl) (pe_lst pa_nil))
      (pss_cons (ps_for PassesOwn.never rfl (pi_list (pe_ix (r := rIxT K) ix_tup (pv 1) pe_int (fun _ _ => rfl))) (pg_name (i := 3) nd rfl (Or.inr rfl)) (pss_one (ps_expr (pe_bm PySem.F.plainAttrs_list PySem.F.slot_list_append PySem.F.type_list_append mt_append (pv 2) (pa_cons (pe_callTy (r := rTupOf K) call_tupOf (by rfl) T.n_tuple (by decide +kernel) (pa_cons (pe_lc (own := [("k", 4)]) (g := (gName 4)) (tt := tYes) (by rfl) nd (pi_range1 rfl T.n_range (pa_cons (pe_callB (r := rLenS K) call_lenS (by rfl) T.n_len (by decide +kernel) (pa_cons (pe_ix (r := rIxT K) ix_tup (pe_ix (r := rIxT K) ix_tup (pv 0) pe_int (fun _ _ => rfl)) pe_int (fun _ _ => rfl)) pa_nil)) pa_nil)) (blkOk_by (own := [("k", 4)]) (N := N_law_end) (sc := defScope s_law_end) (by decide +kernel)) (fun _ _ _ _ _ => (pg_name (i := 4) nd rfl (Or.inl rfl))) (fun _ _ _ _ _ => pts_nil) (fun _ _ _ _ _ => (pe_callTy call_int1 (by rfl) T.n_int (by decide +kernel) (pa_cons (pe_cmpR op_eq (pv 4) (pv 3) (nomark _)) pa_nil)))) pa_nil)) pa_nil)))))
      (pss_one (ps_ret (pe_op (r := rCatA K) op_catA (pe_callTy (r := rTupOf K) call_tupOf (by rfl) T.n_tuple (by decide +kernel) (pa_cons (pv 2) pa_nil)) (pe_tup (pa_cons (pe_ix (r := rIxT K) ix_tup (pv 1) pe_int (fun _ _ => rfl)) pa_nil))))))), ?_⟩
    walk_at "op"
    refine ⟨Nat.zero_le _, fun F0 hF0 => ?_⟩
    have sF := same_new (o := .lst []) hF0
    refine ⟨_, rfl, T0, _, 0, .ref R0, rfl, rfl, SqT.of (sF _ _ hT), rfl, R0, rfl, ⟨_, SqL.of (sF _ _ hR0)⟩, ?_⟩
    refine fI walk_list (fun i σ G => ∃ (u3 : Option V) (wf : List V), σ = [some (.ref ah), some (.ref T0), some (.ref F0), u3, none] ∧ Same H G ∧ G F0 = some (.lst wf) ∧ Dats G p wf (((os.take i).map (endR m)).map rowD))
      ⟨none, [], rfl, sF, upd_same, Dats.nil⟩ (fun _ _ _ _ ⟨_, _, _, e, _⟩ => SqL.of (e _ _ hR0)) ?_ ?_
    · rintro i x σ _ G hi ⟨u3, wf, rfl, sG, hFG, hW⟩ ⟨rfl, hxi⟩
      have hil : i < os.length := by rw [List.length_map] at hi; exact hi
      have hgi : os[i]? = some os[i] := List.getElem?_eq_getElem hil
      rw [List.getElem?_map, hgi] at hxi
      cases hxi
      have htk := tk_snoc hgi
      have hwl : wf.length ≤ 4 := by rw [hW.1, List.length_map, List.length_map, List.length_take]; omega
      generalize os[i] = o at *
      walk_at "op"
      refine ⟨_, rfl, .inl ⟨rfl, _, SqL.of hFG⟩, _, rfl, ah, hs, 0, _, rfl, rfl, SqT.of (sG _ _ g1), atI_nat (j := 0) g3, af, _, 0, _, rfl, rfl, SqT.of (sG _ _ hF.at_), rfl, t0, ss, rfl, .inr (SqT.of (sG _ _ hss)), ?_⟩
      rw [hsl]
      refine ⟨_, rfl, by omega, by omega, ?_⟩
      rw [Int.toNat_natCast]
      refine fun R hR => ?_
      refine lI walk_range (fun j G2 => Same G G2 ∧ G2 R = some (.lst ((endR j o).map V.int))) ⟨same_new hR, upd_same⟩ (fun _ _ _ _ => True.intro) ?_ ?_
      · rintro j x _ G2 hj ⟨s2, hR2⟩ ⟨rfl, rfl⟩
        walk_at "op"
        refine ⟨rfl, ?_⟩
        refine iteT ?_
        rw [Int.zero_add]
        refine ⟨_, rfl, _, rfl, ?_⟩
        have ed : (if decide (V.int (j : Nat) = optV o) = true then (1 : Int) else 0) = if o = some j then 1 else 0 := by
          cases o with
          | none => rw [if_neg (by rw [decide_eq_false (fun z => by cases z)]; decide), if_neg (fun z => by cases z)]
          | some a =>
            by_cases z : a = j
            · subst z
              rw [if_pos (decide_eq_true (show V.int (a : Nat) = optV (some a) from rfl)), if_pos rfl]
            · rw [if_neg (by rw [decide_eq_false (fun q => z (by injection q with q; exact (Int.ofNat.inj q).symm))]; decide), if_neg (fun q => z (by cases q; rfl))]
        refine ⟨by cases o <;> rfl, .inr ⟨_, rfl, _, hR2, by unfold endR; rw [List.length_map, List.length_map, List.length_range]; exact Nat.lt_of_le_of_lt (show j ≤ 6 by omega) (by rw [sizeLine_eq]; omega), sameOff s2 hR, ?_⟩⟩
        rw [upd_same, endR_snoc, List.map_append, ed]
        rfl
      · rintro G2 ⟨s2, hR2⟩
        refine ⟨R, _, rfl, .inl ⟨SqL.of hR2, fun l hl => ?_⟩⟩
        have s3 := s2.trans (same_new (o := .tup ((endR m o).map V.int)) hl)
        have hF3 := s3 _ _ hFG
        refine ⟨F0, wf, .ref l, rfl, rfl, hF3, Nat.lt_of_le_of_lt hwl (by rw [sizeLine_eq]; omega), _, wf ++ [.ref l], rfl, sameOff (sG.trans s3) hF0, upd_same, ?_⟩
        rw [htk, List.map_append, List.map_append]
        refine (Dats.setL hF3 ⟨hW.1, fun i x d a b => (hW.2 i x d a b).same s3⟩ (fun d hd => by obtain ⟨r, _, rfl⟩ := List.mem_map.mp hd; exact noList_ints' _)).snoc (Dat.setL hF3 (.tup upd_same (pne_of hp (sG.trans s2) hl) (by rw [List.length_map, List.length_map]) fun i x d a b => (Dats.ints (p := p) _).2 i x d a b) (noList_ints' _))
    · rintro σ G ⟨u3, wf, rfl, sG, hFG, hW⟩
      rw [List.length_map, List.take_length] at hW
      have hlt : wf.length = os.length := by rw [hW.1, List.length_map, List.length_map]
      walk_at "op"
      refine ⟨_, rfl, F0, wf, rfl, .inl ⟨SqL.of hFG, fun t1 ht1 => ?_⟩⟩
      have st1 := same_new (o := .tup wf) ht1
      refine ⟨_, rfl, T0, _, 1, .int out, rfl, rfl, SqT.of ((sG.trans st1) _ _ hT), rfl, by show 1 ≤ sizeLine; decide, fun t2 ht2 => ?_⟩
      have n12 : t1 ≠ t2 := ne_of_none upd_same ht2
      have s6 : Same H (upd (upd G t1 (.tup wf)) t2 (.tup [.int out])) := (sG.trans st1).trans (same_new ht2)
      refine ⟨t1, t2, wf, _, rfl, rfl, SqT.of (by rw [upd_ne n12]; exact upd_same), SqT.of upd_same, Nat.le_of_lt (Nat.lt_of_le_of_lt (show wf.length + 1 ≤ 5 by omega) (by rw [sizeLine_eq]; omega)), fun e => ?_, fun _ e => (by cases e), fun _ _ w hw => ?_⟩
      · rw [e] at hlt
        have : ([] : List V).length = 0 := rfl
        omega
      · exact k _ _ (Dat.new hw (pne_of hp s6 hw) (((hW.off ht1).off ht2).snoc (.int _))) (s6.trans (same_new hw))
def spDue : Sp := fun vs H Q _ => ∃ (p ph : Addr) (u : HO) (hv sv : V) (fs : List PyData) (m n : Nat) (rows : List (List Int)) (out : Int), vs = [hv, sv] ∧ H p = some u ∧ Dat H ph hv (.tuple fs) ∧ HouseN m n (.tuple fs) ∧ Dat H p sv (stD rows out) ∧ rows.length = n ∧ StOk m rows out ∧
  ∀ v H' r o, EndOf fs m n rows out r o → Dat H' p v (stD r o) → Same H H' → Q v H'
theorem ok_law_due (D : Df K mg "_law_due" s_law_due ["house", "standing"]) (T : Nms mg) (c_law_joined : CallOk P w K mg base CX0 2 "_law_joined" ["house", "one", "other"] spJoined) (c_law_times : CallOk P w K mg base CX0 3 "_law_times" ["house", "some", "many"] spTimes)
    (c_law_end : CallOk P w K mg base CX0 1 "_law_end" ["house", "rest"] spEndL) : CallOk P w K mg base CX0 4 "_law_due" ["house", "standing"] spDue := by
  refine df_ok D sc_law_due (fun vs H Q E h => ?_) (fun f cdv A outer s H vs Q E hr h => ?_)
  · obtain ⟨p, ph, u, hv, sv, fs, m, n, rows, out, rfl, _⟩ := h
    rfl
  · obtain ⟨p, ph, u, hv, sv, fs, m, n, rows, out, rfl, hp, hD, hN, sD, hl, ok, k⟩ := h
    have nd := sc_law_due.nd
    have hmn : 1 ≤ n ∧ n ≤ 4 ∧ 1 ≤ m ∧ m ≤ 6 := by
      obtain ⟨_, _, _, z1, z2, z3, z4, _⟩ := hN
      exact ⟨z1, z2, z3, z4⟩
    obtain ⟨ah, hsv, rfl, hah, nah, hh⟩ := id hD.isTup
    have hhn : hsv.length = n := by
      rw [hh.1]
      obtain ⟨_, e, z, _⟩ := hN
      cases e
      exact z
    obtain ⟨on, rfl⟩ : ∃ on : Nat, out = (on : Int) := ⟨out.toNat, by have := ok.out; omega⟩
    obtain ⟨sa, xs, rfl, hsa, nsp, hx⟩ := st_parts sD
    refine ⟨_, (pss_cons (ps_set (i := 2) nd rfl (Or.inl rfl) (pe_tup (pa_cons (pe_op op_rep (pe_lst (pa_cons pe_non pa_nil)) (pe_callB (r := rLenS K) call_lenS (by rfl) T.n_len (by decide +kernel) (pa_cons (pv 0) pa_nil))) (pa_cons (pe_ix (r := rIxT K) ix_tup (pv 1) (pe_un un_neg pe_int) (fun _ _ => rfl)) pa_nil))))
      (pss_cons (ps_for PassesOwn.never rfl (pi_enumT (by rfl) T.n_enumerate (pa_cons (pe_slice (r := rSlA K) sl_tupA (pv 1) po_none (po_some (pe_un un_neg pe_int))) pa_nil)) (pg_tup rfl (pgs_cons (pg_name (i := 3) nd rfl (Or.inr rfl)) (pgs_cons (pg_name (i := 4) nd rfl (Or.inl rfl)) pgs_nil))) (pss_one (ps_for PassesOwn.never rfl (pi_enumT (by rfl) T.n_enumerate (pa_cons (pv 4) pa_nil)) (pg_tup rfl (pgs_cons (pg_name (i := 5) nd rfl (Or.inr rfl)) (pgs_cons (pg_name (i := 6) nd rfl (Or.inl rfl)) pgs_nil))) (pss_cons (ps_set (i := 7) nd rfl (Or.inl rfl) (pe_tup (pa_cons (pe_lc (own := [("k", 8)]) (g := (gName 8)) (tt := tYes) (by rfl) nd (pi_range1 rfl T.n_range (pa_cons (pe_callB (r := rLenS K) call_lenS (by rfl) T.n_len (by decide +kernel) (pa_cons (pv 0) pa_nil)) pa_nil)) (blkOk_by (own := [("k", 8)]) (N := N_law_due) (sc := defScope s_law_due) (by decide +kernel)) (fun _ _ _ _ _ => (pg_name (i := 8) nd rfl (Or.inl rfl))) (fun _ _ _ _ _ => pts_nil) (fun _ _ _ _ _ => (pe_ifExp (pt_cmpR op_eq (pv 8) (pv 3) (nomark _)) (pv 5) pe_non))) (pa_cons pe_int pa_nil))))
      (pss_one (ps_set (i := 2) nd rfl (Or.inl rfl) (pe_cc c_law_joined (hr.mono (by omega)) (pa_cons (pv 0) (pa_cons (pv 2) (pa_cons (pe_cc c_law_times (hr.mono (by omega)) (pa_cons (pv 0) (pa_cons (pv 7) (pa_cons (pv 6) pa_nil)))) pa_nil))))))))))
      (pss_one (ps_ret (pe_cc c_law_end (hr.mono (by omega)) (pa_cons (pv 0) (pa_cons (pv 2) pa_nil))))))), ?_⟩
    walk_at "op"
    refine ⟨by show 1 ≤ sizeLine; decide, fun L0 hL0 => ?_⟩
    have s0 := same_new (o := .lst [V.non]) hL0
    refine ⟨_, rfl, ah, hsv, rfl, .inr (SqT.of (s0 _ _ hah)), ?_⟩
    rw [hhn]
    refine ⟨_, _, _, rfl, rfl, upd_same, by omega, by omega, by rw [Int.toNat_natCast]; exact Nat.le_of_lt (Nat.lt_of_le_of_lt (show 1 * n ≤ 4 by omega) (by rw [sizeLine_eq]; omega)), fun L1 hL1 => ?_⟩
    have efl : (List.replicate ((n : Int)).toNat [V.non]).flatten = ((List.replicate n (none : Option Nat)).map optV) := by
      rw [Int.toNat_natCast, List.map_replicate, List.flatten_replicate_singleton]
      rfl
    rw [efl]
    have s1 := same_new (o := .lst ((List.replicate n (none : Option Nat)).map optV)) hL1
    have hL1' : upd (upd H L0 (.lst [V.non])) L1 (.lst ((List.replicate n (none : Option Nat)).map optV)) L1 = some (.lst ((List.replicate n (none : Option Nat)).map optV)) := upd_same
    have s01 := s0.trans s1
    generalize upd (upd H L0 (.lst [V.non])) L1 (.lst ((List.replicate n (none : Option Nat)).map optV)) = H2 at *
    have xl : xs.length = n := by rw [hx.1, List.length_map, hl]
    refine ⟨_, rfl, _, rfl, sa, _, -1, _, rfl, rfl, SqT.of (s01 _ _ hsa), atI_last (by omega), by show 2 ≤ sizeLine; decide, fun F0 hF0 => ?_⟩
    have s2 := same_new (o := .tup [V.ref L1, V.int (on : Nat)]) hF0
    have s02 := s01.trans s2
    have hF : RestAt (upd H2 F0 (.tup [V.ref L1, V.int (on : Nat)])) F0 m n (List.replicate n none) on := ⟨⟨L1, upd_same, s2 _ _ hL1'⟩, List.length_replicate, fun a ha => by cases (List.mem_replicate.mp ha).2⟩
    generalize upd H2 F0 (.tup [V.ref L1, V.int (on : Nat)]) = H3 at *
    clear s0 s1 s2 s01 hL1' hL0 hL1 hF0
    have z0 : RunR fs m n (preS n rows on 0 0) (rsSt n m (List.replicate n none) on) := by
      rw [pre_zero (m := m)]
      exact run_nil _
    refine ⟨_, rfl, _, rfl, _, rfl, sl_init (SqT.of (s02 _ _ hsa)) (fun S0 hS0 => ?_)⟩
    have s3 := same_new (o := .tup xs) hS0
    have hS1 : upd H3 S0 (.tup xs) S0 = some (.tup xs) := upd_same
    have s03 := s02.trans s3
    have hF1 := hF.same s3
    generalize upd H3 S0 (.tup xs) = H4 at *
    refine ⟨S0, xs, rfl, SqT.of hS1, ?_⟩
    refine fI walk_enumT (fun i σ G => ∃ (Tf : Addr) (os : List (Option Nat)) (o : Nat) (u3 u4 u5 u6 u7 : Option V), σ = [some (.ref ah), some (.ref sa), some (.ref Tf), u3, u4, u5, u6, u7, none] ∧ Same H4 G ∧ RestAt G Tf m n os o ∧ RunR fs m n (preS n rows on i 0) (rsSt n m os o))
      ⟨F0, _, _, _, _, _, _, _, rfl, Same.refl _, hF1, z0⟩ (fun i σ G _ ⟨_, _, _, _, _, _, _, _, _, e, _⟩ => SqT.of (e _ _ hS1)) ?_ ?_
    · rintro i v σ G _ hi ⟨Tf, os, o, u3, u4, u5, u6, u7, rfl, sG, hR, hrun⟩ ⟨t, x, y, rfl, ht, rfl, hxi, hyi⟩
      dsimp only at hxi hyi
      cases hxi
      rw [xl] at hi
      have hir : i < rows.length := by omega
      have hri : rows[i]? = some rows[i] := List.getElem?_eq_getElem hir
      obtain ⟨b, rfl, hb, _⟩ := row_parts (hx.2 i y (rowD rows[i]) hyi (by rw [List.getElem?_map, hri]; rfl))
      have hrl := ok.len _ (List.getElem_mem hir)
      have hrp := ok.pos _ (List.getElem_mem hir)
      have hgd : rows.getD i [] = rows[i] := by rw [List.getD_eq_getElem?_getD, hri]; rfl
      generalize rows[i] = r at *
      have st := same_new (o := .tup [V.int (i : Nat), V.ref b]) ht
      have htt : upd G t (.tup [V.int (i : Nat), V.ref b]) t = some (.tup [V.int (i : Nat), V.ref b]) := upd_same
      have sG1 := s03.trans (sG.trans st)
      have s4 := sG.trans st
      have hR1 := hR.same st
      clear hR
      generalize upd G t (.tup [V.int (i : Nat), V.ref b]) = G1 at *
      walk_at "op"
      refine ⟨t, _, rfl, SqT.of htt, rfl, _, _, rfl, _, _, rfl, rfl, ?_⟩
      refine ⟨_, rfl, b, _, rfl, SqT.of (sG1 _ _ hb), ?_⟩
      refine fI walk_enumT (fun a σ G2 => ∃ (Tf : Addr) (os : List (Option Nat)) (o : Nat) (u5 u6 u7 : Option V), σ = [some (.ref ah), some (.ref sa), some (.ref Tf), some (.int (i : Nat)), some (.ref b), u5, u6, u7, none] ∧ Same G1 G2 ∧ RestAt G2 Tf m n os o ∧ RunR fs m n (preS n rows on i a) (rsSt n m os o))
        ⟨Tf, _, _, _, _, _, rfl, Same.refl _, hR1, hrun⟩ (fun a σ G2 _ ⟨_, _, _, _, _, _, _, e, _⟩ => SqT.of ((sG1.trans e) _ _ hb)) ?_ ?_
      · clear hrun hR1
        rintro a v σ G2 _ ha ⟨Tf, os, o, u5, u6, u7, rfl, sG2, hR2, hrun⟩ ⟨t2, x2, y2, rfl, ht2, rfl, hxa, hya⟩
        dsimp only at hxa hya
        cases hxa
        rw [List.length_map, hrl] at ha
        have har : a < r.length := by omega
        have hra : r[a]? = some r[a] := List.getElem?_eq_getElem har
        rw [List.getElem?_map, hra] at hya
        cases hya
        obtain ⟨c, hc⟩ : ∃ c : Nat, r[a] = (c : Int) := ⟨r[a].toNat, by have := hrp _ (List.getElem_mem har); omega⟩
        have hcnt : FmC.cnt (rows.getD i []) a = c := by
          unfold FmC.cnt
          rw [hgd, List.getD_eq_getElem?_getD, hra, hc]
          rfl
        rw [hc]
        have st2 := same_new (o := .tup [V.int (a : Nat), V.int (c : Nat)]) ht2
        have htt2 : upd G2 t2 (.tup [V.int (a : Nat), V.int (c : Nat)]) t2 = some (.tup [V.int (a : Nat), V.int (c : Nat)]) := upd_same
        have s5 := sG2.trans st2
        have hR3 := hR2.same st2
        clear hR2
        generalize upd G2 t2 (.tup [V.int (a : Nat), V.int (c : Nat)]) = G3 at *
        have sH3 := sG1.trans s5
        walk_at "op"
        refine ⟨t2, _, rfl, SqT.of htt2, rfl, _, _, rfl, _, _, rfl, rfl, ?_⟩
        refine ⟨_, rfl, ah, hsv, rfl, .inr (SqT.of (sH3 _ _ hah)), _, rfl, by omega, by omega, ?_⟩
        rw [hhn, Int.toNat_natCast]
        refine fun L hL => ?_
        refine lI walk_range (fun k G4 => Same G3 G4 ∧ G4 L = some (.lst (((loneO n i a).take k).map optV))) ⟨same_new hL, upd_same⟩ (fun _ _ _ _ => True.intro) ?_ ?_
        · rintro k x _ G4 hk ⟨s6, hLG⟩ ⟨rfl, rfl⟩
          have hgi := lone_at (f := i) (a := a) hk
          walk_at "op"
          refine ⟨rfl, ?_⟩
          refine iteT ?_
          refine ⟨_, rfl, _, rfl, rfl, _, rfl, ?_⟩
          have fin : ∀ v, optV (if k = i then some a else none) = v → ∃ acc, G4 L = some (.lst acc) ∧ acc.length < sizeLine ∧ Same G3 (upd G4 L (.lst (acc ++ [v]))) ∧ upd G4 L (.lst (acc ++ [v])) L = some (.lst (((loneO n i a).take (k + 1)).map optV)) := fun v e => by
            refine ⟨_, hLG, ?_, sameOff s6 hL, ?_⟩
            · rw [List.length_map, List.length_take]
              exact Nat.lt_of_le_of_lt (show _ ≤ 4 by omega) (by rw [sizeLine_eq]; omega)
            · rw [upd_same, tk_snoc hgi, List.map_append, ← e]
              rfl
          refine ite2 (fun c0 => ?_) (fun c0 => ?_)
          · have hif : k = i := by
              have := of_decide_eq_true c0
              injection this with e
              omega
            refine ⟨_, rfl, ?_⟩
            exact fin _ (by rw [if_pos hif]; rfl)
          · have hif : ¬ k = i := fun z => c0 (by rw [Int.zero_add, z]; exact decide_eq_true rfl)
            exact fin _ (by rw [if_neg hif]; rfl)
        · rintro G4 ⟨s6, hLG⟩
          have etk := List.take_length (l := loneO n i a)
          rw [lone_len] at etk
          rw [etk] at hLG
          walk_at "op"
          refine ⟨by show 2 ≤ sizeLine; decide, fun P1 hP1 => ?_⟩
          have s7 := same_new (o := .tup [V.ref L, .int 0]) hP1
          have hP : RestAt (upd G4 P1 (.tup [V.ref L, .int 0])) P1 m n (loneO n i a) 0 := ⟨⟨L, upd_same, s7 _ _ hLG⟩, lone_len _ _ _, fun x hx => by
            unfold loneO at hx
            obtain ⟨k', _, e⟩ := List.mem_map.mp hx
            by_cases z : k' = i
            · rw [if_pos z] at e
              cases e
              exact ha
            · rw [if_neg z] at e
              cases e⟩
          have s67 := s6.trans s7
          generalize upd G4 P1 (.tup [V.ref L, .int 0]) = G5 at *
          have sH5 := sH3.trans s67
          have z1 : RunR fs m n (FmC.one i a) (rsSt n m (loneO n i a) 0) := by
            rw [lone_st hi ha]
            exact run_nil _
          have hR5 := hR3.same s67
          refine ⟨_, rfl, _, rfl, _, rfl, _, rfl, _, rfl, p, ph, P1, u, .ref ah, fs, m, n, loneO n i a, 0, c, FmC.one i a, rfl, sH5 _ _ hp, hD.same sH5, hN, hP, z1, fun T2 os2 o2 G6 h6 r6 s8 => ?_⟩
          have sH6 := sH5.trans s8
          refine ⟨p, ph, Tf, T2, u, .ref ah, fs, m, n, os, os2, o, o2, rfl, sH6 _ _ hp, hD.same sH6, hN, hR5.same s8, h6, fun T3 os3 o3 G7 h7 r7 s9 => ?_⟩
          refine ⟨T3, os3, o3, _, _, _, rfl, s5.trans (s67.trans (s8.trans s9)), h7, ?_⟩
          rw [← pre_step hi hcnt]
          exact run_trans (run_both hrun r6) r7
      · rintro σ G2 ⟨Tf, os, o, u5, u6, u7, rfl, sG2, hR2, hrun⟩
        rw [List.length_map, hrl, pre_row (by rw [hgd, hrl])] at hrun
        exact ⟨Tf, os, o, _, _, _, _, _, rfl, s4.trans sG2, hR2, hrun⟩
    · rintro σ G ⟨Tf, os, o, u3, u4, u5, u6, u7, rfl, sG, ⟨⟨R, hTf, hRL⟩, ol, olt⟩, hrun⟩
      rw [xl, pre_end] at hrun
      have sH := s03.trans sG
      walk_at "op"
      refine ⟨_, rfl, _, rfl, p, ph, Tf, R, u, .ref ah, fs, m, n, os, (o : Nat), rfl, sH _ _ hp, hD.same sH, hN, hTf, hRL, by omega, by omega, fun v G2 hv s2 => ?_⟩
      refine k v G2 _ _ ⟨by rw [List.length_map, ol], fun r hr => ?_, by omega, hrun⟩ hv (sH.trans s2)
      obtain ⟨x, _, rfl⟩ := List.mem_map.mp hr
      exact ⟨FmC.endRow_len m x, FmC.endRow_nn m x, FmC.endRow_sum m x⟩
end
end Fm
end FXD
section FFmMulS
set_option Elab.async false
set_option linter.all false
set_option maxRecDepth 100000
set_option maxHeartbeats 4000000
namespace Fm
open PySem PySem.Spec PySem.Calls PyProof.Rows L2 Builtin Builtin.Str
/-- noughts in a row -/
def noughts (k : Nat) : Str := if k = 0 then Str.empty else if k = 1 then "0" else ⟨(List.replicate k ("0" : Str).cps).foldl (· ++ ·) #[]⟩
/-- '0' * k -/
def rMulS : R2 := fun x y H Q => ∃ k : Nat, x = V.str "0" ∧ y = V.int (k : Nat) ∧ k ≤ 18 ∧ Q (.str (noughts k)) H
theorem ten_text : ∀ k : Nat, k ≤ 18 → PySem.intText? (("1" : Str) ++ noughts k) = some ((10 : Int) ^ k) ∧ (("1" : Str) ++ noughts k).length ≤ 640 ∧ ("1" : Str).length + (noughts k).length ≤ 1000 := by
  have h : ((List.range 19).all fun k => decide (PySem.intText? (("1" : Str) ++ noughts k) = some ((10 : Int) ^ k) ∧ (("1" : Str) ++ noughts k).length ≤ 640 ∧ ("1" : Str).length + (noughts k).length ≤ 1000)) = true := by decide +kernel
  intro k hk
  exact of_decide_eq_true (List.all_eq_true.mp h k (List.mem_range.mpr (by omega)))
theorem op_mulS {X : Cx} : OpR X (binaryOp .Mult) rMulS := by
  intro pins s σ H x y v u Q I rx ry h
  obtain ⟨k, rfl, rfl, hk, q⟩ := h
  obtain ⟨t, rfl⟩ := rx
  obtain ⟨t', rfl⟩ := ry
  have hl : ("0" : Str).length = 1 := by decide
  refine PySem.P.mul_str ?_ (fun _ _ => ?_) (fun _ _ => ?_) ?_
  · rw [decide_eq_false (by omega), decide_eq_false (by omega)]
    rfl
  · rw [hl]
    have hd : (1 : Int) * (k : Nat) ≤ 2 ^ 63 - 1 := by omega
    have := Int.le_ediv_of_mul_le (a := (1 : Int)) (b := 2 ^ 63 - 1) (c := ((k : Nat) : Int)) (by omega) hd
    omega
  · unfold tooLong
    rw [hl, Int.toNat_natCast]
    exact decide_eq_false (by rw [sizeLine_eq]; omega)
  · by_cases h0 : k = 0
    · subst h0
      exact ⟨by decide, .str Str.empty, H, I.tok _, ⟨_, rfl⟩, q⟩
    · rw [if_neg (by omega)]
      by_cases h1 : k = 1
      · subst h1
        exact ⟨.str "0", H, I, ⟨_, rfl⟩, q⟩
      · have e : ((((k : Nat) : Int) == 1) || (("0" : Str).length == 0)) = false := by
          rw [hl]
          simp
          omega
        rw [e, if_neg (by decide)]
        have en : noughts k = ⟨(List.replicate k ("0" : Str).cps).foldl (· ++ ·) #[]⟩ := by
          unfold noughts
          rw [if_neg h0, if_neg h1]
        rw [Int.toNat_natCast, ← en]
        have hn : (noughts k).length ≤ sizeLine := by
          have q1 := (ten_text k hk).2.2
          have q2 : ("1" : Str).length = 1 := by decide
          rw [sizeLine_eq]
          omega
        exact ⟨hn, .str (noughts k), H, I.tok _, ⟨_, rfl⟩, q⟩
end Fm
end FFmMulS
section FXC
set_option Elab.async false
set_option linter.all false
set_option maxRecDepth 100000
set_option maxHeartbeats 4000000
local macro_rules | `(tactic| walk_at "ne") => `(tactic| first | assumption | (apply Ne.symm; assumption) | exact L2.ne_of_none (by assumption) (by assumption) | exact Ne.symm (L2.ne_of_none (by assumption) (by assumption)))
local macro_rules | `(tactic| walk_at "hl") => `(tactic| first | assumption | exact L2.upd_same | (refine Eq.trans (L2.upd_ne (by walk_at "ne")) ?_; walk_at "hl"))
local macro_rules | `(tactic| walk_at "sd") => `(tactic| first | (with_reducible show (_ : Int) < _; omega) | (with_reducible show (_ : Int) ≤ _; omega) | assumption | decide | exact ⟨by assumption, by assumption⟩ | exact ⟨by decide, by decide⟩ | exact Or.inr ⟨by decide, by decide⟩ | exact Or.inl ⟨by omega, by omega⟩ | rfl)
local macro_rules | `(tactic| walk_at "st1") => `(tactic| first
  | refine ⟨_, rfl, ?_⟩
  | refine ⟨_, _, rfl, rfl, ?_⟩
  | refine ⟨_, _, rfl, ?_⟩
  | (refine ⟨_, _, _, _, rfl, rfl, L2.SqL.of (by walk_at "hl"), rfl, ?_⟩)
  | (refine ⟨_, _, _, _, rfl, rfl, L2.SqT.of (by walk_at "hl"), rfl, ?_⟩)
  | (refine ⟨_, _, _, _, rfl, rfl, (by walk_at "hl"), rfl, ?_⟩)
  | (refine And.intro (by walk_at "sd") ?_)
  )
local macro_rules | `(tactic| walk_at "st") => `(tactic| repeat walk_at "st1")
local macro_rules | `(tactic| walk_at "op") => `(tactic| try dsimp only [L2.tSeq, L2.tAsg, L2.tOp, L2.tVar, L2.tC, L2.gSub, L2.rI, L2.rI0, L2.rIxL, L2.rIxT, L2.rSetL, L2.tIfS, L2.tTest, L2.tRet, L2.gName, L2.tNext, L2.tAnd, L2.tOr, L2.tNot, L2.tAndV, L2.tOrV, L2.tNotV, L2.tB, L2.tCB, L2.tCons, L2.tNil, L2.tCall, L2.tTup, L2.tLst, L2.tChain, L2.tUn, L2.tPar, L2.tDrop, L2.tIf, L2.tBM, L2.tBM0, L2.rAppend, L2.rCat, L2.rIsi, L2.rIsiT, L2.gTup, L2.gCons, L2.gNil, Fm.tFor_eq, Fm.tLc_eq, Fm.tLc2_eq, L2.iTup, L2.iList, L2.iRng1, L2.iRng2, L2.tSl, L2.tPart, L2.tNoPart, L2.rSlL, L2.rEq, L2.rNe, L2.rU, L2.rEqD, L2.rNeD, Fm.tRevT, Fm.rLenS, Fm.rTupOf, Fm.rLstOf, L2.tDNewK, L2.tCallS, L2.WE, Fm.wKeep, Fm.rIsK, Fm.rIsKT, List.cons_append, List.nil_append, L2.tYes])
namespace Fm
open PySem PySem.Spec PyProof.Rows L2
abbrev s_law_counts : Stmt := top 50
abbrev N_law_counts : List Str := ["jar", "m", "found", "number", "wide", "some"]
theorem sc_law_counts : FnScope N_law_counts ["jar", "m"] (defScope s_law_counts) := ⟨rfl, rfl, rfl, by decide +kernel, rfl, by decide +kernel, by decide +kernel⟩
section
variable {P : Program} {w : World} {K : PySem.W.Frag} {mg : Str → Option Value} {base : Heap}
/-! ### counts, some of them great -/
def spCounts : Sp := fun vs H Q _ => ∃ (p : Addr) (m N : Nat), vs = [.ref p, .int ((m : Nat) : Int)] ∧ m ≤ 6 ∧ N + 100 ≤ 1000000000 ∧ Jar H p N ∧
  ∀ v H' r, Dat H' p v (rowD r) → r.length = m → (∀ c ∈ r, 0 ≤ c ∧ c ≤ 10 ^ 18) → Jar H' p (N + 100) → Ext p H H' → Q v H'
theorem ok_law_counts (D : Df K mg "_law_counts" s_law_counts ["jar", "m"]) (T : Nms mg) (c_law_dip : CallOk P w K mg base CX0 1 "_law_dip" ["jar", "many"] spDip) : CallOk P w K mg base CX0 2 "_law_counts" ["jar", "m"] spCounts := by
  refine df_ok D sc_law_counts (fun vs H Q E h => ?_) (fun f cdv A outer s H vs Q E hr h => ?_)
  · obtain ⟨p, m, N, rfl, _⟩ := h
    rfl
  · obtain ⟨p, m, N, rfl, hm, hN0, hJ, k⟩ := h
    have nd := sc_law_counts.nd
    refine ⟨_, (pss_cons (ps_set (i := 2) nd rfl (Or.inl rfl) (pe_lst pa_nil))
      (pss_cons (ps_for PassesOwn.never rfl (pi_range1 rfl T.n_range (pa_cons (pv 1) pa_nil)) (pg_name (i := 3) nd rfl (Or.inl rfl)) (pss_cons (ps_set (i := 4) nd rfl (Or.inl rfl) (pe_callTy call_int_str (by rfl) T.n_int (by decide +kernel) (pa_cons (pe_op op_add_str pe_str (pe_op (r := rMulS) op_mulS pe_str (pe_op op_add pe_int (pe_cc c_law_dip (hr.mono (by omega)) (pa_cons (pv 0) (pa_cons pe_int pa_nil)))))) pa_nil)))
      (pss_cons (ps_set (i := 5) nd rfl (Or.inl rfl) (pe_lst (pa_cons pe_int (pa_cons (pe_cc c_law_dip (hr.mono (by omega)) (pa_cons (pv 0) (pa_cons pe_int pa_nil))) (pa_cons (pe_cc c_law_dip (hr.mono (by omega)) (pa_cons (pv 0) (pa_cons pe_int pa_nil))) (pa_cons (pe_cc c_law_dip (hr.mono (by omega)) (pa_cons (pv 0) (pa_cons (pv 4) pa_nil))) (pa_cons (pe_op op_sub (pe_op op_pow pe_int pe_int) (pe_cc c_law_dip (hr.mono (by omega)) (pa_cons (pv 0) (pa_cons pe_int pa_nil)))) pa_nil)))))))
      (pss_one (ps_expr (pe_bm PySem.F.plainAttrs_list PySem.F.slot_list_append PySem.F.type_list_append mt_append (pv 2) (pa_cons (pe_ix (r := rIxL K) ix_list (pv 5) (pe_cc c_law_dip (hr.mono (by omega)) (pa_cons (pv 0) (pa_cons pe_int pa_nil))) (fun _ _ => rfl)) pa_nil)))))))
      (pss_one (ps_ret (pe_callTy (r := rTupOf K) call_tupOf (by rfl) T.n_tuple (by decide +kernel) (pa_cons (pv 2) pa_nil)))))), ?_⟩
    walk_at "op"
    refine ⟨Nat.zero_le _, fun F0 hF0 => ?_⟩
    have nJF := hJ.ne hF0
    have hJ1 := hJ.up (o := .lst []) nJF
    have hF1 : upd H F0 (.lst []) F0 = some (.lst (([] : List Int).map V.int)) := upd_same
    have x1 : Ext p H (upd H F0 (.lst [])) := Same.ext (same_new hF0) p
    generalize upd H F0 (.lst []) = H1 at *
    have e18 : (10 : Int) ^ (18 : Int).toNat = 10 ^ 18 := rfl
    have E18 : (10 : Int) ^ 18 = 1000000000000000000 := by decide
    refine ⟨_, rfl, _, rfl, by omega, by omega, ?_⟩
    rw [Int.toNat_natCast]
    refine fI walk_range (fun i σ G => ∃ (u3 u4 u5 : Option V) (c : List Int), σ = [some (.ref p), some (.int ((m : Nat) : Int)), some (.ref F0), u3, u4, u5] ∧ Ext p H G ∧ Jar G p (N + 6 * i) ∧ G F0 = some (.lst (c.map V.int)) ∧ c.length = i ∧ ∀ y ∈ c, 0 ≤ y ∧ y ≤ 10 ^ 18)
      ⟨none, none, none, [], rfl, x1, hJ1.le (by omega), hF1, rfl, fun y hy => by cases hy⟩ (fun _ _ _ _ _ => True.intro) ?_ ?_
    · rintro i x σ _ G hi ⟨u3, u4, u5, c, rfl, xG, hJG, hFG, hcl, hck⟩ ⟨rfl, rfl⟩
      walk_at "op"
      refine ⟨_, rfl, p, 18, N + 6 * i, rfl, by decide, by decide, by omega, hJG, fun k1 G1 k10 k11 hJ1' x1' => ?_⟩
      obtain ⟨kk, rfl⟩ := Int.eq_ofNat_of_zero_le k10
      refine ⟨_, _, rfl, rfl, ?_⟩
      obtain ⟨e1, e2, e3⟩ := ten_text (1 + kk) (by omega)
      refine ⟨1 + kk, rfl, by rw [Int.natCast_add]; rfl, by omega, ?_⟩
      refine ⟨_, _, rfl, rfl, by rw [sizeLine_eq]; omega, ?_⟩
      refine ⟨_, _, rfl, e1, e2, ?_⟩
      try dsimp only [List.set]
      have hp10 : (1 : Int) ≤ 10 ^ (1 + kk) ∧ (10 : Int) ^ (1 + kk) ≤ 10 ^ 18 := by
        have h : ((List.range 19).all fun k => decide ((1 : Int) ≤ 10 ^ k ∧ (10 : Int) ^ k ≤ 10 ^ 18)) = true := by decide +kernel
        exact of_decide_eq_true (List.all_eq_true.mp h (1 + kk) (List.mem_range.mpr (by omega)))
      generalize (10 : Int) ^ (1 + kk) = wide at *
      have zl : wide.natAbs.log2 < 9000 := by
        have q := PySem.Flt.log2_lt_of (by decide : 0 < 60) (show wide.natAbs < 2 ^ 60 by
          have : (2 : Nat) ^ 60 = 1152921504606846976 := by decide
          omega)
        omega
      refine ⟨_, rfl, p, 4, N + 6 * i + 1, rfl, by decide, by decide, by omega, hJ1', fun d1 G2 a1 b1 hJ2 x2 => ?_⟩
      refine ⟨_, rfl, p, 90, N + 6 * i + 1 + 1, rfl, by decide, by decide, by omega, hJ2, fun d2 G3 a2 b2 hJ3 x3 => ?_⟩
      refine ⟨_, rfl, _, rfl, p, wide, N + 6 * i + 1 + 1 + 1, rfl, by omega, zl, by omega, hJ3, fun d3 G4 a3 b3 hJ4 x4 => ?_⟩
      refine ⟨10, 18, rfl, rfl, ⟨by decide, by decide, by decide⟩, ?_⟩
      rw [e18]
      refine ⟨_, rfl, p, 3, N + 6 * i + 1 + 1 + 1 + 1, rfl, by decide, by decide, by omega, hJ4, fun d4 G5 a4 b4 hJ5 x5 => ?_⟩
      refine ⟨_, _, rfl, rfl, ?_⟩
      refine ⟨by show 5 ≤ sizeLine; decide, fun W0 hW0 => ?_⟩
      have nJW := hJ5.ne hW0
      have hJ6 := hJ5.up (o := .lst [V.int 0, V.int d1, V.int d2, V.int d3, V.int (10 ^ 18 - d4)]) nJW
      have hW1 : upd G5 W0 (.lst [V.int 0, V.int d1, V.int d2, V.int d3, V.int (10 ^ 18 - d4)]) W0 = some (.lst [V.int 0, V.int d1, V.int d2, V.int d3, V.int (10 ^ 18 - d4)]) := upd_same
      have x6 := Same.ext (same_new (o := .lst [V.int 0, V.int d1, V.int d2, V.int d3, V.int (10 ^ 18 - d4)]) hW0) p
      have x16 := ((((x1'.trans x2).trans x3).trans x4).trans x5).trans x6
      have hF6 := x16 _ _ hFG nJF.symm
      clear hW0
      generalize upd G5 W0 (.lst [V.int 0, V.int d1, V.int d2, V.int d3, V.int (10 ^ 18 - d4)]) = G6 at *
      refine ⟨_, rfl, .inl ⟨rfl, _, SqL.of hF6⟩, _, rfl, _, rfl, p, 5, N + 6 * i + 1 + 1 + 1 + 1 + 1, rfl, by decide, by decide, by omega, hJ6, fun dd G7 a5 b5 hJ7 x7 => ?_⟩
      obtain ⟨dn, rfl⟩ : ∃ dn : Nat, dd = (dn : Int) := ⟨dd.toNat, by omega⟩
      obtain ⟨wd, hwd, w1, w18⟩ : ∃ wd : Int, ([V.int 0, V.int d1, V.int d2, V.int d3, V.int (10 ^ 18 - d4)] : List V)[dn]? = some (.int wd) ∧ 0 ≤ wd ∧ wd ≤ 10 ^ 18 := by
        have : dn = 0 ∨ dn = 1 ∨ dn = 2 ∨ dn = 3 ∨ dn = 4 := by omega
        rcases this with rfl | rfl | rfl | rfl | rfl
        · exact ⟨0, rfl, by decide, by decide⟩
        · exact ⟨d1, rfl, by omega, by omega⟩
        · exact ⟨d2, rfl, by omega, by omega⟩
        · exact ⟨d3, rfl, by omega, by omega⟩
        · exact ⟨10 ^ 18 - d4, rfl, by omega, by omega⟩
      have hF7 := x7 _ _ hF6 nJF.symm
      refine ⟨W0, _, _, _, rfl, rfl, SqL.of (x7 _ _ hW1 nJW.symm), atI_nat hwd, F0, _, _, rfl, rfl, hF7, by rw [List.length_map, hcl]; exact Nat.lt_of_le_of_lt (show i ≤ 6 by omega) (by rw [sizeLine_eq]; omega), ?_⟩
      refine ⟨_, _, _, c ++ [wd], rfl, ((xG.trans x16).trans x7).free hF0, (hJ7.le (by omega)).up nJF, by rw [upd_same, List.map_append]; rfl, by rw [List.length_append, hcl]; rfl, fun y hy => ?_⟩
      rcases List.mem_append.mp hy with hy | hy
      · exact hck y hy
      · rw [List.mem_singleton.mp hy]
        exact ⟨w1, w18⟩
    · rintro σ G ⟨u3, u4, u5, c, rfl, xG, hJG, hFG, hcl, hck⟩
      walk_at "op"
      refine ⟨_, rfl, F0, _, rfl, .inl ⟨SqL.of hFG, fun l hl => ?_⟩⟩
      have nJl := hJG.ne hl
      exact k _ _ c (Dat.new hl nJl.symm (Dats.ints c)) hcl hck ((hJG.up nJl).le (by omega)) (xG.trans (Same.ext (same_new hl) p))
end
end Fm
end FXC
section FXP
set_option Elab.async false
set_option linter.all false
set_option maxRecDepth 100000
set_option maxHeartbeats 4000000
local macro_rules | `(tactic| walk_at "ne") => `(tactic| first | assumption | (apply Ne.symm; assumption) | exact L2.ne_of_none (by assumption) (by assumption) | exact Ne.symm (L2.ne_of_none (by assumption) (by assumption)))
local macro_rules | `(tactic| walk_at "hl") => `(tactic| first | assumption | exact L2.upd_same | (refine Eq.trans (L2.upd_ne (by walk_at "ne")) ?_; walk_at "hl"))
local macro_rules | `(tactic| walk_at "sd") => `(tactic| first | (with_reducible show (_ : Int) < _; omega) | (with_reducible show (_ : Int) ≤ _; omega) | assumption | decide | exact ⟨by assumption, by assumption⟩ | exact ⟨by decide, by decide⟩ | exact Or.inr ⟨by decide, by decide⟩ | exact Or.inl ⟨by omega, by omega⟩ | rfl)
local macro_rules | `(tactic| walk_at "st1") => `(tactic| first
  | refine ⟨_, rfl, ?_⟩
  | refine ⟨_, _, rfl, rfl, ?_⟩
  | refine ⟨_, _, rfl, ?_⟩
  | (refine ⟨_, _, _, _, rfl, rfl, L2.SqL.of (by walk_at "hl"), rfl, ?_⟩)
  | (refine ⟨_, _, _, _, rfl, rfl, L2.SqT.of (by walk_at "hl"), rfl, ?_⟩)
  | (refine ⟨_, _, _, _, rfl, rfl, (by walk_at "hl"), rfl, ?_⟩)
  | (refine And.intro (by walk_at "sd") ?_)
  )
local macro_rules | `(tactic| walk_at "st") => `(tactic| repeat walk_at "st1")
local macro_rules | `(tactic| walk_at "op") => `(tactic| try dsimp only [L2.tSeq, L2.tAsg, L2.tOp, L2.tVar, L2.tC, L2.gSub, L2.rI, L2.rI0, L2.rIxL, L2.rIxT, L2.rSetL, L2.tIfS, L2.tTest, L2.tRet, L2.gName, L2.tNext, L2.tAnd, L2.tOr, L2.tNot, L2.tAndV, L2.tOrV, L2.tNotV, L2.tB, L2.tCB, L2.tCons, L2.tNil, L2.tCall, L2.tTup, L2.tLst, L2.tChain, L2.tUn, L2.tPar, L2.tDrop, L2.tIf, L2.tBM, L2.tBM0, L2.rAppend, L2.rCat, L2.rIsi, L2.rIsiT, L2.gTup, L2.gCons, L2.gNil, Fm.tFor_eq, Fm.tLc_eq, Fm.tLc2_eq, L2.iTup, L2.iList, L2.iRng1, L2.iRng2, L2.tSl, L2.tPart, L2.tNoPart, L2.rSlL, L2.rEq, L2.rNe, L2.rU, L2.rEqD, L2.rNeD, Fm.tRevT, Fm.rLenS, Fm.rTupOf, Fm.rLstOf, L2.tDNewK, L2.tCallS, L2.WE, Fm.wKeep, Fm.rIsK, Fm.rIsKT, List.cons_append, List.nil_append, L2.tYes])
namespace Fm
open PySem PySem.Spec PyProof.Rows L2
section
variable {P : Program} {w : World} {K : PySem.W.Frag} {mg : Str → Option Value} {base : Heap}
/-! ### what the law compares -/
theorem std_no (rows : List (List Int)) (x : Int) : ∀ d ∈ rows.map rowD ++ [PyData.int x], noList d = true := fun d hd => by
  rcases List.mem_append.mp hd with hd | hd
  · obtain ⟨r, _, rfl⟩ := List.mem_map.mp hd
    exact noList_ints' r
  · rw [List.mem_singleton.mp hd]
    unfold noList
    rfl
theorem fit_rowD {r : List Int} (h : r.length ≤ 6) (hc : ∀ c ∈ r, c.natAbs < 10 ^ 40) : Fit 261 1 (rowD r) := by
  have q := fit_tup (n := 41) (k := 0) (ds := r.map PyData.int) (fun d hd => by obtain ⟨c, hm, rfl⟩ := List.mem_map.mp hd; exact fit_int (hc c hm)) (fun d hd => by obtain ⟨c, _, rfl⟩ := List.mem_map.mp hd; unfold noList; rfl)
  rw [List.length_map] at q
  exact q.mono (by omega) (Nat.le_refl _)
theorem fit_std {rows : List (List Int)} {out : Int} (hn : rows.length ≤ 4) (h : ∀ r ∈ rows, r.length ≤ 6 ∧ ∀ c ∈ r, c.natAbs < 10 ^ 40) (ho : out.natAbs < 10 ^ 40) : Fit 1400 2 (stD rows out) := by
  have q := fit_tup (n := 261) (k := 1) (ds := rows.map rowD ++ [.int out]) (fun d hd => by
    rcases List.mem_append.mp hd with hd | hd
    · obtain ⟨r, hr, rfl⟩ := List.mem_map.mp hd
      exact fit_rowD (h r hr).1 (h r hr).2
    · rw [List.mem_singleton.mp hd]
      exact (fit_int ho).mono (by omega) (by omega)) (std_no rows out)
  rw [List.length_append, List.length_map, List.length_singleton] at q
  exact q.mono (by omega) (Nat.le_refl _)
theorem un65 {k : Nat} {A : Around} (r : Room k A) : A.units + 65 < cLine := by have := r.un; omega
theorem one_due {fs : List PyData} {m n : Nat} {rows r1 r2 : List (List Int)} {out o1 o2 : Int} (hN : HouseN m n (.tuple fs)) (hgo : goLt fs m n) (hF : FairH fs m n) (e1 : EndOf fs m n rows out r1 o1) (e2 : EndOf fs m n rows out r2 o2) : r1 = r2 ∧ o1 = o2 := by
  have B := tabs_of hN hgo
  have h := FmC.one_end B.tables (FmC.three_of B hF) e1.run e2.run (FmC.st_still fun r hr => ⟨(e1.row r hr).2.1, (e1.row r hr).2.2⟩) (FmC.st_still fun r hr => ⟨(e2.row r hr).2.1, (e2.row r hr).2.2⟩)
  exact FmC.st_inj e1.len e2.len (fun r hr => ⟨(e1.row r hr).1, (e1.row r hr).2.1⟩) (fun r hr => ⟨(e2.row r hr).1, (e2.row r hr).2.1⟩) e1.pos e2.pos h
theorem sum_most {k : Int} : ∀ {r : List Int}, (∀ c ∈ r, c ≤ k) → r.sum ≤ k * (r.length : Int)
  | [], _ => by show (0 : Int) ≤ k * ((0 : Nat) : Int); omega
  | x :: r, h => by
    have h1 := h x List.mem_cons_self
    have h2 := sum_most (r := r) fun c hc => h c (List.mem_cons_of_mem _ hc)
    rw [List.sum_cons, List.length_cons, Int.natCast_add, Int.mul_add]
    omega
theorem nn_le : ∀ {r : List Int}, FmC.NN r → ∀ c ∈ r, c ≤ r.sum
  | x :: r, h, c, hc => by
    have h1 := h x List.mem_cons_self
    have hr : FmC.NN r := fun y hy => h y (List.mem_cons_of_mem _ hy)
    have h2 := hr.sum
    rw [List.sum_cons]
    rcases List.mem_cons.mp hc with rfl | hc
    · omega
    · have := nn_le hr c hc
      omega
theorem EndOf.fit {fs : List PyData} {m n : Nat} {rows r : List (List Int)} {out o : Int} (E : EndOf fs m n rows out r o) (hn : n ≤ 4) (hm : m ≤ 6) (ho : o < 10 ^ 30) : Fit 1400 2 (stD r o) := by
  have e30 : (10 : Int) ^ 30 = 1000000000000000000000000000000 := by decide
  have e40 : (10 : Nat) ^ 40 = 10000000000000000000000000000000000000000 := by decide
  refine fit_std (by rw [E.len]; exact hn) (fun x hx => ⟨by rw [(E.row x hx).1]; exact hm, fun c hc => ?_⟩) (by have := E.pos; omega)
  have h1 := nn_le (E.row x hx).2.1 c hc
  have h2 := (E.row x hx).2.1 c hc
  have h3 := (E.row x hx).2.2
  omega
theorem addRows_st {m n : Nat} {A B : List (List Int)} {oA oB : Int} (l1 : A.length = n) (l2 : B.length = n) (k1 : StOk m A oA) (k2 : StOk m B oB) : FmC.stSt n (addRows A B) (oA + oB) = FmC.stSt n A oA + FmC.stSt n B oB :=
  FmC.st_add l1 l2 (fun r hr => ⟨k1.len r hr, k1.pos r hr⟩) (fun r hr => ⟨k2.len r hr, k2.pos r hr⟩) k1.out k2.out
structure Ok (m n : Nat) (A : List (List Int)) (o k : Int) : Prop where
  st : StOk m A o
  len : A.length = n
  sum : ∀ r ∈ A, r.sum ≤ k
theorem addR_nn' {a b : List Int} (ha : ∀ c ∈ a, 0 ≤ c) (hb : ∀ c ∈ b, 0 ≤ c) : ∀ c ∈ FmC.addR a b, 0 ≤ c := FmC.addR_nn ha hb
theorem Ok.add {m n : Nat} {A B : List (List Int)} {oA oB k k' : Int} (h : Ok m n A oA k) (h' : Ok m n B oB k') : Ok m n (addRows A B) (oA + oB) (k + k') := by
  have key : ∀ r ∈ addRows A B, r.length = m ∧ (∀ c ∈ r, 0 ≤ c) ∧ r.sum ≤ k + k' := fun r hr => by
    obtain ⟨i, hi⟩ := List.getElem?_of_mem hr
    unfold addRows at hi
    rw [List.getElem?_zipWith] at hi
    cases e1 : A[i]? with
    | none => rw [e1] at hi; cases hi
    | some a =>
      cases e2 : B[i]? with
      | none => rw [e1, e2] at hi; cases hi
      | some b =>
        rw [e1, e2] at hi
        cases hi
        have ma := List.mem_of_getElem? e1
        have mb := List.mem_of_getElem? e2
        have la := h.st.len a ma
        have lb := h'.st.len b mb
        refine ⟨FmC.addR_len la lb, FmC.addR_nn (h.st.pos a ma) (h'.st.pos b mb), ?_⟩
        have := FmC.addR_sum (c := a) (r := b) (by omega)
        have h1 := h.sum a ma
        have h2 := h'.sum b mb
        show (FmC.addR a b).sum ≤ _
        omega
  refine ⟨⟨fun r hr => (key r hr).1, fun r hr => (key r hr).2.1, ?_⟩, ?_, fun r hr => (key r hr).2.2⟩
  · have := h.st.out
    have := h'.st.out
    omega
  · unfold addRows
    rw [List.length_zipWith, h.len, h'.len, Nat.min_self]
theorem EndOf.ok {fs : List PyData} {m n : Nat} {A r : List (List Int)} {oA o : Int} (e : EndOf fs m n A oA r o) : Ok m n r o 1 := ⟨⟨fun x hx => (e.row x hx).1, fun x hx => (e.row x hx).2.1, e.pos⟩, e.len, fun x hx => (e.row x hx).2.2⟩
theorem Ok.lt {m n : Nat} {A : List (List Int)} {o k : Int} (h : Ok m n A o k) (hk : k < 10 ^ 36) : ∀ r ∈ A, r.sum < 10 ^ 36 := fun r hr => Int.lt_of_le_of_lt (h.sum r hr) hk
theorem some_ok {m n : Nat} {A : List (List Int)} {o : Int} (h : StOk m A o) (hl : A.length = n) (hm : m ≤ 6) (hk : ∀ r ∈ A, ∀ c ∈ r, c ≤ 10 ^ 18) : Ok m n A o (10 ^ 19) := by
  refine ⟨h, hl, fun r hr => ?_⟩
  have e18 : (10 : Int) ^ 18 = 1000000000000000000 := by decide
  have e19 : (10 : Int) ^ 19 = 10000000000000000000 := by decide
  have h1 := sum_most (hk r hr)
  rw [h.len r hr, e18] at h1
  rw [e19]
  have : 1000000000000000000 * (m : Int) ≤ 6000000000000000000 := by omega
  omega
theorem people_end {fs : List PyData} {m n : Nat} {A r : List (List Int)} {oA o : Int} (hN : HouseN m n (.tuple fs)) (hgo : goLt fs m n) (hA : A.length = n) (hok : StOk m A oA) (e : EndOf fs m n A oA r o) : (A.map List.sum).sum + oA = (r.map List.sum).sum + o := by
  have T := tabs_of hN hgo
  have h1 := FmC.heads_st hA (fun x hx => ⟨hok.len x hx, hok.pos x hx⟩) hok.out
  have h2 := FmC.heads_st e.len (fun x hx => ⟨(e.row x hx).1, (e.row x hx).2.1⟩) e.pos
  rw [← h1, ← h2, FmC.heads_run T e.run]
theorem times_any {K : PySem.W.Frag} {H : Hp} {Q : VK} {l : Addr} {v : V} {k : Nat} (h : H l = some (.tup [v])) (h1 : 1 ≤ k) (h2 : k ≤ 1000) (q : ∀ p H', H' p = some (.tup (List.replicate k v)) → Same H H' → Q (.ref p) H') : rTimes K (.ref l) (.int k) H Q := by
  by_cases e : k = 1
  · subst e
    exact .inl ⟨l, _, rfl, rfl, SqT.of h, q l H h (Same.refl H)⟩
  · refine .inr ⟨l, k, _, rfl, rfl, SqT.of h, by simp, by omega, by omega, by simp, fun p hp => ?_⟩
    have ef : (List.replicate ((k : Int)).toNat [v]).flatten = List.replicate k v := by
      rw [Int.toNat_natCast]
      simp
    rw [ef]
    exact q p _ upd_same (same_new hp)
theorem sum_nn {r : List Int} (h : ∀ c ∈ r, 0 ≤ c) : 0 ≤ r.sum := by
  induction r with
  | nil => exact Int.le_refl _
  | cons x l ih =>
    rw [List.sum_cons]
    have h1 := h x List.mem_cons_self
    have h2 := ih fun c hc => h c (List.mem_cons_of_mem _ hc)
    omega
theorem end_out {fs : List PyData} {m n : Nat} {A r : List (List Int)} {oA o k : Int} (hN : HouseN m n (.tuple fs)) (hgo : goLt fs m n) (hn : n ≤ 4) (hA : Ok m n A oA k) (hk : k ≤ 10 ^ 20) (ho : oA ≤ 10 ^ 20) (e : EndOf fs m n A oA r o) : o < 10 ^ 30 := by
  have h := people_end hN hgo hA.len hA.st e
  have e20 : (10 : Int) ^ 20 = 100000000000000000000 := by decide
  have e30 : (10 : Int) ^ 30 = 1000000000000000000000000000000 := by decide
  have h1 : (A.map List.sum).sum ≤ 100000000000000000000 * ((A.map List.sum).length : Int) := sum_most fun c hc => by
    obtain ⟨x, hx, rfl⟩ := List.mem_map.mp hc
    have := hA.sum x hx
    omega
  rw [List.length_map, hA.len] at h1
  have h2 : 0 ≤ (r.map List.sum).sum := sum_nn fun c hc => by
    obtain ⟨x, hx, rfl⟩ := List.mem_map.mp hc
    exact sum_nn (e.row x hx).2.1
  omega
theorem zero_row (m : Nat) : List.replicate m (V.int 0) = ((List.replicate m (0 : Int)).map V.int) := by rw [List.map_replicate]
end
end Fm
end FXP
section FXW
set_option Elab.async false
set_option linter.all false
set_option maxRecDepth 100000
set_option maxHeartbeats 4000000
local macro_rules | `(tactic| walk_at "ne") => `(tactic| first | assumption | (apply Ne.symm; assumption) | exact L2.ne_of_none (by assumption) (by assumption) | exact Ne.symm (L2.ne_of_none (by assumption) (by assumption)))
local macro_rules | `(tactic| walk_at "hl") => `(tactic| first | assumption | exact L2.upd_same | (refine Eq.trans (L2.upd_ne (by walk_at "ne")) ?_; walk_at "hl"))
local macro_rules | `(tactic| walk_at "sd") => `(tactic| first | (with_reducible show (_ : Int) < _; omega) | (with_reducible show (_ : Int) ≤ _; omega) | assumption | decide | exact ⟨by assumption, by assumption⟩ | exact ⟨by decide, by decide⟩ | exact Or.inr ⟨by decide, by decide⟩ | exact Or.inl ⟨by omega, by omega⟩ | rfl)
local macro_rules | `(tactic| walk_at "st1") => `(tactic| first
  | refine ⟨_, rfl, ?_⟩
  | refine ⟨_, _, rfl, rfl, ?_⟩
  | refine ⟨_, _, rfl, ?_⟩
  | (refine ⟨_, _, _, _, rfl, rfl, L2.SqL.of (by walk_at "hl"), rfl, ?_⟩)
  | (refine ⟨_, _, _, _, rfl, rfl, L2.SqT.of (by walk_at "hl"), rfl, ?_⟩)
  | (refine ⟨_, _, _, _, rfl, rfl, (by walk_at "hl"), rfl, ?_⟩)
  | (refine And.intro (by walk_at "sd") ?_)
  )
local macro_rules | `(tactic| walk_at "st") => `(tactic| repeat walk_at "st1")
local macro_rules | `(tactic| walk_at "op") => `(tactic| try dsimp only [L2.tSeq, L2.tAsg, L2.tOp, L2.tVar, L2.tC, L2.gSub, L2.rI, L2.rI0, L2.rIxL, L2.rIxT, L2.rSetL, L2.tIfS, L2.tTest, L2.tRet, L2.gName, L2.tNext, L2.tAnd, L2.tOr, L2.tNot, L2.tAndV, L2.tOrV, L2.tNotV, L2.tB, L2.tCB, L2.tCons, L2.tNil, L2.tCall, L2.tTup, L2.tLst, L2.tChain, L2.tUn, L2.tPar, L2.tDrop, L2.tIf, L2.tBM, L2.tBM0, L2.rAppend, L2.rCat, L2.rIsi, L2.rIsiT, L2.gTup, L2.gCons, L2.gNil, Fm.tFor_eq, Fm.tLc_eq, Fm.tLc2_eq, L2.iTup, L2.iList, L2.iRng1, L2.iRng2, L2.tSl, L2.tPart, L2.tNoPart, L2.rSlL, L2.rEq, L2.rNe, L2.rU, L2.rEqD, L2.rNeD, Fm.tRevT, Fm.rLenS, Fm.rTupOf, Fm.rLstOf, L2.tDNewK, L2.tCallS, L2.WE, Fm.wKeep, Fm.rIsK, Fm.rIsKT, List.cons_append, List.nil_append, L2.tYes])
namespace Fm
open PySem PySem.Spec PyProof.Rows L2
abbrev s_law : Stmt := top 52
abbrev N_law : List Str := ["script", "cell", "jar", "house", "m", "turn", "low", "floors", "floor", "standing", "due", "both"]
theorem sc_law : FnScope N_law ["script"] (defScope s_law) := ⟨rfl, rfl, rfl, by decide +kernel, rfl, by decide +kernel, by decide +kernel⟩
section
variable {P : Program} {w : World} {K : PySem.W.Frag} {mg : Str → Option Value} {base : Heap}
/-! ### the law -/
theorem jar_at {H : Hp} {p : Addr} {N : Nat} (h : Jar H p N) : ∃ ys, H p = some (.lst ys) := by
  obtain ⟨x, y, c, e, _⟩ := h
  exact ⟨_, e⟩
def spLaw (K : PySem.W.Frag) : Sp := fun vs H Q _ => ∃ (a : Addr) (ns : List Int), vs = [.ref a] ∧ ns.length + 1 ≤ sizeLine ∧ SqL K H a (ns.map V.int) ∧ ∀ H', Q (.bl true) H'
theorem ok_law {f : Addr} {fd : FuncData} (F : Fun K "law" "law" s_law f fd) (T : Nms mg) (c_law_jar : CallOk P w K mg base CX0 1 "_law_jar" ["cell"] spJar) (c_law_dip : CallOk P w K mg base CX0 1 "_law_dip" ["jar", "many"] spDip)
    (c_law_house : CallOk P w K mg base CX0 4 "_law_house" ["jar", "most", "floors"] spLHouse) (c_law_counts : CallOk P w K mg base CX0 2 "_law_counts" ["jar", "m"] spCounts)
    (c_law_due : CallOk P w K mg base CX0 4 "_law_due" ["house", "standing"] spDue) (c_end_of : CallOk P w K mg base CX0 9 "end_of" ["house", "standing"] spEndOf)
    (c_together : CallOk P w K mg base (L2.CX P w) 7 "together" ["house", "one", "other"] spTogether) :
    RunG P w K mg base 10 f fd ["script"] (spLaw K) := by
    refine run_g F sc_law fun cdv A outer s H vs Q hg hr h => ?_
    obtain ⟨a, ns, rfl, hn, hS, k⟩ := h
    have nd := sc_law.nd
    refine ⟨_, (pss_cons (ps_for PassesOwn.never rfl (pi_list (pe_op op_cat (pe_slice (r := rSlL K) sl_list (pv 0) po_none (po_some pe_int)) (pe_lst (pa_cons pe_int pa_nil)))) (pg_name (i := 1) nd rfl (Or.inl rfl)) (pss_cons (ps_set (i := 2) nd rfl (Or.inr rfl) (pe_cc c_law_jar (hr.mono (by omega)) (pa_cons (pv 1) pa_nil)))
      (pss_cons (ps_set (i := 3) nd rfl (Or.inl rfl) (pe_cc c_law_house (hr.mono (by omega)) (pa_cons (pv 2) (pa_cons pe_int (pa_cons pe_int pa_nil)))))
      (pss_cons (ps_set (i := 4) nd rfl (Or.inr rfl) (pe_callB (r := rLenS K) call_lenS (by rfl) T.n_len (by decide +kernel) (pa_cons (pe_ix (r := rIxT K) ix_tup (pe_ix (r := rIxT K) ix_tup (pv 3) pe_int (fun _ _ => rfl)) pe_int (fun _ _ => rfl)) pa_nil)))
      (pss_one (ps_for PassesOwn.never rfl (pi_range1 rfl T.n_range (pa_cons pe_int pa_nil)) (pg_name (i := 5) nd rfl (Or.inl rfl)) (pss_cons (ps_set (i := 6) nd rfl (Or.inr rfl) (pe_cmpR op_eq (pe_cc c_law_dip (hr.mono (by omega)) (pa_cons (pv 2) (pa_cons pe_int pa_nil))) pe_int (nomark _)))
      (pss_cons (ps_setLc (i := 7) (own := [("floor", 8)]) (g := (gName 8)) (tt := tYes) (by rfl) nd rfl rfl (sw_true rfl rfl rfl (by decide +kernel)) (pi_range1 rfl T.n_range (pa_cons (pe_callB (r := rLenS K) call_lenS (by rfl) T.n_len (by decide +kernel) (pa_cons (pv 3) pa_nil)) pa_nil)) (blkOk_by (own := [("floor", 8)]) (N := N_law) (sc := defScope s_law) (by decide +kernel)) (fun _ _ _ _ _ => (pg_name (i := 8) nd rfl (Or.inl rfl))) (fun _ _ _ _ _ => pts_nil) (fun _ _ _ _ _ => (pe_ifExp (PW.pt (pw_and (pt_val (pv 6)) (pw_and1 (pt_cmpR op_gt (pv 8) pe_int (nomark _))))) (pe_op (r := rTimes K) op_times (pe_tup (pa_cons pe_int pa_nil)) (pv 4)) (pe_cc c_law_counts (hr.mono (by omega)) (pa_cons (pv 2) (pa_cons (pv 4) pa_nil))))))
      (pss_cons (ps_set (i := 9) nd rfl (Or.inl rfl) (pe_op (r := rCatA K) op_catA (pe_callTy (r := rTupOf K) call_tupOf (by rfl) T.n_tuple (by decide +kernel) (pa_cons (pv 7) pa_nil)) (pe_tup (pa_cons (pe_ix (r := rIxL K) ix_list (pe_lst (pa_cons pe_int (pa_cons pe_int (pa_cons (pe_op op_pow pe_int pe_int) pa_nil)))) (pe_cc c_law_dip (hr.mono (by omega)) (pa_cons (pv 2) (pa_cons pe_int pa_nil))) (fun _ _ => rfl)) pa_nil))))
      (pss_cons (ps_set (i := 10) nd rfl (Or.inl rfl) (pe_cc c_law_due (hr.mono (by omega)) (pa_cons (pv 3) (pa_cons (pv 9) pa_nil))))
      (pss_cons (ps_if (PW.pt (pw_or (pt_cmpR op_ne (pe_callB (call_repr hg hr.units) (by rfl) T.n_repr (by decide +kernel) (pa_cons (pe_cc c_end_of (hr.mono (by omega)) (pa_cons (pv 3) (pa_cons (pv 9) pa_nil))) pa_nil)) (pe_callB (call_repr hg hr.units) (by rfl) T.n_repr (by decide +kernel) (pa_cons (pv 10) pa_nil)) (nomark _)) (pw_or1 (pt_cmpR op_ne (pe_callB (call_repr hg hr.units) (by rfl) T.n_repr (by decide +kernel) (pa_cons (pe_cc c_end_of (hr.mono (by omega)) (pa_cons (pv 3) (pa_cons (pv 10) pa_nil))) pa_nil)) (pe_callB (call_repr hg hr.units) (by rfl) T.n_repr (by decide +kernel) (pa_cons (pv 10) pa_nil)) (nomark _))))) (pss_one (ps_ret pe_bl)) pss_nil)
      (pss_cons (ps_set (i := 11) nd rfl (Or.inl rfl) (pe_cx c_together (hr.mono (by omega)) (pa_cons (pv 3) (pa_cons (pv 9) (pa_cons (pv 9) pa_nil)))))
      (pss_one (ps_if (pt_cmpR op_ne (pe_callB (call_repr hg hr.units) (by rfl) T.n_repr (by decide +kernel) (pa_cons (pe_cc c_end_of (hr.mono (by omega)) (pa_cons (pv 3) (pa_cons (pv 11) pa_nil))) pa_nil)) (pe_callB (call_repr hg hr.units) (by rfl) T.n_repr (by decide +kernel) (pa_cons (pe_cc c_law_due (hr.mono (by omega)) (pa_cons (pv 3) (pa_cons (pv 11) pa_nil))) pa_nil)) (nomark _)) (pss_one (ps_ret pe_bl)) pss_nil))))))))))))))
      (pss_one (ps_ret pe_bl))), ?_⟩
    walk_at "op"
    refine ⟨_, rfl, _, rfl, a, _, rfl, hS, fun S1 h1 => ?_⟩
    refine ⟨by show 1 ≤ sizeLine; decide, fun S2 h2 => ?_⟩
    have S12 : S1 ≠ S2 := ne_of_none upd_same h2
    have lz : (cutV (ns.map V.int) none (some 8)).length + [V.int 0].length ≤ sizeLine := by
      unfold cutV
      rw [List.length_take, List.length_drop, List.length_map]
      show _ + 1 ≤ _
      omega
    have cells : ∀ x ∈ cutV (ns.map V.int) none (some 8) ++ [V.int 0], ∃ c, x = V.int c := fun x hx => by
      rcases List.mem_append.mp hx with hx | hx
      · obtain ⟨c, _, rfl⟩ := List.mem_map.mp (List.mem_of_mem_drop (List.mem_of_mem_take hx))
        exact ⟨c, rfl⟩
      · simp only [List.mem_cons, List.not_mem_nil, or_false] at hx
        exact ⟨0, hx⟩
    refine ⟨_, _, _, _, rfl, rfl, by rw [upd_ne S12]; exact upd_same, upd_same, lz, fun S h3 => ?_⟩
    generalize cutV (ns.map V.int) none (some 8) ++ [V.int 0] = zs at cells ⊢
    have hS3 : upd (upd (upd H S1 (.lst (cutV (ns.map V.int) none (some 8)))) S2 (.lst [.int 0])) S (.lst zs) S = some (.lst zs) := upd_same
    generalize upd (upd (upd H S1 (.lst (cutV (ns.map V.int) none (some 8)))) S2 (.lst [.int 0])) S (.lst zs) = H3 at hS3 ⊢
    refine ⟨S, rfl, ⟨_, SqL.of hS3⟩, ?_⟩
    clear h1 h2 h3 lz
    refine fL (fun i σ H4 => H4 S = some (.lst zs) ∧ ∃ u1 u2 u3 u4 u5 u6 u7 u9 u10 u11, σ = [some (.ref a), u1, u2, u3, u4, u5, u6, u7, none, u9, u10, u11]) ⟨hS3, _, _, _, _, _, _, _, _, _, _, rfl⟩ (fun i σ H4 _ hp => SqL.of hp.1) ?_ ?_
    · rintro i x σ H4 hi ⟨hS4, u1, u2, u3, u4, u5, u6, u7, u9, u10, u11, rfl⟩
      obtain ⟨c, rfl⟩ := cells x (List.mem_of_getElem? hi)
      clear hi
      walk_at "op"
      refine ⟨_, rfl, c, rfl, fun p H5 hp hJ5 s5 => ?_⟩
      have Sp0 : S ≠ p := ne_of_none hS4 hp
      have hS5 := s5 _ _ hS4
      refine ⟨_, rfl, p, 6, 0, rfl, by decide, by decide, by decide, hJ5, fun hv H7 fs m n hD7 hN hF m6 hJ7 x7 => ?_⟩
      have hS7 := x7 _ _ hS5 Sp0
      have hgo := goLt_of hD7 hN
      have hmn : 1 ≤ n ∧ n ≤ 4 ∧ 1 ≤ m ∧ m ≤ 6 := by
        obtain ⟨_, _, _, z1, z2, z3, z4, _⟩ := hN
        exact ⟨z1, z2, z3, z4⟩
      obtain ⟨ah, af, hs, t0, t1, rfl, g1, g2, g3, hFl⟩ := floor_at hD7 hN (f := 0) (by omega)
      obtain ⟨ss, hss, hsl⟩ := stay_len hD7 hN (by omega) g1 g3 hFl
      refine ⟨_, rfl, ah, hs, 0, _, rfl, rfl, SqT.of g1, atI_nat (j := 0) g3, af, _, 0, _, rfl, rfl, SqT.of hFl.at_, rfl, t0, ss, rfl, .inr (SqT.of hss), ?_⟩
      rw [hsl]
      refine ⟨3, rfl, by decide, by decide, ?_⟩
      clear hS4 hS5 x7 s5 hp hJ5 hss hFl
      have e18 : (10 : Int) ^ (18 : Int).toNat = 10 ^ 18 := rfl
      have E18 : (10 : Int) ^ 18 = 1000000000000000000 := by decide
      have nah : ah ≠ p := by
        obtain ⟨a', _, e, _, z, _⟩ := hD7.isTup
        cases e
        exact z
      refine fR (fun i σ G => G S = some (.lst zs) ∧ Jar G p (1000 + i * 5000) ∧ Dat G p (.ref ah) (.tuple fs) ∧ G ah = some (.tup hs) ∧ ∃ u5 u6 u7 u9 u10 u11, σ = [some (.ref a), some (.int c), some (.ref p), some (.ref ah), some (.int (m : Nat)), u5, u6, u7, none, u9, u10, u11])
        ⟨hS7, hJ7.le (by omega), hD7, g1, _, _, _, _, _, _, rfl⟩ ?_ ?_
      · rintro i σ G hi ⟨hSG, hJG, hHG, hah, v5, v6, v7, v9, v10, v11, rfl⟩
        clear hS7 hJ7 hD7 g1
        walk_at "op"
        refine ⟨_, rfl, p, 2, 1000 + i * 5000, rfl, by decide, by decide, by omega, hJG, fun dd G1 d0 d1 hJ1 x1 => ?_⟩
        have hS1 := x1 _ _ hSG Sp0
        have hH1 := hHG.ext x1
        have ha1 := x1 _ _ hah nah
        refine ⟨rfl, ?_⟩
        generalize decide (V.int dd = V.int 0) = low
        try dsimp only [List.set]
        have nL0 := hJ1
        refine ⟨_, rfl, ah, hs, rfl, .inr (SqT.of ha1), _, rfl, by omega, by omega, ?_⟩
        rw [g2, Int.toNat_natCast]
        refine fun L hL => ?_
        have nJL := hJ1.ne hL
        refine lI walk_range (fun k G2 => Ext p G1 G2 ∧ Jar G2 p (1000 + i * 5000 + 1 + k * 100) ∧ ∃ (ws : List V) (rows : List (List Int)), G2 L = some (.lst ws) ∧ Dats G2 p ws (rows.map rowD) ∧ rows.length = k ∧ ∀ r ∈ rows, r.length = m ∧ ∀ c ∈ r, 0 ≤ c ∧ c ≤ 10 ^ 18)
          ⟨Same.ext (same_new hL) p, (hJ1.up nJL).le (by omega), [], [], upd_same, Dats.nil, rfl, fun r hr => by cases hr⟩ (fun _ _ _ _ => True.intro) ?_ ?_
        · rintro k' x _ G2 hk ⟨x2, hJ2, ws, rows, hw, hW, hrl, hbig⟩ ⟨rfl, rfl⟩
          walk_at "op"
          refine ⟨rfl, ?_⟩
          refine iteT ?_
          have fin : ∀ v G3 r, Ext p G2 G3 → Jar G3 p (1000 + i * 5000 + 1 + k' * 100 + 100) → Dat G3 p v (rowD r) → (r.length = m ∧ ∀ c ∈ r, 0 ≤ c ∧ c ≤ 10 ^ 18) →
              ∃ acc, G3 L = some (.lst acc) ∧ acc.length < sizeLine ∧ Ext p G1 (upd G3 L (.lst (acc ++ [v]))) ∧ Jar (upd G3 L (.lst (acc ++ [v]))) p (1000 + i * 5000 + 1 + (k' + 1) * 100) ∧ ∃ (ws : List V) (rows : List (List Int)), upd G3 L (.lst (acc ++ [v])) L = some (.lst ws) ∧ Dats (upd G3 L (.lst (acc ++ [v]))) p ws (rows.map rowD) ∧ rows.length = k' + 1 ∧ ∀ r ∈ rows, r.length = m ∧ ∀ c ∈ r, 0 ≤ c ∧ c ≤ 10 ^ 18 := fun v G3 r x3 hJ3 hr3 hb3 => by
            have hw3 := x3 _ _ hw nJL.symm
            refine ⟨ws, hw3, Nat.lt_of_le_of_lt (show ws.length ≤ 4 by rw [hW.1, List.length_map, hrl]; omega) (by rw [sizeLine_eq]; omega), (x2.trans x3).free hL, (hJ3.le (by omega)).up nJL, ws ++ [v], rows ++ [r], upd_same, ?_, by rw [List.length_append, hrl]; rfl, fun r' hr' => ?_⟩
            · rw [List.map_append]
              have hW3 : Dats G3 p ws (rows.map rowD) := ⟨hW.1, fun i x d a b => (hW.2 i x d a b).ext x3⟩
              exact (Dats.setL hw3 hW3 (fun d hd => by obtain ⟨r, _, rfl⟩ := List.mem_map.mp hd; exact noList_ints' _)).snoc (Dat.setL hw3 hr3 (noList_ints' _))
            · rcases List.mem_append.mp hr' with hr' | hr'
              · exact hbig r' hr'
              · rw [List.mem_singleton.mp hr']
                exact hb3
          have cnt := fun v G3 r hv hl hb hJ3 x3 => fin v G3 r x3 hJ3 hv ⟨hl, hb⟩
          cases low with
          | false =>
            refine ⟨_, rfl, false, rfl, ?_⟩
            rw [if_neg (by decide), if_neg (by decide)]
            exact ⟨_, rfl, _, rfl, p, m, _, rfl, by omega, by omega, hJ2, cnt⟩
          | true =>
            refine ⟨_, rfl, true, rfl, ?_⟩
            rw [if_pos rfl]
            refine ⟨_, rfl, _, _, rfl, rfl, _, rfl, ?_⟩
            split
            · refine ⟨by show 1 ≤ sizeLine; decide, fun t ht => ⟨_, rfl, times_any upd_same (by omega) (by omega) fun q G3 hq s3 => ?_⟩⟩
              have s4 := (same_new (o := .tup [V.int 0]) ht).trans s3
              have hJ3 := hJ2.same s4
              obtain ⟨ys, hys⟩ := jar_at hJ3
              rw [zero_row] at hq
              refine fin _ G3 (List.replicate m 0) (Same.ext s4 p) (hJ3.le (by omega)) (.tup hq (ne_of hq hys (fun z => by cases z)) (by rw [List.length_map, List.length_map]) fun i x d a b => (Dats.ints (p := p) _).2 i x d a b) ⟨List.length_replicate, fun c hc => ?_⟩
              rw [(List.mem_replicate.mp hc).2]
              exact ⟨by decide, by decide⟩
            · exact ⟨_, rfl, _, rfl, p, m, _, rfl, by omega, by omega, hJ2, cnt⟩
        · rintro G2 ⟨x2, hJ2, ws, rows, hw, hW, hrl, hbig⟩
          have hwl : ws.length = n := by rw [hW.1, List.length_map, hrl]
          have hH2 := hH1.ext x2
          have hS2 := x2 _ _ hS1 Sp0
          have ha2 := x2 _ _ ha1 nah
          walk_at "op"
          refine ⟨_, rfl, L, ws, rfl, .inl ⟨SqL.of hw, fun t1 ht1 => ?_⟩⟩
          refine ⟨10, 18, rfl, rfl, ⟨by decide, by decide, by decide⟩, ?_⟩
          rw [e18]
          refine ⟨by show 3 ≤ sizeLine; decide, fun W0 hW0 => ?_⟩
          have n1 : t1 ≠ p := (hJ2.ne ht1).symm
          have sa := same_new (o := .tup ws) ht1
          have sb := same_new (o := .lst [V.int 0, V.int 7, V.int (10 ^ 18)]) hW0
          have sab := sa.trans sb
          have ht1' := sb _ _ (show upd G2 t1 (.tup ws) t1 = some (.tup ws) from upd_same)
          have hW1 : upd (upd G2 t1 (.tup ws)) W0 (.lst [V.int 0, V.int 7, V.int (10 ^ 18)]) W0 = some (.lst [V.int 0, V.int 7, V.int (10 ^ 18)]) := upd_same
          have hJ3 := hJ2.same sab
          have nJW := (hJ2.same sa).ne hW0
          generalize upd (upd G2 t1 (.tup ws)) W0 (.lst [V.int 0, V.int 7, V.int (10 ^ 18)]) = G3 at *
          refine ⟨_, rfl, p, 3, _, rfl, by decide, by decide, by omega, hJ3, fun de G4 d2 d3 hJ4 x4 => ?_⟩
          obtain ⟨dn, rfl⟩ : ∃ dn : Nat, de = (dn : Int) := ⟨de.toNat, by omega⟩
          obtain ⟨wd, hwd, w1, w18⟩ : ∃ wd : Int, ([V.int 0, V.int 7, V.int (10 ^ 18)] : List V)[dn]? = some (.int wd) ∧ 0 ≤ wd ∧ wd ≤ 10 ^ 18 := by
            have : dn = 0 ∨ dn = 1 ∨ dn = 2 := by omega
            rcases this with rfl | rfl | rfl
            · exact ⟨0, rfl, by decide, by decide⟩
            · exact ⟨7, rfl, by decide, by decide⟩
            · exact ⟨10 ^ 18, rfl, by decide, by decide⟩
          refine ⟨W0, _, _, _, rfl, rfl, SqL.of (x4 _ _ hW1 nJW.symm), atI_nat hwd, ?_⟩
          refine ⟨by show 1 ≤ sizeLine; decide, fun t2 ht2 => ?_⟩
          have h14 := x4 _ _ ht1' n1
          have n12 : t1 ≠ t2 := ne_of_none h14 ht2
          have s4 := same_new (o := .tup [V.int wd]) ht2
          refine ⟨t1, t2, ws, _, rfl, rfl, SqT.of (s4 _ _ h14), SqT.of upd_same, Nat.le_of_lt (Nat.lt_of_le_of_lt (show ws.length + 1 ≤ 5 by omega) (by rw [sizeLine_eq]; omega)), fun e => ?_, fun _ e => (by cases e), fun _ _ w hw5 => ?_⟩
          · rw [e] at hwl
            have : ([] : List V).length = 0 := rfl
            omega
          have x24 := ((Same.ext sab p).trans x4).trans (Same.ext s4 p)
          have hW3 : Dats (upd G4 t2 (.tup [V.int wd])) p ws (rows.map rowD) := ⟨hW.1, fun i x d a b => (hW.2 i x d a b).ext x24⟩
          have hD := Dat.new hw5 ((hJ4.same s4).ne hw5).symm (hW3.snoc (.int wd))
          have s5 := same_new (o := .tup (ws ++ [V.int wd])) hw5
          have hJ5 := (hJ4.same s4).same s5
          have x25 := x24.trans (Same.ext s5 p)
          have hH5 := hH2.ext x25
          have hS5 := x25 _ _ hS2 Sp0
          have ha5 := x25 _ _ ha2 nah
          have ok : StOk m rows wd := ⟨fun r hr => (hbig r hr).1, fun r hr c hc => ((hbig r hr).2 c hc).1, w1⟩
          have k19 := some_ok ok hrl hmn.2.2.2 (fun r hr c hc => ((hbig r hr).2 c hc).2)
          clear hH1 hS1 ha1 hH2 hS2 ha2 hW hW1 hW3 sab sa sb ht1' h14 hJ2 hJ3 hJ4 x24 x25 hw x1 x2 x4
          change Dat _ p (.ref w) (stD rows wd) at hD
          generalize upd (upd G4 t2 (.tup [V.int wd])) w (.tup (ws ++ [V.int wd])) = G5 at *
          obtain ⟨uj, huj⟩ := hJ5.here
          refine ⟨_, rfl, _, rfl, p, p, uj, .ref ah, .ref w, fs, m, n, rows, wd, rfl, huj, hH5, hN, hD, hrl, ok, fun dv G6 dr dq hE hDv s6 => ?_⟩
          have q1 : (10 : Int) ^ 19 ≤ 10 ^ 20 := by decide
          have q2 : (10 : Int) ^ 19 + 10 ^ 19 ≤ 10 ^ 20 := by decide
          have q3 : (10 : Int) ^ 19 < 10 ^ 36 := by decide
          have q4 : (10 : Int) ^ 19 + 10 ^ 19 < 10 ^ 36 := by decide
          have q5 : (1 : Int) < 10 ^ 36 := by decide
          have E20 : (10 : Int) ^ 20 = 100000000000000000000 := by decide
          have hout := end_out hN hgo hmn.2.1 k19 q1 (by omega) hE
          have hfit := hE.fit hmn.2.1 hmn.2.2.2 hout
          refine ⟨_, rfl, _, rfl, .ref ah, .ref w, p, p, uj, fs, m, n, rows, wd, rfl, s6 _ _ huj, hH5.same s6, hN, hF, hD.same s6, hrl, ok, k19.lt q3, fun ev G7 r2 o2 hE2 hEv s7 => ?_⟩
          obtain ⟨e1, e2⟩ := one_due hN hgo hF hE2 hE
          rw [e1, e2] at hEv
          have s67 := s6.trans s7
          have hDv7 := hDv.same s7
          clear hE2 e1 e2 hDv s6 s7
          refine ⟨ev, p, _, _, _, rfl, hEv, hfit, by decide, by decide, ?_⟩
          refine ⟨_, rfl, dv, p, _, _, _, rfl, hDv7, hfit, by decide, by decide, ?_⟩
          refine ⟨rfl, ?_⟩
          rw [decide_eq_true rfl]
          refine ⟨false, rfl, ?_⟩
          rw [if_neg (by decide)]
          have hself : EndOf fs m n dr dq dr dq := ⟨hE.len, hE.row, hE.pos, .nil _⟩
          refine ⟨_, rfl, _, rfl, .ref ah, dv, p, p, uj, fs, m, n, dr, dq, rfl, s67 _ _ huj, hH5.same s67, hN, hF, hDv7, hE.len, hE.ok.st, hE.ok.lt q5, fun ev2 G8 r2 o2 hE2 hEv2 s8 => ?_⟩
          obtain ⟨e1, e2⟩ := one_due hN hgo hF hE2 hself
          rw [e1, e2] at hEv2
          have s68 := s67.trans s8
          refine ⟨ev2, p, _, _, _, rfl, hEv2, hfit, by decide, by decide, ?_⟩
          refine ⟨_, rfl, dv, p, _, _, _, rfl, hDv7.same s8, hfit, by decide, by decide, ?_⟩
          refine ⟨rfl, ?_⟩
          rw [decide_eq_true rfl]
          refine ⟨_, rfl, iteF ?_⟩
          clear hE2 e1 e2 hEv hEv2 hDv7 hself s67 s8
          have hD8 := hD.same s68
          refine ⟨_, rfl, _, rfl, _, rfl, .ref ah, .ref w, .ref w, p, p, .tuple fs, m, n, rows, rows, wd, wd, uj, rfl, s68 _ _ huj, hH5.same s68, hN, hD8, hD8, hrl, hrl, ok, ok, fun bv G9 hB s9 => ?_⟩
          have s69 := s68.trans s9
          have kb := k19.add k19
          refine ⟨_, rfl, _, rfl, .ref ah, bv, p, p, uj, fs, m, n, addRows rows rows, wd + wd, rfl, s69 _ _ huj, hH5.same s69, hN, hF, hB, kb.len, kb.st, kb.lt q4, fun ev3 G10 r3 o3 hE3 hEv3 s10 => ?_⟩
          have hfit3 := hE3.fit hmn.2.1 hmn.2.2.2 (end_out hN hgo hmn.2.1 kb q2 (by omega) hE3)
          refine ⟨ev3, p, _, _, _, rfl, hEv3, hfit3, by decide, by decide, ?_⟩
          have s610 := s69.trans s10
          refine ⟨_, rfl, _, rfl, p, p, uj, .ref ah, bv, fs, m, n, addRows rows rows, wd + wd, rfl, s610 _ _ huj, hH5.same s610, hN, hB.same s10, kb.len, kb.st, fun dv4 G11 r4 o4 hE4 hDv4 s11 => ?_⟩
          obtain ⟨e1, e2⟩ := one_due hN hgo hF hE4 hE3
          rw [e1, e2] at hDv4
          have s611 := s610.trans s11
          refine ⟨dv4, p, _, _, _, rfl, hDv4, hfit3, by decide, by decide, ?_⟩
          refine ⟨rfl, ?_⟩
          rw [decide_eq_true rfl]
          refine ⟨_, rfl, iteF ?_⟩
          exact ⟨s611 _ _ hS5, (hJ5.same s611).le (by omega), hH5.same s611, s611 _ _ ha5, _, _, _, _, _, _, rfl⟩
      · rintro σ G ⟨hSG, hJG, hHG, hah, v5, v6, v7, v9, v10, v11, rfl⟩
        exact ⟨hSG, _, _, _, _, _, _, _, _, _, _, rfl⟩
    · rintro σ H4 ⟨hS4, u1, u2, u3, u4, u5, u6, u7, u9, u10, u11, rfl⟩
      walk_at "op"
      exact k _
end
end Fm
end FXW
section FFmAll21
set_option Elab.async false
set_option linter.all false
set_option maxRecDepth 100000
set_option maxHeartbeats 4000000
namespace Fm
open PySem PySem.Spec PyProof.Rows L2
theorem df_mk {K : PySem.W.Frag} {mg : Str → Option Value} {h : Heap} {x : Str} {st : Stmt} {ps : List Str} {f : Addr} (X : K.In h) (G : h.Ns mainGlobals mg) {oc : Value} {od an : Option Addr} {osl : Array (Option Value)} {kV doc pm cdv ct : Value}
    (a : PySem.W.nsIn K mainGlobals x = some (some (.ref f))) (l : K.lookup f = some ⟨oc, od, .func (PySem.W.fnOf x x (defArgs st) (defBody st) (defScope st) .none kV doc pm an cdv ct), osl⟩)
    (c : PySem.W.codeIn K cdv x = true) (k : PySem.W.keepIn K (.ref f) = true)
    (b : ∀ (kV doc pm : Value) (an : Option Addr) (cdv ct : Value) (us : List Value), us.length = ps.length → bindArgs (PySem.W.fnOf x x (defArgs st) (defBody st) (defScope st) .none kV doc pm an cdv ct) ⟨us, []⟩ = pure (ps.zip us)) : Df K mg x st ps :=
  ⟨f, _, fun_mk l c k, PySem.W.mg_of X G a, (fun_mk l c k).binds b⟩
abbrev DfOf {K : PySem.W.Frag} {h : Heap} (_ : K.In h) (mg : Str → Option Value) (x : Str) (st : Stmt) (ps : List Str) : Prop := Df K mg x st ps
theorem law_mk {P : Program} {w : World} {K : PySem.W.Frag} {h : Heap} {mg : Str → Option Value} {fa f : Addr} (X : K.In h) (G : h.Ns mainGlobals mg) (hfa : mg "law" = some (.ref fa)) {oc : Value} {od an : Option Addr} {osl : Array (Option Value)} {kV doc pm cdv ct : Value}
    (a : PySem.W.nsIn K mainGlobals "law" = some (some (.ref f))) (l : K.lookup f = some ⟨oc, od, .func (PySem.W.fnOf "law" "law" (defArgs s_law) (defBody s_law) (defScope s_law) .none kV doc pm an cdv ct), osl⟩)
    (c : PySem.W.codeIn K cdv "law" = true) (k : PySem.W.keepIn K (.ref f) = true) (T : Nms mg)
    (Ds_law_jar : Df K mg "_law_jar" s_law_jar ["cell"])
    (Ds_law_dip : Df K mg "_law_dip" s_law_dip ["jar", "many"])
    (Ds_law_order : Df K mg "_law_order" s_law_order ["jar", "m"])
    (Ds_law_word : Df K mg "_law_word" s_law_word ["kind", "a", "b", "m"])
    (Ds_law_stay : Df K mg "_law_stay" s_law_stay ["kind", "calls"])
    (Ds_law_up : Df K mg "_law_up" s_law_up ["way", "calls", "goes"])
    (Ds_law_wild : Df K mg "_law_wild" s_law_wild ["jar", "m"])
    (Ds_law_floor : Df K mg "_law_floor" s_law_floor ["jar", "m", "is_free"])
    (Ds_law_house : Df K mg "_law_house" s_law_house ["jar", "most", "floors"])
    (Ds_law_counts : Df K mg "_law_counts" s_law_counts ["jar", "m"])
    (Ds_law_rest : Df K mg "_law_rest" s_law_rest ["house", "heaps", "out"])
    (Ds_law_joined : Df K mg "_law_joined" s_law_joined ["house", "one", "other"])
    (Ds_law_times : Df K mg "_law_times" s_law_times ["house", "some", "many"])
    (Ds_law_end : Df K mg "_law_end" s_law_end ["house", "rest"])
    (Ds_law_due : Df K mg "_law_due" s_law_due ["house", "standing"])
    (Ds_is_tuple_of : Df K mg "is_tuple_of" s_is_tuple_of ["thing", "many"])
    (Ds_is_whole : Df K mg "is_whole" s_is_whole ["thing"])
    (Ds_is_up_to : Df K mg "is_up_to" s_is_up_to ["thing", "most"])
    (Ds_are_up_to : Df K mg "are_up_to" s_are_up_to ["thing", "many", "most"])
    (Ds_is_table : Df K mg "is_table" s_is_table ["thing", "m"])
    (Ds_is_house : Df K mg "is_house" s_is_house ["thing"])
    (Ds_size : Df K mg "size" s_size ["house"])
    (Ds_threes : Df K mg "threes" s_threes ["m"])
    (Ds_orders : Df K mg "orders" s_orders ["three"])
    (Ds_left_of_three : Df K mg "left_of_three" s_left_of_three ["tables", "order"])
    (Ds_end_of_three : Df K mg "end_of_three" s_end_of_three ["house", "floor", "order"])
    (Ds_is_parted : Df K mg "is_parted" s_is_parted ["house", "floor", "three"])
    (Ds_least_parted : Df K mg "least_parted" s_least_parted ["house"])
    (Ds_paper : Df K mg "paper" s_paper ["house"])
    (Ds_check_fair : Df K mg "check_fair" s_check_fair ["house"])
    (Ds_has_form : Df K mg "has_form" s_has_form ["thing", "m", "floors", "most"])
    (Ds_check_standing : Df K mg "check_standing" s_check_standing ["house", "standing"])
    (Ds_meet_all : Df K mg "meet_all" s_meet_all ["tables", "here"])
    (Ds_end_of : Df K mg "end_of" s_end_of ["house", "standing"])
    (Ds_added : Df K mg "added" s_added ["counts", "more"])
    (Ds_together : Df K mg "together" s_together ["house", "one", "other"])
    {tF tN : Tok} (c_MOST_FLOORS : mg "MOST_FLOORS" = some (.int 4 tF)) (c_MOST_NUMBERS : mg "MOST_NUMBERS" = some (.int 6 tN)) {Ch M C2 : Addr} (EX : Exn K mg "NoHouse" Ch M) (EX_NoStanding : Exn K mg "NoStanding" C2 M) (_ : mg "MeetError" = some (.ref M)) :
    ∃ fd : FuncData, (∀ (s : Shared) (u : Value), BindsTo s fd ⟨[u], []⟩ [("script", u)]) ∧ ∀ base : Heap, K.In base → base.Ns mainGlobals mg → RunG P w K mg base 10 fa fd ["script"] (spLaw K) := by
  have e := hfa.symm.trans (PySem.W.mg_of X G a)
  cases e
  refine ⟨PySem.W.fnOf "law" "law" (defArgs s_law) (defBody s_law) (defScope s_law) .none kV doc pm an cdv ct, fun s v => .of_eq rfl, fun base _ _ => ?_⟩
  have c_law_jar := ok_law_jar (P := P) (w := w) (base := base) Ds_law_jar T
  have c_law_dip := ok_law_dip (P := P) (w := w) (base := base) Ds_law_dip T
  have c_law_order := ok_law_order (P := P) (w := w) (base := base) Ds_law_order T c_law_dip
  have c_law_word := ok_law_word (P := P) (w := w) (base := base) Ds_law_word T
  have c_law_stay := ok_law_stay (P := P) (w := w) (base := base) Ds_law_stay T c_law_word
  have c_law_up := ok_law_up (P := P) (w := w) (base := base) Ds_law_up T
  have c_law_wild := ok_law_wild (P := P) (w := w) (base := base) Ds_law_wild T c_law_dip
  have c_law_floor := ok_law_floor (P := P) (w := w) (base := base) Ds_law_floor T c_law_dip c_law_order c_law_stay c_law_up c_law_wild
  have c_law_house := ok_law_house (P := P) (w := w) (base := base) Ds_law_house T c_law_dip c_law_order c_law_stay c_law_up c_law_floor
  have c_law_counts := ok_law_counts (P := P) (w := w) (base := base) Ds_law_counts T c_law_dip
  have c_law_rest := ok_law_rest (P := P) (w := w) (base := base) Ds_law_rest T
  have c_law_joined := ok_law_joined (P := P) (w := w) (base := base) Ds_law_joined T c_law_rest
  have c_law_times := ok_law_times (P := P) (w := w) (base := base) Ds_law_times T c_law_joined
  have c_law_end := ok_law_end (P := P) (w := w) (base := base) Ds_law_end T
  have c_law_due := ok_law_due (P := P) (w := w) (base := base) Ds_law_due T c_law_joined c_law_times c_law_end
  have c_is_tuple_of := ok_is_tuple_of (P := P) (w := w) (base := base) Ds_is_tuple_of T
  have c_is_whole := ok_is_whole (P := P) (w := w) (base := base) Ds_is_whole T
  have c_is_up_to := ok_is_up_to (P := P) (w := w) (base := base) Ds_is_up_to T c_is_whole
  have c_are_up_to := ok_are_up_to (P := P) (w := w) (base := base) Ds_are_up_to T c_is_tuple_of c_is_up_to
  have c_is_table := ok_is_table (P := P) (w := w) (base := base) Ds_is_table T c_is_tuple_of c_are_up_to
  have c_is_house := ok_is_house (P := P) (w := w) (base := base) Ds_is_house T c_MOST_FLOORS c_MOST_NUMBERS c_is_tuple_of c_is_table
  have c_size := ok_size (P := P) (w := w) (base := base) Ds_size T EX c_is_house
  have c_threes := ok_threes (P := P) (w := w) (base := base) Ds_threes T
  have c_orders := ok_orders (P := P) (w := w) (base := base) Ds_orders T
  have c_left_of_three := ok_left_of_three (P := P) (w := w) (base := base) Ds_left_of_three T
  have c_end_of_three := ok_end_of_three (P := P) (w := w) (base := base) Ds_end_of_three T c_left_of_three
  have c_is_parted := ok_is_parted (P := P) (w := w) (base := base) Ds_is_parted T c_orders c_end_of_three
  have c_least_parted := ok_least_parted (P := P) (w := w) (base := base) Ds_least_parted T c_threes c_is_parted
  have c_paper := ok_paper (P := P) (w := w) (base := base) Ds_paper T c_size c_least_parted
  have c_check_fair := ok_check_fair (P := P) (w := w) (base := base) Ds_check_fair T c_paper
  have c_has_form := ok_has_form (P := P) (w := w) (base := base) Ds_has_form T c_is_tuple_of c_is_up_to c_are_up_to
  have c_check_standing := ok_check_standing (P := P) (w := w) (base := base) Ds_check_standing T EX_NoStanding c_size c_has_form
  have c_meet_all := ok_meet_all (P := P) (w := w) (base := base) Ds_meet_all T
  have c_end_of := ok_end_of (P := P) (w := w) (base := base) Ds_end_of T c_check_fair c_check_standing c_meet_all
  have c_added := ok_added (P := P) (w := w) (base := base) Ds_added T
  have c_together := ok_together (P := P) (w := w) (base := base) Ds_together T EX_NoStanding c_size c_has_form c_added
  exact ok_law (fun_mk l c k) T c_law_jar c_law_dip c_law_house c_law_counts c_law_due c_end_of c_together
end Fm
end FFmAll21
open PySem PySem.W PyProof.Rows
set_option maxRecDepth 100000 in
set_option maxHeartbeats 0 in
theorem PySem.Challenge.cw_floormeet_k21_far_ends_holds : PySem.Challenge.rw_floormeet_k21_far_ends.Holds := by
  w_on; o_law; k_head; (case hw => w_witness2)
  k_fill
  refine Fm.walk_g (l := PySem.Challenge.rw_floormeet_k21_far_ends) (n := 63) (k := 10) (x := "script") (sp := Fm.spLaw) rfl (by decide) rfl ⟨rfl, by decide, by decide⟩ (fun w h Y => PySem.W.kIn_of Y) ?F ?S
  case S =>
    exact fun K H a ns hl hS _ => ⟨a, ns, rfl, Nat.le_trans (Nat.succ_le_succ hl) (by decide), hS, fun _ => rfl⟩
  case F =>
    intro w mg fa h KX G hmg
    have n_len : mg "len" = none := by
      refine PySem.W.mg_none_of KX G ?z
      (case z => k_is)
    have n_range : mg "range" = none := by
      refine PySem.W.mg_none_of KX G ?z
      (case z => k_is)
    have n_min : mg "min" = none := by
      refine PySem.W.mg_none_of KX G ?z
      (case z => k_is)
    have n_max : mg "max" = none := by
      refine PySem.W.mg_none_of KX G ?z
      (case z => k_is)
    have n_tuple : mg "tuple" = none := by
      refine PySem.W.mg_none_of KX G ?z
      (case z => k_is)
    have n_list : mg "list" = none := by
      refine PySem.W.mg_none_of KX G ?z
      (case z => k_is)
    have n_isinstance : mg "isinstance" = none := by
      refine PySem.W.mg_none_of KX G ?z
      (case z => k_is)
    have n_repr : mg "repr" = none := by
      refine PySem.W.mg_none_of KX G ?z
      (case z => k_is)
    have n_int : mg "int" = none := by
      refine PySem.W.mg_none_of KX G ?z
      (case z => k_is)
    have n_bool : mg "bool" = none := by
      refine PySem.W.mg_none_of KX G ?z
      (case z => k_is)
    have n_sum : mg "sum" = none := by
      refine PySem.W.mg_none_of KX G ?z
      (case z => k_is)
    have n_str : mg "str" = none := by
      refine PySem.W.mg_none_of KX G ?z
      (case z => k_is)
    have n_enumerate : mg "enumerate" = none := by
      refine PySem.W.mg_none_of KX G ?z
      (case z => k_is)
    have n_zip : mg "zip" = none := by
      refine PySem.W.mg_none_of KX G ?z
      (case z => k_is)
    have T : Fm.Nms mg := ⟨n_len, n_range, n_min, n_max, n_tuple, n_list, n_isinstance, n_repr, n_int, n_bool, n_sum, n_str, n_enumerate, n_zip⟩
    have Ds_law_jar : Fm.DfOf KX mg "_law_jar" Fm.s_law_jar ["cell"] := by
      refine' Fm.df_mk KX G ?a ?l ?c ?k (fun _ _ _ _ _ _ us hl => match us, hl with | [_], _ => rfl)
      (case a => k_is); (case l => k_is); (case c => k_is); (case k => k_is)
    have Ds_law_dip : Fm.DfOf KX mg "_law_dip" Fm.s_law_dip ["jar", "many"] := by
      refine' Fm.df_mk KX G ?a ?l ?c ?k (fun _ _ _ _ _ _ us hl => match us, hl with | [_, _], _ => rfl)
      (case a => k_is); (case l => k_is); (case c => k_is); (case k => k_is)
    have Ds_law_order : Fm.DfOf KX mg "_law_order" Fm.s_law_order ["jar", "m"] := by
      refine' Fm.df_mk KX G ?a ?l ?c ?k (fun _ _ _ _ _ _ us hl => match us, hl with | [_, _], _ => rfl)
      (case a => k_is); (case l => k_is); (case c => k_is); (case k => k_is)
    have Ds_law_word : Fm.DfOf KX mg "_law_word" Fm.s_law_word ["kind", "a", "b", "m"] := by
      refine' Fm.df_mk KX G ?a ?l ?c ?k (fun _ _ _ _ _ _ us hl => match us, hl with | [_, _, _, _], _ => rfl)
      (case a => k_is); (case l => k_is); (case c => k_is); (case k => k_is)
    have Ds_law_stay : Fm.DfOf KX mg "_law_stay" Fm.s_law_stay ["kind", "calls"] := by
      refine' Fm.df_mk KX G ?a ?l ?c ?k (fun _ _ _ _ _ _ us hl => match us, hl with | [_, _], _ => rfl)
      (case a => k_is); (case l => k_is); (case c => k_is); (case k => k_is)
    have Ds_law_up : Fm.DfOf KX mg "_law_up" Fm.s_law_up ["way", "calls", "goes"] := by
      refine' Fm.df_mk KX G ?a ?l ?c ?k (fun _ _ _ _ _ _ us hl => match us, hl with | [_, _, _], _ => rfl)
      (case a => k_is); (case l => k_is); (case c => k_is); (case k => k_is)
    have Ds_law_wild : Fm.DfOf KX mg "_law_wild" Fm.s_law_wild ["jar", "m"] := by
      refine' Fm.df_mk KX G ?a ?l ?c ?k (fun _ _ _ _ _ _ us hl => match us, hl with | [_, _], _ => rfl)
      (case a => k_is); (case l => k_is); (case c => k_is); (case k => k_is)
    have Ds_law_floor : Fm.DfOf KX mg "_law_floor" Fm.s_law_floor ["jar", "m", "is_free"] := by
      refine' Fm.df_mk KX G ?a ?l ?c ?k (fun _ _ _ _ _ _ us hl => match us, hl with | [_, _, _], _ => rfl)
      (case a => k_is); (case l => k_is); (case c => k_is); (case k => k_is)
    have Ds_law_house : Fm.DfOf KX mg "_law_house" Fm.s_law_house ["jar", "most", "floors"] := by
      refine' Fm.df_mk KX G ?a ?l ?c ?k (fun _ _ _ _ _ _ us hl => match us, hl with | [_, _, _], _ => rfl)
      (case a => k_is); (case l => k_is); (case c => k_is); (case k => k_is)
    have Ds_law_counts : Fm.DfOf KX mg "_law_counts" Fm.s_law_counts ["jar", "m"] := by
      refine' Fm.df_mk KX G ?a ?l ?c ?k (fun _ _ _ _ _ _ us hl => match us, hl with | [_, _], _ => rfl)
      (case a => k_is); (case l => k_is); (case c => k_is); (case k => k_is)
    have Ds_law_rest : Fm.DfOf KX mg "_law_rest" Fm.s_law_rest ["house", "heaps", "out"] := by
      refine' Fm.df_mk KX G ?a ?l ?c ?k (fun _ _ _ _ _ _ us hl => match us, hl with | [_, _, _], _ => rfl)
      (case a => k_is); (case l => k_is); (case c => k_is); (case k => k_is)
    have Ds_law_joined : Fm.DfOf KX mg "_law_joined" Fm.s_law_joined ["house", "one", "other"] := by
      refine' Fm.df_mk KX G ?a ?l ?c ?k (fun _ _ _ _ _ _ us hl => match us, hl with | [_, _, _], _ => rfl)
      (case a => k_is); (case l => k_is); (case c => k_is); (case k => k_is)
    have Ds_law_times : Fm.DfOf KX mg "_law_times" Fm.s_law_times ["house", "some", "many"] := by
      refine' Fm.df_mk KX G ?a ?l ?c ?k (fun _ _ _ _ _ _ us hl => match us, hl with | [_, _, _], _ => rfl)
      (case a => k_is); (case l => k_is); (case c => k_is); (case k => k_is)
    have Ds_law_end : Fm.DfOf KX mg "_law_end" Fm.s_law_end ["house", "rest"] := by
      refine' Fm.df_mk KX G ?a ?l ?c ?k (fun _ _ _ _ _ _ us hl => match us, hl with | [_, _], _ => rfl)
      (case a => k_is); (case l => k_is); (case c => k_is); (case k => k_is)
    have Ds_law_due : Fm.DfOf KX mg "_law_due" Fm.s_law_due ["house", "standing"] := by
      refine' Fm.df_mk KX G ?a ?l ?c ?k (fun _ _ _ _ _ _ us hl => match us, hl with | [_, _], _ => rfl)
      (case a => k_is); (case l => k_is); (case c => k_is); (case k => k_is)
    have Ds_is_tuple_of : Fm.DfOf KX mg "is_tuple_of" Fm.s_is_tuple_of ["thing", "many"] := by
      refine' Fm.df_mk KX G ?a ?l ?c ?k (fun _ _ _ _ _ _ us hl => match us, hl with | [_, _], _ => rfl)
      (case a => k_is); (case l => k_is); (case c => k_is); (case k => k_is)
    have Ds_is_whole : Fm.DfOf KX mg "is_whole" Fm.s_is_whole ["thing"] := by
      refine' Fm.df_mk KX G ?a ?l ?c ?k (fun _ _ _ _ _ _ us hl => match us, hl with | [_], _ => rfl)
      (case a => k_is); (case l => k_is); (case c => k_is); (case k => k_is)
    have Ds_is_up_to : Fm.DfOf KX mg "is_up_to" Fm.s_is_up_to ["thing", "most"] := by
      refine' Fm.df_mk KX G ?a ?l ?c ?k (fun _ _ _ _ _ _ us hl => match us, hl with | [_, _], _ => rfl)
      (case a => k_is); (case l => k_is); (case c => k_is); (case k => k_is)
    have Ds_are_up_to : Fm.DfOf KX mg "are_up_to" Fm.s_are_up_to ["thing", "many", "most"] := by
      refine' Fm.df_mk KX G ?a ?l ?c ?k (fun _ _ _ _ _ _ us hl => match us, hl with | [_, _, _], _ => rfl)
      (case a => k_is); (case l => k_is); (case c => k_is); (case k => k_is)
    have Ds_is_table : Fm.DfOf KX mg "is_table" Fm.s_is_table ["thing", "m"] := by
      refine' Fm.df_mk KX G ?a ?l ?c ?k (fun _ _ _ _ _ _ us hl => match us, hl with | [_, _], _ => rfl)
      (case a => k_is); (case l => k_is); (case c => k_is); (case k => k_is)
    have Ds_is_house : Fm.DfOf KX mg "is_house" Fm.s_is_house ["thing"] := by
      refine' Fm.df_mk KX G ?a ?l ?c ?k (fun _ _ _ _ _ _ us hl => match us, hl with | [_], _ => rfl)
      (case a => k_is); (case l => k_is); (case c => k_is); (case k => k_is)
    have Ds_size : Fm.DfOf KX mg "size" Fm.s_size ["house"] := by
      refine' Fm.df_mk KX G ?a ?l ?c ?k (fun _ _ _ _ _ _ us hl => match us, hl with | [_], _ => rfl)
      (case a => k_is); (case l => k_is); (case c => k_is); (case k => k_is)
    have Ds_threes : Fm.DfOf KX mg "threes" Fm.s_threes ["m"] := by
      refine' Fm.df_mk KX G ?a ?l ?c ?k (fun _ _ _ _ _ _ us hl => match us, hl with | [_], _ => rfl)
      (case a => k_is); (case l => k_is); (case c => k_is); (case k => k_is)
    have Ds_orders : Fm.DfOf KX mg "orders" Fm.s_orders ["three"] := by
      refine' Fm.df_mk KX G ?a ?l ?c ?k (fun _ _ _ _ _ _ us hl => match us, hl with | [_], _ => rfl)
      (case a => k_is); (case l => k_is); (case c => k_is); (case k => k_is)
    have Ds_left_of_three : Fm.DfOf KX mg "left_of_three" Fm.s_left_of_three ["tables", "order"] := by
      refine' Fm.df_mk KX G ?a ?l ?c ?k (fun _ _ _ _ _ _ us hl => match us, hl with | [_, _], _ => rfl)
      (case a => k_is); (case l => k_is); (case c => k_is); (case k => k_is)
    have Ds_end_of_three : Fm.DfOf KX mg "end_of_three" Fm.s_end_of_three ["house", "floor", "order"] := by
      refine' Fm.df_mk KX G ?a ?l ?c ?k (fun _ _ _ _ _ _ us hl => match us, hl with | [_, _, _], _ => rfl)
      (case a => k_is); (case l => k_is); (case c => k_is); (case k => k_is)
    have Ds_is_parted : Fm.DfOf KX mg "is_parted" Fm.s_is_parted ["house", "floor", "three"] := by
      refine' Fm.df_mk KX G ?a ?l ?c ?k (fun _ _ _ _ _ _ us hl => match us, hl with | [_, _, _], _ => rfl)
      (case a => k_is); (case l => k_is); (case c => k_is); (case k => k_is)
    have Ds_least_parted : Fm.DfOf KX mg "least_parted" Fm.s_least_parted ["house"] := by
      refine' Fm.df_mk KX G ?a ?l ?c ?k (fun _ _ _ _ _ _ us hl => match us, hl with | [_], _ => rfl)
      (case a => k_is); (case l => k_is); (case c => k_is); (case k => k_is)
    have Ds_paper : Fm.DfOf KX mg "paper" Fm.s_paper ["house"] := by
      refine' Fm.df_mk KX G ?a ?l ?c ?k (fun _ _ _ _ _ _ us hl => match us, hl with | [_], _ => rfl)
      (case a => k_is); (case l => k_is); (case c => k_is); (case k => k_is)
    have Ds_check_fair : Fm.DfOf KX mg "check_fair" Fm.s_check_fair ["house"] := by
      refine' Fm.df_mk KX G ?a ?l ?c ?k (fun _ _ _ _ _ _ us hl => match us, hl with | [_], _ => rfl)
      (case a => k_is); (case l => k_is); (case c => k_is); (case k => k_is)
    have Ds_has_form : Fm.DfOf KX mg "has_form" Fm.s_has_form ["thing", "m", "floors", "most"] := by
      refine' Fm.df_mk KX G ?a ?l ?c ?k (fun _ _ _ _ _ _ us hl => match us, hl with | [_, _, _, _], _ => rfl)
      (case a => k_is); (case l => k_is); (case c => k_is); (case k => k_is)
    have Ds_check_standing : Fm.DfOf KX mg "check_standing" Fm.s_check_standing ["house", "standing"] := by
      refine' Fm.df_mk KX G ?a ?l ?c ?k (fun _ _ _ _ _ _ us hl => match us, hl with | [_, _], _ => rfl)
      (case a => k_is); (case l => k_is); (case c => k_is); (case k => k_is)
    have Ds_meet_all : Fm.DfOf KX mg "meet_all" Fm.s_meet_all ["tables", "here"] := by
      refine' Fm.df_mk KX G ?a ?l ?c ?k (fun _ _ _ _ _ _ us hl => match us, hl with | [_, _], _ => rfl)
      (case a => k_is); (case l => k_is); (case c => k_is); (case k => k_is)
    have Ds_end_of : Fm.DfOf KX mg "end_of" Fm.s_end_of ["house", "standing"] := by
      refine' Fm.df_mk KX G ?a ?l ?c ?k (fun _ _ _ _ _ _ us hl => match us, hl with | [_, _], _ => rfl)
      (case a => k_is); (case l => k_is); (case c => k_is); (case k => k_is)
    have Ds_added : Fm.DfOf KX mg "added" Fm.s_added ["counts", "more"] := by
      refine' Fm.df_mk KX G ?a ?l ?c ?k (fun _ _ _ _ _ _ us hl => match us, hl with | [_, _], _ => rfl)
      (case a => k_is); (case l => k_is); (case c => k_is); (case k => k_is)
    have Ds_together : Fm.DfOf KX mg "together" Fm.s_together ["house", "one", "other"] := by
      refine' Fm.df_mk KX G ?a ?l ?c ?k (fun _ _ _ _ _ _ us hl => match us, hl with | [_, _, _], _ => rfl)
      (case a => k_is); (case l => k_is); (case c => k_is); (case k => k_is)
    refine' Fm.law_mk KX G hmg ?a ?l ?c ?k T  Ds_law_jar Ds_law_dip Ds_law_order Ds_law_word Ds_law_stay Ds_law_up Ds_law_wild Ds_law_floor Ds_law_house Ds_law_counts Ds_law_rest Ds_law_joined Ds_law_times Ds_law_end Ds_law_due Ds_is_tuple_of Ds_is_whole Ds_is_up_to Ds_are_up_to Ds_is_table Ds_is_house Ds_size Ds_threes Ds_orders Ds_left_of_three Ds_end_of_three Ds_is_parted Ds_least_parted Ds_paper Ds_check_fair Ds_has_form Ds_check_standing Ds_meet_all Ds_end_of Ds_added Ds_together (PySem.W.mg_of KX G ?mf) (PySem.W.mg_of KX G ?mn) ⟨PySem.W.mg_of KX G ?xg, ?xe, ?xk, ?xb, ?xt, ⟨?c1, ?c2, ?c3, ?c4, ?c5, ?c6, ?c7, ?c8⟩, ?xm⟩ ⟨PySem.W.mg_of KX G ?yg, ?ye, ?yk, ?yb, ?yt, ⟨?d1, ?d2, ?d3, ?d4, ?d5, ?d6, ?d7, ?d8⟩, ?ym⟩ (PySem.W.mg_of KX G ?me)
    (case a => k_is); (case l => k_is); (case c => k_is); (case k => k_is)
    (case mf => k_is); (case mn => k_is); (case me => k_is)
    (case xg => k_is); (case xe => k_exc); (case xk => k_is); (case xb => k_is); (case xt => k_is)
    (case c1 => k_is); (case c2 => k_is); (case c3 => k_is); (case c4 => k_is); (case c5 => k_is); (case c6 => k_is); (case c7 => k_is); (case c8 => k_is)
    (case xm => first | rfl | k_is)
    (case yg => k_is); (case ye => k_exc); (case yk => k_is); (case yb => k_is); (case yt => k_is)
    (case d1 => k_is); (case d2 => k_is); (case d3 => k_is); (case d4 => k_is); (case d5 => k_is); (case d6 => k_is); (case d7 => k_is); (case d8 => k_is)
    (case ym => first | rfl | k_is)
