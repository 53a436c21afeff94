import PyProof.Rows.All
import PyProof.CodeObj
import Wide.All
import OpenK.AllK
import Wide.FinOn
import Lean
import PyProof.EqAt
import PyProof.EqKinds
import PyProof.TupleCall
import PyProof.NeKinds
import PyProof.Rows.SortWalk
import KE.KTryMore
import KE.KRevIter
import KE.RegKTryMore
import PyProof.StrBlockH
import PyProof.Rows.FStr
import PyProof.AutoIntOps
import PyProof.DictTable
import PyProof.Rows.Range3
import PyProof.ListRange
import PyProof.SumWalkG
import PyProof.SeqRoads2
import PyProof.Rows.SetFrom
import PyProof.CollectIter
import PyProof.Rows.MinMaxN
import PyProof.Cells
import PyProof.MeetsStr
import PyProof.CallStr
import PyProof.StrLawsJoin
import PyProof.StrLaws
import PyProof.Rows.SortRuns
import PyProof.EnumStmt
import PyProof.EnumMake
import KE.KLam
import PyProof.Rows.RuleM_int
import KE.KDictOf
import KE.KEqDict
import PyProof.DictFindH
import PyProof.AttrMissHeap
import KE.KDictList
import KE.KSortKey
import PySem.Challenge.RW_cupdraw_k31_contests_not_due
set_option Elab.async false
set_option linter.all false
set_option maxRecDepth 100000
namespace L2
open PySem PySem.Spec PyProof.Rows
abbrev Key := Sum Int Str
def keyIs : Key → Value → Bool
  | .inl k, v => Value.isInt k v
  | .inr x, v => Value.isStrOf x v
def keyH (w : World) : Key → Int
  | .inl k => hashInt k
  | .inr x => hashStr w x
theorem keyIs_shape : ∀ {k : Key} {v : Value}, keyIs k v = true → (∃ i t, k = Sum.inl i ∧ v = Value.int i t) ∨ (∃ x t, k = Sum.inr x ∧ v = Value.str x t)
  | .inl i, v, h => by
    obtain ⟨t, e⟩ := Value.isInt_shape (k := i) (v := v) h
    exact .inl ⟨i, t, rfl, e⟩
  | .inr x, v, h => by
    obtain ⟨t, e⟩ := Value.isStrOf_shape (x := x) (v := v) h
    exact .inr ⟨x, t, rfl, e⟩
theorem keyIs_int (i : Int) (t : Tok) : keyIs (.inl i) (.int i t) = true := by simp [keyIs, Value.isInt]
theorem keyIs_str (x : Str) (t : Tok) : keyIs (.inr x) (.str x t) = true := by simp [keyIs, Value.isStrOf]
theorem key_ll (a b : Int) : decide ((Sum.inl a : Key) = Sum.inl b) = (a == b) := by
  by_cases e : a = b
  · subst e; simp
  · have h : ¬ (Sum.inl a : Key) = Sum.inl b := fun q => e (Sum.inl.inj q)
    rw [decide_eq_false h]
    exact (beq_eq_false_iff_ne.mpr e).symm
theorem key_rr (a b : Str) : decide ((Sum.inr a : Key) = Sum.inr b) = decide (a = b) := by
  by_cases e : a = b
  · subst e; simp
  · have h : ¬ (Sum.inr a : Key) = Sum.inr b := fun q => e (Sum.inr.inj q)
    rw [decide_eq_false h, decide_eq_false e]
theorem key_lr (a : Int) (b : Str) : decide ((Sum.inl a : Key) = Sum.inr b) = false := decide_eq_false (fun q => nomatch q)
theorem key_rl (a : Str) (b : Int) : decide ((Sum.inr a : Key) = Sum.inl b) = false := decide_eq_false (fun q => nomatch q)
def mixKind (prog : Program) (w : World) : PySem.KeyKind prog w Key where
  is := keyIs
  hash := keyH w
  inj := fun v a b ha hb => by
    rcases keyIs_shape ha with ⟨i, t, rfl, rfl⟩ | ⟨x, t, rfl, rfl⟩
    · rcases keyIs_shape hb with ⟨j, u, rfl, e⟩ | ⟨y, u, rfl, e⟩
      · injection e with e1 _; rw [e1]
      · exact nomatch e
    · rcases keyIs_shape hb with ⟨j, u, rfl, e⟩ | ⟨y, u, rfl, e⟩
      · exact nomatch e
      · injection e with e1 _; rw [e1]
  byValue := fun k v h => by
    rcases keyIs_shape h with ⟨i, t, rfl, rfl⟩ | ⟨x, t, rfl, rfl⟩ <;> rfl
  pyHash := fun hv h => by
    rcases keyIs_shape hv with ⟨i, t, rfl, rfl⟩ | ⟨x, t, rfl, rfl⟩
    · exact wpAny_pyHash_int h
    · exact wpAny_pyHash_str h
  eqBool := fun hu hv h => by
    rcases keyIs_shape hu with ⟨i, t, rfl, rfl⟩ | ⟨x, t, rfl, rfl⟩
    · rcases keyIs_shape hv with ⟨j, u, rfl, rfl⟩ | ⟨y, u, rfl, rfl⟩
      · rw [key_ll] at h; exact wpAny_eqBool_int h
      · rw [key_lr] at h; exact SeqAt.EqAt.int_str i t y u _ _ _ _ h
    · rcases keyIs_shape hv with ⟨j, u, rfl, rfl⟩ | ⟨y, u, rfl, rfl⟩
      · rw [key_rl] at h; exact SeqAt.EqAt.str_int x t j u _ _ _ _ h
      · rw [key_rr] at h; exact wpAny_eqBool_str h
  «strs» := fun k x t v h => by
    rcases keyIs_shape h with ⟨i, u, rfl, e⟩ | ⟨y, u, rfl, e⟩
    · exact nomatch e
    · injection e with e1 _
      subst e1
      cases v <;> rfl
theorem mixKind_int (prog : Program) (w : World) (i : Int) (t : Tok) : (mixKind prog w).is (.inl i) (.int i t) = true := keyIs_int i t
theorem mixKind_str (prog : Program) (w : World) (x : Str) (t : Tok) : (mixKind prog w).is (.inr x) (.str x t) = true := keyIs_str x t
end L2
namespace L2
open PySem PySem.Spec PyProof.Rows
inductive V where
  | non | bl (b : Bool) | int (i : Int) | str (x : Str) | byt (b : Array UInt8) | flt (b : UInt64) | ref (a : Addr) | ty (n : String)
  deriving DecidableEq
def RelV : V → Value → Prop
  | .non, u => u = Value.none
  | .bl b, u => u = Value.bool b
  | .int i, u => ∃ t, u = Value.int i t
  | .str x, u => ∃ t, u = Value.str x t
  | .byt b, u => ∃ t, u = Value.bytes b t
  | .flt b, u => ∃ t, u = Value.float b t
  | .ref a, u => u = Value.ref a
  | .ty n, u => u = Value.type n
abbrev Vals : List V → List Value → Prop := Paired RelV
theorem Vals.length {xs : List V} {us : List Value} (r : Vals xs us) : xs.length = us.length := Paired.length r
theorem Vals.get : ∀ {xs : List V} {us : List Value} {i : Nat} {x : V}, Vals xs us → xs[i]? = some x → ∃ u, us[i]? = some u ∧ RelV x u
  | _, _, _, _, .nil, e => by simp at e
  | _, _, 0, _, .cons r _, e => by simp at e; subst e; exact ⟨_, rfl, r⟩
  | _, _, i + 1, x, .cons _ t, e => by
    obtain ⟨u, h1, h2⟩ := Vals.get (i := i) (x := x) t (by simpa using e)
    exact ⟨u, by simpa using h1, h2⟩
theorem Vals.append : ∀ {xs ys : List V} {us ws : List Value}, Vals xs us → Vals ys ws → Vals (xs ++ ys) (us ++ ws)
  | _, _, _, _, .nil, s => s
  | _, _, _, _, .cons r t, s => .cons r (Vals.append t s)
def RelO : Option V → Option Value → Prop
  | some v, some u => RelV v u
  | none, none => True
  | _, _ => False
def KV {κ : Type} : List (κ × V) → List (κ × Value) → Prop := Paired fun (p : κ × V) (q : κ × Value) => p.1 = q.1 ∧ RelV p.2 q.2
def kV : Key → V
  | .inl i => .int i
  | .inr x => .str x
inductive HO where
  | lst (xs : List V)
  | tup (xs : List V)
  | dK (kvs : List (Key × V)) | dT (kvs : List (List Key × V))
  | set (S : Int → Bool) (n : Nat)
  | ins (C dx : Addr) (fs : List (Str × V))
  | own (x : Addr)
  | xd (fs : List (Str × V))
  | met (f x : Addr)
  | rng (lo hi : Int)
  | frz (o : Obj) (u : HO)
  | tbl (ps : Array Value)
  | ext (φ : Heap → Prop)
abbrev Hp := Addr → Option HO
def upd (H : Hp) (a : Addr) (o : HO) : Hp := fun b => if b = a then some o else H b
theorem upd_same {H : Hp} {a : Addr} {o : HO} : upd H a o a = some o := by unfold upd; rw [if_pos rfl]
theorem upd_ne {H : Hp} {a b : Addr} {o : HO} (h : b ≠ a) : upd H a o b = H b := by unfold upd; rw [if_neg h]
theorem ne_of {H : Hp} {a b : Addr} {o u : HO} (h : H a = some o) (h' : H b = some u) (d : o ≠ u) : a ≠ b := by
  intro e; subst e; rw [h] at h'; exact d (Option.some.inj h')
theorem ne_of_none {H : Hp} {a b : Addr} {o : HO} (h : H a = some o) (h' : H b = none) : a ≠ b := by
  intro e; subst e; rw [h] at h'; cases h'
section
variable (P : Program) (w : World)
def ObjOk (H : Hp) (h : Heap) (a : Addr) : HO → Prop
  | .lst xs => xs.length ≤ sizeLine ∧ ∃ (its : List Value) (n : Nat), Vals xs its ∧ h.get? a = some { cls := .type "list", data := .seq its.toArray n }
  | .tup xs => xs.length ≤ sizeLine ∧ ∃ its : List Value, Vals xs its ∧ IsTup h a its.toArray
  | .dK kvs => kvs.length ≤ sizeLine ∧ (a == sysModules) = false ∧ ∃ vs, KV kvs vs ∧ h.DictOf (mixKind P w) a vs
  | .dT kvs => kvs.length ≤ sizeLine ∧ (a == sysModules) = false ∧ ∃ xs : List (List Key × Addr × Value),
      Paired (fun (p : List Key × V) (q : List Key × Addr × Value) => p.1 = q.1 ∧ H q.2.1 = some (.tup (p.1.map kV)) ∧ RelV p.2 q.2.2) kvs xs ∧
      ∃ o es ep, h.get? a = some o ∧ o.ExactDict ∧ o.data = .dict es ep ∧ es.toList = xs.map (entryOfKey (tupleKind (mixKind P w))) ∧ (xs.map (·.1)).Nodup
  | .set S n => h.SetOf (intKind P w) a S n
  | .ins C dx fs => H dx = some (.own a) ∧ fs.length ≤ 1000 ∧ dx ≠ a ∧ h.get? a = some (PySem.W.instObj C dx) ∧
      ∃ mA, h.Ns1 dx mA ∧ (∀ f, RelO (fs.lookup f) (mA f)) ∧ PySem.Within mA (fs.map (·.1))
  | .own _ => ∃ o, h.get? a = some o
  | .xd fs => ∃ mA, h.Ns1 a mA ∧ ∀ f, RelO (fs.lookup f) (mA f)
  | .rng lo hi => ∃ t u v, h.get? a = some { cls := .type "range", data := .fields #[.int lo t, .int hi u, .int 1 v] }
  | .frz o u => h.get? a = some o ∧ ObjOk H h a u
  | .tbl ps => (∃ (q : Str) (t : Tok) (real : Array Value), ps = #[.str q t] ∧ h.get? a = some { cls := .none, data := .fields real } ∧ TriplesOk real.toList ∧
      ∀ pos cv, codeAmong pos real.toList = some cv → ∃ (c : Addr) (o : Obj) (vs : Array Value) (tq : Tok), cv = .ref c ∧ H c = some (.frz o (.own a)) ∧ o.data = .fields vs ∧ vs[1]? = some (.str q tq)) ∨
      ((∃ o, h.get? a = some o) ∧ ∃ (q : Str) (t : Tok) (us : List Value) (c : Addr) (o : Obj) (u : HO) (vs : Array Value) (tq : Tok), ps = (Value.ref c :: Value.str q t :: us).toArray ∧ H c = some (.frz o u) ∧ o.data = .fields vs ∧ vs[1]? = some (.str q tq))
  | .met f x => h.get? a = some (PySem.W.methodObj (.ref f) (.ref x))
  | .ext φ => φ h ∧ (∃ o, h.get? a = some o) ∧ ∀ h1 h2 : Heap, φ h1 → (∀ o, h1.get? a = some o → h2.get? a = some o) → φ h2
def HOk (H : Hp) (h : Heap) : Prop := ∀ a o, H a = some o → ObjOk P w H h a o
end
section
variable {P : Program} {w : World} {H H' : Hp} {h h' : Heap} {a : Addr} {o : HO}
theorem ObjOk.lt (x : ObjOk P w H h a o) : a < h.objs.size := by
  cases o with
  | lst xs => obtain ⟨_, _, _, _, e⟩ := x; exact Heap.lt_size e
  | tup xs => obtain ⟨_, _, _, p⟩ := x; exact p.lt
  | dK kvs => obtain ⟨_, _, _, _, o, _, _, e, _⟩ := x; exact Heap.lt_size e
  | dT kvs => obtain ⟨_, _, _, _, o, _, _, e, _⟩ := x; exact Heap.lt_size e
  | set S n => obtain ⟨o, _, _, _, e, _⟩ := x; exact Heap.lt_size e
  | ins C dx fs => obtain ⟨_, _, _, e, _⟩ := x; exact Heap.lt_size e
  | own y => obtain ⟨_, e⟩ := x; exact Heap.lt_size e
  | xd fs => obtain ⟨_, ⟨_, _, _, e, _⟩, _⟩ := x; exact Heap.lt_size e
  | rng lo hi => obtain ⟨_, _, _, e⟩ := x; exact Heap.lt_size e
  | frz ob u => obtain ⟨e, _⟩ := x; exact Heap.lt_size e
  | tbl ps =>
    rcases x with ⟨_, _, _, _, e, _⟩ | ⟨⟨_, e⟩, _⟩
    · exact Heap.lt_size e
    · exact Heap.lt_size e
  | met f y => exact Heap.lt_size (show h.get? a = some _ from x)
  | ext φ => obtain ⟨_, ⟨_, e⟩, _⟩ := x; exact Heap.lt_size e
theorem Paired.mapP {α β : Type} {F G : α → β → Prop} : ∀ {l₁ : List α} {l₂ : List β}, Paired F l₁ l₂ → (∀ a b, F a b → G a b) → Paired G l₁ l₂
  | _, _, .nil, _ => .nil
  | _, _, .cons r t, f => .cons (f _ _ r) (Paired.mapP t f)
theorem ObjOk.stay (x : ObjOk P w H h a o) (k : ∀ b u, (b = a ∨ H b = some (.own a)) → h.get? b = some u → h'.get? b = some u)
    (ho : ∀ b, H b = some (.own a) → H' b = some (.own a)) (ht : ∀ b xs, H b = some (.tup xs) → H' b = some (.tup xs))
    (hf : ∀ b o u, H b = some (.frz o u) → H' b = some (.frz o u) := by exact fun _ _ _ q => q) : ObjOk P w H' h' a o := by
  induction o with
  | lst xs => obtain ⟨z, its, n, r, e⟩ := x; exact ⟨z, its, n, r, k _ _ (.inl rfl) e⟩
  | tup xs => obtain ⟨z, its, r, ob, e, c⟩ := x; exact ⟨z, its, r, ob, k _ _ (.inl rfl) e, c⟩
  | dK kvs => obtain ⟨z, y, vs, r, ob, es, ep, e, c⟩ := x; exact ⟨z, y, vs, r, ob, es, ep, k _ _ (.inl rfl) e, c⟩
  | dT kvs =>
    obtain ⟨z, y, xs, r, ob, es, ep, e, c⟩ := x
    exact ⟨z, y, xs, Paired.mapP r fun p q z => ⟨z.1, ht _ _ z.2.1, z.2.2⟩, ob, es, ep, k _ _ (.inl rfl) e, c⟩
  | set S n => obtain ⟨ob, es, ep, t, e, c⟩ := x; exact ⟨ob, es, ep, t, k _ _ (.inl rfl) e, c⟩
  | ins C dx fs =>
    obtain ⟨d, z, ne, e, mA, ⟨od, es, ep, e2, c⟩, r⟩ := x
    exact ⟨ho _ d, z, ne, k _ _ (.inl rfl) e, mA, ⟨od, es, ep, k _ _ (.inr d) e2, c⟩, r⟩
  | own y => obtain ⟨ob, e⟩ := x; exact ⟨ob, k _ _ (.inl rfl) e⟩
  | xd fs => obtain ⟨mA, ⟨od, es, ep, e, c⟩, r⟩ := x; exact ⟨mA, ⟨od, es, ep, k _ _ (.inl rfl) e, c⟩, r⟩
  | rng lo hi => obtain ⟨t, u, v, e⟩ := x; exact ⟨t, u, v, k _ _ (.inl rfl) e⟩
  | frz ob u ih => obtain ⟨e, q⟩ := x; exact ⟨k _ _ (.inl rfl) e, ih q⟩
  | tbl ps =>
    rcases x with ⟨q, t, real, e0, e, tr, cs⟩ | ⟨⟨ob, e⟩, q, t, us, c, oc, u, vs, tq, e0, z, r⟩
    · exact .inl ⟨q, t, real, e0, k a _ (.inl rfl) e, tr, fun pos cv hc => by
        obtain ⟨c, o, vs, tq, y, z, r⟩ := cs pos cv hc
        exact ⟨c, o, vs, tq, y, hf _ _ _ z, r⟩⟩
    · exact .inr ⟨⟨ob, k a _ (.inl rfl) e⟩, q, t, us, c, oc, u, vs, tq, e0, hf _ _ _ z, r⟩
  | met f y =>
    have e : h.get? a = some (PySem.W.methodObj (.ref f) (.ref y)) := x
    show h'.get? a = some (PySem.W.methodObj (.ref f) (.ref y))
    exact k a _ (.inl rfl) e
  | ext φ => obtain ⟨p, ⟨o, e⟩, st⟩ := x; exact ⟨st _ _ p fun o q => k _ _ (.inl rfl) q, ⟨o, k _ _ (.inl rfl) e⟩, st⟩
theorem HOk.lt (x : HOk P w H h) (e : H a = some o) : a < h.objs.size := (x a o e).lt
theorem HOk.fresh (x : HOk P w H h) (e : h.objs.size ≤ a) : H a = none := by
  cases q : H a with
  | none => rfl
  | some u => exact absurd (Nat.lt_of_lt_of_le (x.lt q) e) (Nat.lt_irrefl _)
theorem HOk.kept (x : HOk P w H h) (k : ∀ b u, h.get? b = some u → h'.get? b = some u) : HOk P w H h' := fun a o e =>
  (x a o e).stay (fun b u _ q => k b u q) (fun _ q => q) fun _ _ q => q
theorem HOk.laid (x : HOk P w H h) (k : ∀ b u, h.get? b = some u → h'.get? b = some u) (hp : h.objs.size ≤ a) (new : ObjOk P w (upd H a o) h' a o) : HOk P w (upd H a o) h' := fun b u e => by
  have hn := x.fresh hp
  by_cases hb : b = a
  · subst hb; rw [upd_same] at e; cases e; exact new
  · rw [upd_ne hb] at e
    exact (x b u e).stay (fun c v _ q => k c v q) (fun c q => by rw [upd_ne (ne_of_none q hn)]; exact q) (fun c xs q => by rw [upd_ne (ne_of_none q hn)]; exact q) fun c o u q => by rw [upd_ne (ne_of_none q hn)]; exact q
end
def Rd (H : Hp) (a : Addr) (u : HO) : Prop := H a = some u ∨ ∃ o, H a = some (.frz o u)
theorem Rd.ok {P : Program} {w : World} {H : Hp} {h : Heap} {a : Addr} {u : HO} (r : Rd H a u) (x : HOk P w H h) : ObjOk P w H h a u := by
  rcases r with r | ⟨o, r⟩
  · exact x a u r
  · obtain ⟨_, q⟩ := x a _ r
    exact q
def Mut : Option HO → Prop
  | some (.lst _) => True
  | some (.dK _) => True
  | some (.dT _) => True
  | some (.set _ _) => True
  | some (.ins _ _ _) => True
  | some (.ext _) => True
  | _ => False
section
variable {P : Program} {w : World} {H : Hp} {h h' : Heap} {x e : Addr} {o' : HO}
theorem HOk.write (ok : HOk P w H h) (mu : Mut (H x)) (he : e = x ∨ H e = some (.own x)) (k : ∀ b u, b ≠ e → h.get? b = some u → h'.get? b = some u) (heo : ∃ u, h'.get? e = some u)
    (new : ObjOk P w (upd H x o') h' x o') : HOk P w (upd H x o') h' := fun b u q => by
  have nown : ∀ c y, H c = some (.own y) → c ≠ x := fun c y r z => by subst z; rw [r] at mu; exact mu
  have ntup : ∀ c xs, H c = some (.tup xs) → c ≠ x := fun c xs r z => by subst z; rw [r] at mu; exact mu
  by_cases hb : b = x
  · subst hb; rw [upd_same] at q; cases q; exact new
  · rw [upd_ne hb] at q
    by_cases hbe : b = e
    · have q' : H b = some (.own x) := by
        rcases he with z | z
        · exact absurd (hbe.trans z) hb
        · rw [hbe]; exact z
      rw [q] at q'; cases q'
      obtain ⟨v, hv⟩ := heo
      exact ⟨v, by rw [hbe]; exact hv⟩
    · refine (ok b u q).stay (fun c v hc r => k c v ?_ r) (fun c r => by rw [upd_ne (nown c b r)]; exact r) (fun c xs r => by rw [upd_ne (ntup c xs r)]; exact r) fun c ob v r => by rw [upd_ne (fun z => by subst z; rw [r] at mu; exact mu)]; exact r
      rcases hc with rfl | hc
      · exact hbe
      · rintro rfl
        rcases he with z | z
        · exact nown c b hc z
        · rw [hc] at z; cases z; exact hb rfl
end
structure Un (fs ex : List Addr) (H H' : Hp) (h h' : Heap) : Prop where
  keep : ∀ b o, h.get? b = some o → H b = none → b ∉ fs → b ∉ ex → h'.get? b = some o
  slot : ∀ b o, h.get? b = some o → H b = none → b ∈ fs → b ∉ ex → ∃ sl, h'.get? b = some { o with slots := sl }
  free : ∀ b o, h.get? b = some o → H b = none → b ∉ ex → H' b = none
  there : ∀ b o, h.get? b = some o → b ∉ ex → ∃ o', h'.get? b = some o'
  tups : ∀ b xs, H b = some (.tup xs) → H' b = some (.tup xs)
  frzs : ∀ b o u, H b = some (.frz o u) → H' b = some (.frz o u)
  tbls : ∀ b ps, H b = some (.tbl ps) → H' b = some (.tbl ps)
section
variable {fs fs' ex ex' : List Addr} {H H1 H2 : Hp} {h h1 h2 h' : Heap} {a x e : Addr} {o : HO}
theorem Un.any (u : Un fs ex H H1 h h1) {b : Addr} {ob : Obj} (q : h.get? b = some ob) (n : H b = none) (hx : b ∉ ex) : ∃ sl, h1.get? b = some { ob with slots := sl } := by
  by_cases hb : b ∈ fs
  · exact u.slot b ob q n hb hx
  · exact ⟨ob.slots, u.keep b ob q n hb hx⟩
theorem Un.trans (a : Un fs ex H H1 h h1) (b : Un fs ex H1 H2 h1 h2) : Un fs ex H H2 h h2 where
  keep := fun c ob q n hc hx => b.keep c ob (a.keep c ob q n hc hx) (a.free c ob q n hx) hc hx
  slot := fun c ob q n hc hx => by
    obtain ⟨sl, e1⟩ := a.slot c ob q n hc hx
    obtain ⟨sl', e2⟩ := b.slot c _ e1 (a.free c ob q n hx) hc hx
    exact ⟨sl', e2⟩
  free := fun c ob q n hx => by
    obtain ⟨o', e1⟩ := a.there c ob q hx
    exact b.free c o' e1 (a.free c ob q n hx) hx
  there := fun c ob q hx => by
    obtain ⟨o', e1⟩ := a.there c ob q hx
    exact b.there c o' e1 hx
  tups := fun c xs q => b.tups c xs (a.tups c xs q)
  frzs := fun c ob xs q => b.frzs c ob xs (a.frzs c ob xs q)
  tbls := fun c ps q => b.tbls c ps (a.tbls c ps q)
theorem Un.kept (k : ∀ b u, h.get? b = some u → h'.get? b = some u) : Un fs ex H H h h' :=
  ⟨fun b ob q _ _ _ => k b ob q, fun b ob q _ _ _ => ⟨ob.slots, k b ob q⟩, fun _ _ _ n _ => n, fun b ob q _ => ⟨ob, k b ob q⟩, fun _ _ q => q, fun _ _ _ q => q, fun _ _ q => q⟩
theorem Un.refl : Un fs ex H H h h := Un.kept fun _ _ q => q
theorem Un.laid (k : ∀ b u, h.get? b = some u → h'.get? b = some u) (hp : h.objs.size ≤ a) (hn : H a = none) : Un fs ex H (upd H a o) h h' where
  keep := fun b u q _ _ _ => k b u q
  slot := fun b u q _ _ _ => ⟨u.slots, k b u q⟩
  free := fun b u q n _ => by rw [upd_ne (Nat.ne_of_lt (Nat.lt_of_lt_of_le (Heap.lt_size q) hp))]; exact n
  there := fun b u q _ => ⟨u, k b u q⟩
  tups := fun b xs q => by rw [upd_ne (ne_of_none q hn)]; exact q
  frzs := fun b u xs q => by rw [upd_ne (ne_of_none q hn)]; exact q
  tbls := fun b ps q => by rw [upd_ne (ne_of_none q hn)]; exact q
theorem Un.write (mu : Mut (H x)) (he : e = x ∨ H e = some (.own x)) (k : ∀ b u, b ≠ e → h.get? b = some u → h'.get? b = some u) (heo : ∃ u, h'.get? e = some u) : Un fs ex H (upd H x o) h h' := by
  have hx : ∀ b, H b = none → b ≠ x := fun b n z => by subst z; rw [n] at mu; exact mu
  have hb : ∀ b, H b = none → b ≠ e := fun b n z => by
    subst z
    rcases he with r | r
    · exact hx b n r
    · rw [n] at r; cases r
  have hm : ∀ b u, H b = some u → ¬ Mut (some u) → b ≠ x := fun b u q nm z => by subst z; rw [q] at mu; exact nm mu
  refine ⟨fun b u q n _ _ => k b u (hb b n) q, fun b u q n _ _ => ⟨u.slots, k b u (hb b n) q⟩, fun b u q n _ => by rw [upd_ne (hx b n)]; exact n, fun b u q _ => ?_,
    fun b xs q => by rw [upd_ne (hm b _ q fun z => z)]; exact q, fun b u xs q => by rw [upd_ne (hm b _ q fun z => z)]; exact q, fun b ps q => by rw [upd_ne (hm b _ q fun z => z)]; exact q⟩
  by_cases hbe : b = e
  · subst hbe; exact heo
  · exact ⟨u, k b u hbe q⟩
theorem Un.mono (u : Un fs ex H H1 h h1) (hs : ∀ b ∈ fs, b ∈ fs') (hx : ∀ b ∈ ex, b ∈ ex') : Un fs' ex' H H1 h h1 :=
  ⟨fun b ob q n hb he => u.keep b ob q n (fun z => hb (hs b z)) fun z => he (hx b z), fun _ _ q n _ he => u.any q n fun z => he (hx _ z), fun b ob q n he => u.free b ob q n fun z => he (hx b z), fun b ob q he => u.there b ob q fun z => he (hx b z), u.tups, u.frzs, u.tbls⟩
end
def trk (h : Heap) (H : Hp) : List Addr := (List.range h.objs.size).filter fun a => (H a).isSome
def hidT (h : Heap) (H : Hp) : Heap := PySem.W.hideAll h (trk h H)
theorem hidT_size (h : Heap) (H : Hp) : (hidT h H).objs.size = h.objs.size := PySem.W.hideAll_size _ _
theorem hidT_get {h : Heap} {H : Hp} {b : Addr} {o : Obj} (e : h.get? b = some o) (n : H b = none) : (hidT h H).get? b = some o :=
  PySem.W.hideAll_get _ e fun hm => by
    have q : (H b).isSome = true := (List.mem_filter.mp hm).2
    rw [n] at q; simp at q
theorem of_hidT {h : Heap} {H : Hp} {b : Addr} {o : Obj} (e : (hidT h H).get? b = some o) : h.get? b = some o ∧ H b = none := by
  have e' : h.get? b = some o := PySem.W.of_hideAll (trk h H) e
  refine ⟨e', ?_⟩
  cases q : H b with
  | none => rfl
  | some x =>
    have hm : b ∈ trk h H := List.mem_filter.mpr ⟨List.mem_range.mpr (Heap.lt_size e'), by simp [q]⟩
    have z : (hidT h H).get? b = none := PySem.W.hideAll_none (trk h H) hm
    rw [z] at e; cases e
end L2
namespace L2
open PySem PySem.Spec PyProof.Rows
structure Mod (K : PySem.W.Frag) (mg : Str → Option Value) (base : Heap) : Prop where
  kin : K.In base
  glob : base.Ns mainGlobals mg
  blt : ∃ mb, base.Ns builtinsNs mb ∧ ∀ x : Str, x ≠ "__name__" → mb x = bootBuiltins x
  nolimit : base.NoLimit
structure Cx where
  prog : Program
  w : World
  K : PySem.W.Frag
  mg : Str → Option Value
  base : Heap
  A : Around
  N : List Str
  s₀ : Shared
  H₀ : Hp
  env : Env
  outer : List Env
  stack : List Env
  ex : List Addr
  fn : Str → Bool
  calm : Bool
  pn : List (Addr × Obj)
  xe : Value → Shared → Prop
def frs (l : List Env) : List Addr := l.filterMap (·.frame)
abbrev Cx.fs (X : Cx) : List Addr := frs X.outer
def Vis (sc : Scope) (x : Str) : Prop := sc.names.lookup x = some .local ∨ sc.names.lookup x = some .cell ∨ sc.names.lookup x = some .free
def Loc (sc : Scope) (x : Str) : Prop := sc.names.lookup x = some .local ∨ sc.names.lookup x = some .cell
def Look (env : Env) (h : Heap) (m : Str → Option Value) (x : Str) (u : Value) : Prop :=
  (env.kindOf x = some .local ∧ m x = some u) ∨ ((env.kindOf x = some .cell ∨ env.kindOf x = some .free) ∧ ∃ c, env.cells.lookup x = some c ∧ h.IsCell c (some u))
def Tabs (base : Heap) (H : Hp) : Prop := ∀ (P : Addr) (q : Str), base.objs[P]? = some ⟨.str q 0, none, .freed, #[]⟩ → H P = some (.tbl #[.str q 0])
structure Cx.Ok (X : Cx) : Prop where
  mod : Mod X.K X.mg X.base
  kind : X.env.scope.kind = .function
  glob : X.env.globals = mainGlobals
  blt : X.env.builtins = builtinsNs
  above : X.s₀.heap.objs.size ≤ X.env.locals
  inj : ∀ x y c, X.env.cells.lookup x = some c → X.env.cells.lookup y = some c → x = y
  has : ∀ x, (X.env.kindOf x = some .cell ∨ X.env.kindOf x = some .free) → ∃ c, X.env.cells.lookup x = some c
  cab : ∀ x c, X.fn x = true → X.env.cells.lookup x = some c → X.s₀.heap.objs.size ≤ c
  hd : X.calm = true → X.A.handled = none
  frames : X.A.frames = some X.stack
  stk : X.stack = X.outer ∨ (X.stack = X.env :: X.outer ∧ X.env.frame = some X.env.locals)
  exf : ∀ b ∈ X.ex, b ≠ X.env.locals ∧ ∀ x c, X.env.cells.lookup x = some c → c ≠ b
  bs : ∀ b o, X.base.get? b = some o → X.s₀.heap.get? b = some o ∧ X.H₀ b = none
  bsz : X.base.objs.size ≤ X.s₀.heap.objs.size
  noex : ∀ b o, X.base.get? b = some o → b ∉ X.ex
  exfs : ∀ b ∈ X.ex, b ∉ X.fs
  funs : X.s₀.heap.FunFrames X.base X.outer
  frf : ∀ b ∈ X.fs, X.H₀ b = none
  tabs : Tabs X.base X.H₀
structure Inv (X : Cx) (pins : List (Addr × Obj)) (σ : List (Option V)) (H : Hp) (s : Shared) : Prop where
  ok : X.Ok
  os : s.os = X.s₀.os
  bare : AllBare s.gens
  base : Un X.fs X.ex X.H₀ H X.s₀.heap s.heap
  loc : ∃ m, s.heap.Ns X.env.locals m ∧ ∀ (i : Nat) (x : Str) (v : V), X.N[i]? = some x → σ[i]? = some (some v) → Vis X.env.scope x → ∃ u, RelV v u ∧ Look X.env s.heap m x u
  cell : ∀ x c, X.env.cells.lookup x = some c → ∃ v, s.heap.IsCell c v
  free : H X.env.locals = none
  freeC : ∀ x c, X.env.cells.lookup x = some c → H c = none
  pin : ∀ p ∈ X.pn ++ pins, s.heap.get? p.1 = some p.2 ∧ H p.1 = none ∧ p.1 ≠ X.env.locals ∧ p.1 ∉ X.fs ∧ ∀ v, p.2.data ≠ .cell v
  hok : HOk X.prog X.w H s.heap
  len : σ.length = X.N.length
section
variable {X : Cx} {pins : List (Addr × Obj)} {σ : List (Option V)} {H H' : Hp} {s : Shared} {h' : Heap}
theorem Cx.Ok.nofr (ok : X.Ok) {b : Addr} {o : Obj} (e : X.base.get? b = some o) : b ∉ X.fs := fun hb => by
  have := (ok.funs.mem hb).1
  rw [e] at this; cases this
theorem Inv.bs (I : Inv X pins σ H s) : ∀ b o, X.base.get? b = some o → s.heap.get? b = some o ∧ H b = none := fun b o e =>
  ⟨I.base.keep b o (I.ok.bs b o e).1 (I.ok.bs b o e).2 (I.ok.nofr e) (I.ok.noex b o e), I.base.free b o (I.ok.bs b o e).1 (I.ok.bs b o e).2 (I.ok.noex b o e)⟩
theorem Inv.bk (I : Inv X pins σ H s) : ∀ b o, X.base.get? b = some o → s.heap.get? b = some o := fun b o e => (I.bs b o e).1
theorem Inv.mod (I : Inv X pins σ H s) : Mod X.K X.mg X.base := I.ok.mod
theorem Inv.tabs (I : Inv X pins σ H s) : Tabs X.base H := fun P q e => I.base.tbls P _ (I.ok.tabs P q e)
theorem Inv.kIn (I : Inv X pins σ H s) : X.K.In s.heap := I.ok.mod.kin.keeps I.bk
theorem Inv.nolimit (I : Inv X pins σ H s) : s.heap.NoLimit := I.ok.mod.nolimit.keeps I.bk
theorem Inv.lt (I : Inv X pins σ H s) : X.env.locals < s.heap.objs.size := let ⟨_, hn, _⟩ := I.loc; hn.lt
theorem Inv.sz (I : Inv X pins σ H s) : X.s₀.heap.objs.size ≤ s.heap.objs.size := Nat.le_trans I.ok.above (Nat.le_of_lt I.lt)
theorem Inv.nofs (I : Inv X pins σ H s) {a : Addr} (h : s.heap.objs.size ≤ a) : a ∉ X.fs := fun hb => by
  obtain ⟨_, o, ho, _⟩ := I.ok.funs.mem hb
  exact absurd (Nat.lt_of_lt_of_le (Heap.lt_size ho) (Nat.le_trans I.sz h)) (Nat.lt_irrefl _)
theorem Inv.cne (I : Inv X pins σ H s) : ∀ x c, X.env.cells.lookup x = some c → c ≠ X.env.locals := fun x c e z => by
  obtain ⟨v, o, ho, hd⟩ := I.cell x c e
  obtain ⟨m, ⟨o', es, ep, ho', hd', _⟩, _⟩ := I.loc
  rw [z, ho'] at ho; cases ho; rw [hd'] at hd; cases hd
theorem Inv.funs (I : Inv X pins σ H s) : s.heap.FunFrames X.base X.outer := by
  have all : ∀ (l : List Env), (∀ b ∈ frs l, b ∈ X.fs) → X.s₀.heap.FunFrames X.base l → s.heap.FunFrames X.base l := by
    intro l
    induction l with
    | nil => intro _ _; trivial
    | cons env r ih =>
      intro hs hl
      obtain ⟨hk, ⟨L, o, hf, hn, ho, hd⟩, hr⟩ := hl
      have hL : L ∈ X.fs := hs L (by unfold frs; rw [List.filterMap_cons, hf]; exact List.mem_cons_self)
      obtain ⟨sl, e⟩ := I.base.slot L o ho (I.ok.frf L hL) hL fun z => I.ok.exfs L z hL
      exact ⟨hk, ⟨L, _, hf, hn, e, hd⟩, ih (fun b hb => hs b (by unfold frs; rw [List.filterMap_cons, hf]; exact List.mem_cons_of_mem _ hb)) hr⟩
  exact all X.outer (fun _ hb => hb) I.ok.funs
theorem Inv.stack (I : Inv X pins σ H s) : s.heap.FunFrames X.base X.stack := by
  rcases I.ok.stk with e | ⟨e, hf⟩
  · rw [e]; exact I.funs
  · rw [e]
    obtain ⟨m, hn, _⟩ := I.loc
    refine .cons (by rw [I.ok.kind]; decide) hf hn ?_ I.funs
    exact Heap.get?_none_of_le (Nat.le_trans I.ok.bsz I.ok.above)
theorem Inv.stkSub (I : Inv X pins σ H s) : ∀ b ∈ frs X.stack, b ∈ X.env.locals :: X.fs := fun b hb => by
  rcases I.ok.stk with e | ⟨e, hf⟩
  · rw [e] at hb; exact List.mem_cons_of_mem _ hb
  · rw [e] at hb
    unfold frs at hb
    rw [List.filterMap_cons, hf] at hb
    exact hb
theorem Inv.stkFree (I : Inv X pins σ H s) : ∀ b ∈ frs X.stack, H b = none := fun b hb => by
  rcases List.mem_cons.mp (I.stkSub b hb) with e | hb
  · rw [e]; exact I.free
  · obtain ⟨_, o, ho, _⟩ := I.ok.funs.mem hb
    exact I.base.free b o ho (I.ok.frf b hb) fun z => I.ok.exfs b z hb
theorem Inv.step {g' : Array GenState} {t' : Nat} {d' : Drawn} {ch : List Addr} (I : Inv X pins σ H s)
    (hch : ∀ b ∈ ch, (b ∈ X.ex ∨ X.s₀.heap.objs.size ≤ b) ∧ b ≠ X.env.locals ∧ (∀ x c, X.env.cells.lookup x = some c → c ≠ b) ∧ ∀ p ∈ X.pn ++ pins, p.1 ≠ b)
    (keep : ∀ b o, b ≠ X.env.locals → b ∉ X.fs → b ∉ ch → s.heap.get? b = some o → H b = none → h'.get? b = some o)
    (slot : ∀ b o, b ≠ X.env.locals → b ∈ X.fs → b ∉ ch → s.heap.get? b = some o → H b = none → ∃ sl, h'.get? b = some { o with slots := sl }) (free : ∀ b o, b ∉ ch → s.heap.get? b = some o → H b = none → H' b = none)
    (there : ∀ b o, b ∉ ch → s.heap.get? b = some o → ∃ o', h'.get? b = some o')
    (tups : ∀ b xs, H b = some (.tup xs) → H' b = some (.tup xs)) (frzs : ∀ b o u, H b = some (.frz o u) → H' b = some (.frz o u)) (tbls : ∀ b ps, H b = some (.tbl ps) → H' b = some (.tbl ps))
    (ns : ∀ m, s.heap.Ns X.env.locals m → h'.Ns X.env.locals m) (hok : HOk X.prog X.w H' h') (hg : AllBare g') :
    Inv X pins σ H' { s with heap := h', gens := g', drawn := d', toks := t' } := by
  have neL : ∀ b o, X.s₀.heap.get? b = some o → b ≠ X.env.locals := fun b o e => Nat.ne_of_lt (Nat.lt_of_lt_of_le (Heap.lt_size e) I.ok.above)
  have neC : ∀ b o, X.s₀.heap.get? b = some o → b ∉ X.ex → b ∉ ch := fun b o e hx hb => by
    rcases (hch b hb).1 with z | z
    · exact hx z
    · exact absurd (Nat.lt_of_lt_of_le (Heap.lt_size e) z) (Nat.lt_irrefl _)
  have cellK : ∀ x c, X.env.cells.lookup x = some c → ∀ v, s.heap.IsCell c v → h'.IsCell c v := fun x c e v ⟨o, ho, hd⟩ => by
    have nch : c ∉ ch := fun z => (hch c z).2.2.1 x c e rfl
    by_cases hc : c ∈ X.fs
    · obtain ⟨sl, q⟩ := slot c o (I.cne x c e) hc nch ho (I.freeC x c e)
      exact ⟨_, q, hd⟩
    · exact ⟨o, keep c o (I.cne x c e) hc nch ho (I.freeC x c e), hd⟩
  refine ⟨I.ok, I.os, hg, ⟨fun b o e n hb hx => ?_, fun b o e n hb hx => ?_, fun b o e n hx => ?_, fun b o e hx => ?_, fun b xs e => tups b xs (I.base.tups b xs e), fun b o xs e => frzs b o xs (I.base.frzs b o xs e), fun b ps e => tbls b ps (I.base.tbls b ps e)⟩, ?_, fun x c e => ?_, ?_, fun x c e => ?_, fun p hp => ?_, hok, I.len⟩
  · exact keep b o (neL b o e) hb (neC b o e hx) (I.base.keep b o e n hb hx) (I.base.free b o e n hx)
  · obtain ⟨sl, e1⟩ := I.base.slot b o e n hb hx
    obtain ⟨sl', e2⟩ := slot b _ (neL b o e) hb (neC b o e hx) e1 (I.base.free b o e n hx)
    exact ⟨sl', e2⟩
  · obtain ⟨o', e1⟩ := I.base.there b o e hx
    exact free b o' (neC b o e hx) e1 (I.base.free b o e n hx)
  · obtain ⟨o', e1⟩ := I.base.there b o e hx
    exact there b o' (neC b o e hx) e1
  · obtain ⟨m, hn, hl⟩ := I.loc
    refine ⟨m, ns m hn, fun i x v e1 e2 e3 => ?_⟩
    obtain ⟨u, r, l⟩ := hl i x v e1 e2 e3
    refine ⟨u, r, ?_⟩
    rcases l with l | ⟨k, c, e, z⟩
    · exact .inl l
    · exact .inr ⟨k, c, e, cellK x c e _ z⟩
  · obtain ⟨v, z⟩ := I.cell x c e
    exact ⟨v, cellK x c e v z⟩
  · obtain ⟨m, ⟨o, _, _, ho, _⟩, _⟩ := I.loc
    exact free _ o (fun z => (hch _ z).2.1 rfl) ho I.free
  · obtain ⟨v, o, ho, hd⟩ := I.cell x c e
    exact free c o (fun z => (hch c z).2.2.1 x c e rfl) ho (I.freeC x c e)
  · obtain ⟨e, n, ne, nf, d⟩ := I.pin p hp
    have nch : p.1 ∉ ch := fun z => (hch p.1 z).2.2.2 p hp rfl
    exact ⟨keep p.1 p.2 ne nf nch e n, free p.1 p.2 nch e n, ne, nf, d⟩
theorem Inv.un {t' : Nat} (I : Inv X pins σ H s) (u : Un X.fs [] H H' s.heap h') (hok : HOk X.prog X.w H' h') : Inv X pins σ H' { s with heap := h', toks := t' } := by
  obtain ⟨m, ⟨o, es, ep, ho, r⟩, _⟩ := id I.loc
  obtain ⟨sl, hL⟩ := u.any ho I.free (by simp)
  exact I.step (g' := s.gens) (d' := s.drawn) (ch := []) (fun _ z => nomatch z) (fun b o _ hb _ e n => u.keep b o e n hb (by simp)) (fun b o _ hb _ e n => u.slot b o e n hb (by simp)) (fun b o _ e n => u.free b o e n (by simp)) (fun b o _ e => u.there b o e (by simp)) u.tups u.frzs u.tbls (fun m' hm => by
    obtain ⟨o', es', ep', ho', r'⟩ := hm
    rw [ho] at ho'; cases ho'
    exact ⟨_, es', ep', hL, r'⟩) hok I.bare
theorem Inv.call {g' : Array GenState} {t' : Nat} {d' : Drawn} {ch : List Addr} (I : Inv X pins σ H s) (u : Un (frs X.stack) ch H H' s.heap h') (hok : HOk X.prog X.w H' h') (hg : AllBare g')
    (hch : ∀ b ∈ ch, (b ∈ X.ex ∨ X.s₀.heap.objs.size ≤ b) ∧ b ≠ X.env.locals ∧ (∀ x c, X.env.cells.lookup x = some c → c ≠ b) ∧ ∀ p ∈ X.pn ++ pins, p.1 ≠ b) :
    Inv X pins σ H' { s with heap := h', gens := g', drawn := d', toks := t' } := by
  obtain ⟨m, ⟨o, es, ep, ho, r⟩, _⟩ := id I.loc
  obtain ⟨sl, hL⟩ := u.any ho I.free fun z => (hch _ z).2.1 rfl
  exact I.step (ch := ch) hch (fun b o hL hb hc e n => u.keep b o e n (fun z => (List.mem_cons.mp (I.stkSub b z)).elim hL hb) hc) (fun b o _ _ hc e n => u.any e n hc) (fun b o hc e n => u.free b o e n hc) (fun b o hc e => u.there b o e hc) u.tups u.frzs u.tbls (fun m' hm => by
    obtain ⟨o', es', ep', ho', r'⟩ := hm
    rw [ho] at ho'; cases ho'
    exact ⟨_, es', ep', hL, r'⟩) hok hg
theorem Inv.turned {t' : Nat} {it : Addr} (I : Inv X pins σ H s) (k : ∀ b o, b ≠ it → s.heap.get? b = some o → h'.get? b = some o) (hn : H it = none) (hL : it ≠ X.env.locals)
    (h1 : it ∈ X.ex ∨ X.s₀.heap.objs.size ≤ it) (h2 : ∀ x c, X.env.cells.lookup x = some c → c ≠ it) (h3 : ∀ p ∈ X.pn ++ pins, p.1 ≠ it) : Inv X pins σ H { s with heap := h', toks := t' } := by
  have nit : ∀ b u, H b = some u → b ≠ it := fun b u e z => by rw [z, hn] at e; cases e
  refine I.step (g' := s.gens) (d' := s.drawn) (ch := [it]) (fun b hb => ?_) (fun b o _ _ hc e _ => k b o (fun z => hc (by simp [z])) e) (fun b o _ _ hc e _ => ⟨o.slots, k b o (fun z => hc (by simp [z])) e⟩) (fun _ _ _ _ n => n)
    (fun b o hc e => ⟨o, k b o (fun z => hc (by simp [z])) e⟩) (fun _ _ e => e) (fun _ _ _ e => e) (fun _ _ e => e) (fun m hm => ?_) (fun b u e => ?_) I.bare
  · have e : b = it := by simpa using hb
    subst e
    exact ⟨h1, hL, h2, h3⟩
  · obtain ⟨o, es, ep, ho, r⟩ := hm
    exact ⟨o, es, ep, k _ o (Ne.symm hL) ho, r⟩
  · refine (I.hok b u e).stay (fun c v hc q => k c v ?_ q) (fun _ q => q) fun _ _ q => q
    rcases hc with z | z
    · rw [z]; exact nit b u e
    · exact nit c _ z
theorem Inv.tok (I : Inv X pins σ H s) (t : Nat) : Inv X pins σ H { s with toks := t } := I.un (h' := s.heap) (t' := t) Un.refl I.hok
theorem Inv.kept {t' : Nat} (I : Inv X pins σ H s) (k : ∀ b u, s.heap.get? b = some u → h'.get? b = some u) : Inv X pins σ H { s with heap := h', toks := t' } := I.un (Un.kept k) (I.hok.kept k)
theorem Inv.laid {a : Addr} {o : HO} {t' : Nat} (I : Inv X pins σ H s) (k : ∀ b u, s.heap.get? b = some u → h'.get? b = some u) (hp : s.heap.objs.size ≤ a) (new : ObjOk X.prog X.w (upd H a o) h' a o) :
    Inv X pins σ (upd H a o) { s with heap := h', toks := t' } := I.un (Un.laid k hp (I.hok.fresh hp)) (I.hok.laid k hp new)
theorem Inv.write {x e : Addr} {o : HO} {t' : Nat} (I : Inv X pins σ H s) (mu : Mut (H x)) (he : e = x ∨ H e = some (.own x)) (k : ∀ b u, b ≠ e → s.heap.get? b = some u → h'.get? b = some u) (heo : ∃ u, h'.get? e = some u)
    (new : ObjOk X.prog X.w (upd H x o) h' x o) : Inv X pins σ (upd H x o) { s with heap := h', toks := t' } := I.un (Un.write mu he k heo) (I.hok.write mu he k heo new)
theorem Inv.pins_of {pins' : List (Addr × Obj)} (I : Inv X pins σ H s) (h : ∀ p ∈ pins', s.heap.get? p.1 = some p.2 ∧ H p.1 = none ∧ p.1 ≠ X.env.locals ∧ p.1 ∉ X.fs ∧ ∀ v, p.2.data ≠ .cell v) : Inv X pins' σ H s :=
  ⟨I.ok, I.os, I.bare, I.base, I.loc, I.cell, I.free, I.freeC, fun p hp => (List.mem_append.mp hp).elim (fun z => I.pin p (List.mem_append_left _ z)) (h p), I.hok, I.len⟩
theorem nodup_ix {N : List Str} (hN : N.Nodup) {i j : Nat} {x : Str} (a : N[i]? = some x) (b : N[j]? = some x) : i = j := by
  obtain ⟨h1, e1⟩ := List.getElem?_eq_some_iff.mp a
  obtain ⟨h2, e2⟩ := List.getElem?_eq_some_iff.mp b
  exact (List.getElem_inj hN).mp (e1.trans e2.symm)
theorem store_ok2 {M : Model} {A : Around} {E : Value → Shared → Prop} {i : Nat} {x : Str} {v : V} {u : Value} {Q : Unit → Shared → Prop} (I : Inv X pins σ H s) (hN : X.N.Nodup) (hi : X.N[i]? = some x) (hx : Loc X.env.scope x) (r : RelV v u)
    (h : ∀ s', Inv X pins (σ.set i (some v)) H s' → (∃ a, Heap.SameBut a s.heap s'.heap ∧ (a = X.env.locals ∨ X.env.cells.lookup x = some a)) → Q () s') (hf : X.fn x = true ∨ X.env.scope.names.lookup x = some .local := by first | exact .inl rfl | exact .inr rfl | assumption) : wpAny M A (storeName X.env x u) Q E s := by
  obtain ⟨m, hn, hl⟩ := id I.loc
  have hcls : (X.env.scope.kind == .class || (X.env.scope.kind == .module && X.env.locals != X.env.globals)) = false := by rw [I.ok.kind]; rfl
  have hiσ : i < σ.length := by rw [I.len]; exact (List.getElem?_eq_some_iff.mp hi).1
  have cne := I.cne
  have tracked : ∀ {a : Addr} {h' : Heap}, (∃ o, s.heap.get? a = some o ∧ H a = none) → Heap.SameBut a s.heap h' → HOk X.prog X.w H h' := fun {a h'} ha hs b ob e => by
    obtain ⟨_, _, hfree⟩ := ha
    refine (I.hok b ob e).stay (fun c w' hc q => (hs.2 c ?_).trans q) (fun _ q => q) fun _ _ q => q
    rintro rfl
    rcases hc with rfl | hc
    · rw [hfree] at e; cases e
    · rw [hfree] at hc; cases hc
  rcases hx with hk | hk
  · refine wpAny_storeName_local hk hn (fun h' hn' hs => ?_) hcls
    obtain ⟨oL, _, _, hoL, _⟩ := id hn
    refine h _ ⟨I.ok, I.os, I.bare, ⟨fun b o e n hb hx => ?_, fun b o e n hb hx => ?_, I.base.free, fun b o e hx => ?_, I.base.tups, I.base.frzs, I.base.tbls⟩, ⟨_, hn', fun j y v' e1 e2 e3 => ?_⟩, fun y c e => ?_, I.free, I.freeC, fun p hp => ?_, tracked ⟨oL, hoL, I.free⟩ hs, by simpa using I.len⟩ ⟨_, hs, .inl rfl⟩
    · exact (hs.2 b (Nat.ne_of_lt (Nat.lt_of_lt_of_le (Heap.lt_size e) I.ok.above))).trans (I.base.keep b o e n hb hx)
    · obtain ⟨sl, e1⟩ := I.base.slot b o e n hb hx
      exact ⟨sl, (hs.2 b (Nat.ne_of_lt (Nat.lt_of_lt_of_le (Heap.lt_size e) I.ok.above))).trans e1⟩
    · obtain ⟨o', e1⟩ := I.base.there b o e hx
      exact ⟨o', (hs.2 b (Nat.ne_of_lt (Nat.lt_of_lt_of_le (Heap.lt_size e) I.ok.above))).trans e1⟩
    · by_cases hj : j = i
      · subst hj
        rw [hi] at e1; cases e1
        rw [List.getElem?_set_self hiσ] at e2
        cases e2
        exact ⟨u, r, .inl ⟨hk, by simp⟩⟩
      · rw [List.getElem?_set_ne (Ne.symm hj)] at e2
        obtain ⟨u', r', q⟩ := hl j y v' e1 e2 e3
        refine ⟨u', r', ?_⟩
        rcases q with ⟨k, e⟩ | ⟨k, c, e, z⟩
        · refine .inl ⟨k, ?_⟩
          have : y ≠ x := fun e => hj (nodup_ix hN e1 (e ▸ hi))
          simp [this, e]
        · exact .inr ⟨k, c, e, z.sameBut hs (cne y c e)⟩
    · obtain ⟨w', z⟩ := I.cell y c e
      exact ⟨w', z.sameBut hs (cne y c e)⟩
    · obtain ⟨e, n, ne, nf, d⟩ := I.pin p hp
      exact ⟨(hs.2 p.1 ne).trans e, n, ne, nf, d⟩
  · have hfn : X.fn x = true := by
      rcases hf with z | z
      · exact z
      · rw [z] at hk; cases hk
    obtain ⟨c, hc⟩ := I.ok.has x (.inl hk)
    obtain ⟨w', z⟩ := I.cell x c hc
    refine wpAny_storeName_cell I.ok.kind hk hc z (fun h' hc' hs => ?_)
    obtain ⟨oc, hoc, hocd⟩ := id z
    refine h { s with heap := h' } ⟨I.ok, I.os, I.bare, ⟨fun b o e n hb hx => ?_, fun b o e n hb hx => ?_, I.base.free, fun b o e hx => ?_, I.base.tups, I.base.frzs, I.base.tbls⟩, ⟨m, hn.sameBut hs (Ne.symm (cne x c hc)), fun j y v' e1 e2 e3 => ?_⟩, fun y c' e => ?_, I.free, I.freeC, fun p hp => ?_, tracked ⟨oc, hoc, I.freeC x c hc⟩ hs, by simpa using I.len⟩ ⟨c, hs, .inr hc⟩
    · exact (hs.2 b (Nat.ne_of_lt (Nat.lt_of_lt_of_le (Heap.lt_size e) (I.ok.cab x c hfn hc)))).trans (I.base.keep b o e n hb hx)
    · obtain ⟨sl, e1⟩ := I.base.slot b o e n hb hx
      exact ⟨sl, (hs.2 b (Nat.ne_of_lt (Nat.lt_of_lt_of_le (Heap.lt_size e) (I.ok.cab x c hfn hc)))).trans e1⟩
    · obtain ⟨o', e1⟩ := I.base.there b o e hx
      exact ⟨o', (hs.2 b (Nat.ne_of_lt (Nat.lt_of_lt_of_le (Heap.lt_size e) (I.ok.cab x c hfn hc)))).trans e1⟩
    · by_cases hj : j = i
      · subst hj
        rw [hi] at e1; cases e1
        rw [List.getElem?_set_self hiσ] at e2
        cases e2
        exact ⟨u, r, .inr ⟨.inl hk, c, hc, hc'⟩⟩
      · rw [List.getElem?_set_ne (Ne.symm hj)] at e2
        obtain ⟨u', r', q⟩ := hl j y v' e1 e2 e3
        refine ⟨u', r', ?_⟩
        rcases q with q | ⟨k, c', e, z'⟩
        · exact .inl q
        · refine .inr ⟨k, c', e, z'.sameBut hs ?_⟩
          rintro rfl
          exact hj (nodup_ix hN e1 (I.ok.inj _ _ _ e hc ▸ hi))
    · by_cases hcc : c' = c
      · subst hcc; exact ⟨_, hc'⟩
      · obtain ⟨w2, z2⟩ := I.cell y c' e
        exact ⟨w2, z2.sameBut hs hcc⟩
    · obtain ⟨e, n, ne, nf, d⟩ := I.pin p hp
      refine ⟨(hs.2 p.1 ?_).trans e, n, ne, nf, d⟩
      intro q
      rw [q, hoc] at e
      have q' : oc = p.2 := Option.some.inj e
      exact d w' (by rw [← q']; exact hocd)
theorem store_ok {M : Model} {A : Around} {E : Value → Shared → Prop} {i : Nat} {x : Str} {v : V} {u : Value} {Q : Unit → Shared → Prop} (I : Inv X pins σ H s) (hN : X.N.Nodup) (hi : X.N[i]? = some x) (hx : Loc X.env.scope x) (r : RelV v u)
    (h : ∀ s', Inv X pins (σ.set i (some v)) H s' → Q () s') (hf : X.fn x = true ∨ X.env.scope.names.lookup x = some .local := by first | exact .inl rfl | exact .inr rfl | assumption) : wpAny M A (storeName X.env x u) Q E s :=
  store_ok2 I hN hi hx r (fun s' I' _ => h s' I') hf
theorem Inv.call' {s' : Shared} {ch : List Addr} (I : Inv X pins σ H s) (ho : s'.os = s.os) (u : Un (frs X.stack) ch H H' s.heap s'.heap) (hok : HOk X.prog X.w H' s'.heap) (hg : AllBare s'.gens)
    (hch : ∀ b ∈ ch, (b ∈ X.ex ∨ X.s₀.heap.objs.size ≤ b) ∧ b ≠ X.env.locals ∧ (∀ x c, X.env.cells.lookup x = some c → c ≠ b) ∧ ∀ p ∈ X.pn ++ pins, p.1 ≠ b) : Inv X pins σ H' s' := by
  obtain ⟨h', g', d', t', o'⟩ := s'
  have e : o' = s.os := ho
  subst e
  exact I.call (g' := g') (t' := t') (d' := d') u hok hg hch
end
abbrev XK := Value → Option Addr → Hp → Prop
abbrev St := List (Option V)
abbrev VK := V → Hp → Prop
abbrev TE := St → Hp → VK → Prop
abbrev TT := St → Hp → (Bool → Hp → Prop) → Prop
abbrev TA := St → Hp → (List V → Hp → Prop) → Prop
structure Ends where
  nx : St → Hp → Prop
  rt : VK
  bk : St → Hp → Prop := fun _ _ => False
  ct : St → Hp → Prop := fun _ _ => False
abbrev TS := Ends → St → Hp → Prop
def EP (X : Cx) (pins : List (Addr × Obj)) (σ : St) (Q : VK) (u : Value) (s' : Shared) : Prop := ∃ v H', Inv X pins σ H' s' ∧ RelV v u ∧ Q v H'
def TP (X : Cx) (pins : List (Addr × Obj)) (σ : St) (Q : Bool → Hp → Prop) (b : Bool) (s' : Shared) : Prop := ∃ H', Inv X pins σ H' s' ∧ Q b H'
def AP (X : Cx) (pins : List (Addr × Obj)) (σ : St) (Q : List V → Hp → Prop) (us : List Value) (s' : Shared) : Prop := ∃ vs H', Inv X pins σ H' s' ∧ Vals vs us ∧ Q vs H'
def SP (X : Cx) (pins : List (Addr × Obj)) (D : Ends) (f : Flow) (s' : Shared) : Prop :=
  match f with
  | .next => ∃ σ' H', Inv X pins σ' H' s' ∧ D.nx σ' H'
  | .brk => ∃ σ' H', Inv X pins σ' H' s' ∧ D.bk σ' H'
  | .cont => ∃ σ' H', Inv X pins σ' H' s' ∧ D.ct σ' H'
  | .ret u => ∃ v σ' H', Inv X pins σ' H' s' ∧ RelV v u ∧ D.rt v H'
def PE (X : Cx) (e : Expr) (t : TE) : Prop :=
  ∀ (pins : List (Addr × Obj)) (s : Shared) (σ : St) (H : Hp) (Q : VK), Inv X pins σ H s → t σ H Q → wpAny (model X.prog X.w) X.A (eval e X.env) (EP X pins σ Q) X.xe s
def PT (X : Cx) (e : Expr) (t : TT) : Prop :=
  ∀ (pins : List (Addr × Obj)) (s : Shared) (σ : St) (H : Hp) (Q : Bool → Hp → Prop), Inv X pins σ H s → t σ H Q → wpAny (model X.prog X.w) X.A (isTrue e X.env (eval e X.env)) (TP X pins σ Q) X.xe s
def PW (X : Cx) (e : Expr) (t : TT) : Prop :=
  ∀ (whole : Sem Value) (pins : List (Addr × Obj)) (s : Shared) (σ : St) (H : Hp) (Q : Bool → Hp → Prop), Inv X pins σ H s → t σ H Q → wpAny (model X.prog X.w) X.A (isTrue e X.env whole) (TP X pins σ Q) X.xe s
theorem PW.pt {X : Cx} {e : Expr} {t : TT} (h : PW X e t) : PT X e t := h _
def PA (X : Cx) (es : List Expr) (t : TA) : Prop :=
  ∀ (pos : Pos) (pins : List (Addr × Obj)) (s : Shared) (σ : St) (H : Hp) (Q : List V → Hp → Prop), Inv X pins σ H s → t σ H Q → wpAny (model X.prog X.w) X.A (spliced (backTo pos (starEach es X.env))) (AP X pins σ Q) X.xe s
def PS (X : Cx) (st : Stmt) (t : TS) : Prop :=
  ∀ (pins : List (Addr × Obj)) (s : Shared) (σ : St) (H : Hp) (D : Ends), Inv X pins σ H s → t D σ H → wpAny (model X.prog X.w) X.A (exec st X.env) (SP X pins D) X.xe s
def PSs (X : Cx) (st : List Stmt) (t : TS) : Prop :=
  ∀ (pins : List (Addr × Obj)) (s : Shared) (σ : St) (H : Hp) (D : Ends), Inv X pins σ H s → t D σ H → wpAny (model X.prog X.w) X.A (execs st X.env) (SP X pins D) X.xe s
theorem thn {α : Type} {t : Sem α} {Q Q' : α → Shared → Prop} {M : Model} {A : Around} {E : Value → Shared → Prop} {s : Shared} (h : wpAny M A t Q E s) (hQ : ∀ a s, Q a s → Q' a s) : wpAny M A t Q' E s := wpAny_mono h hQ fun _ _ x => x
end L2
namespace L2
open PySem PySem.Spec PyProof.Rows
section
variable {X : Cx}
def tVar (i : Nat) : TE := fun σ H Q => ∃ v, σ[i]? = some (some v) ∧ Q v H
def tC (v : V) : TE := fun _ H Q => Q v H
theorem pe_var {i : Nat} {x : Str} {pos : Pos} (hN : X.N[i]? = some x) (hv : Vis X.env.scope x) (hd : (x == ("__debug__" : Str)) = false := by decide) (hcd : (x == ("__classdict__" : Str)) = false := by decide) : PE X (.Name x pos) (tVar i) := by
  intro pins s σ H Q I h
  obtain ⟨v, e, h⟩ := h
  obtain ⟨m, hn, hl⟩ := I.loc
  obtain ⟨u, r, l⟩ := hl i x v hN e hv
  have fin : EP X pins σ Q u s := ⟨v, H, I, r, h⟩
  rcases l with ⟨hk, hm⟩ | ⟨hk, c, hc, hcell⟩
  · exact wpAny_Name (wpAny_loadName_local I.ok.kind hk hn hm fin) hd
  · rcases hk with hk | hk
    · exact wpAny_Name (wpAny_loadName_cell I.ok.kind hk hc hcell fin) hd
    · exact wpAny_Name (wpAny_loadName_free I.ok.kind hk hc hcell fin hcd) hd
theorem pe_int {i j pos} : PE X (.Constant (.int i) j pos) (tC (.int i)) := fun _ _ _ H _ I h => wpAny_Constant_int ⟨.int i, H, I.tok _, ⟨_, rfl⟩, h⟩
theorem pe_bl {b j pos} : PE X (.Constant (.bool b) j pos) (tC (.bl b)) := fun _ _ _ H _ I h => Constant_bool ⟨.bl b, H, I, rfl, h⟩
theorem pe_non {j pos} : PE X (.Constant .none j pos) (tC .non) := fun _ _ _ H _ I h => Constant_none ⟨.non, H, I, rfl, h⟩
theorem pe_str {x j pos} : PE X (.Constant (.str x) j pos) (tC (.str x)) := fun _ _ _ H _ I h => Calls.Constant_str ⟨.str x, H, I.tok _, ⟨_, rfl⟩, h⟩
def Gl (X : Cx) (x : Str) : Prop := X.env.kindOf x = some .globalImplicit
theorem ld_glob {E : Value → Shared → Prop} {pins : List (Addr × Obj)} {s : Shared} {σ : St} {H : Hp} {x : Str} {u : Value} {pos : Pos} {Q : Value → Shared → Prop} (I : Inv X pins σ H s) (hg : Gl X x) (hm : X.mg x = some u) (h : Q u s)
    (hd : (x == ("__debug__" : Str)) = false := by decide) : wpAny (model X.prog X.w) X.A (eval (.Name x pos) X.env) Q E s :=
  Calls.Name_function_global I.ok.kind hg (Calls.loadGlobal_global (by rw [I.ok.glob]; exact I.mod.glob.keeps I.bk) hm h) hd
theorem ld_blt {E : Value → Shared → Prop} {pins : List (Addr × Obj)} {s : Shared} {σ : St} {H : Hp} {x : Str} {u : Value} {pos : Pos} {Q : Value → Shared → Prop} (I : Inv X pins σ H s) (hg : Gl X x) (hm : X.mg x = none) (hv : bootBuiltins x = some u) (h : Q u s)
    (hn : x ≠ "__name__" := by decide) (hd : (x == ("__debug__" : Str)) = false := by decide) : wpAny (model X.prog X.w) X.A (eval (.Name x pos) X.env) Q E s := by
  obtain ⟨mb, h1, h2⟩ := I.mod.blt
  exact Calls.Name_function_global I.ok.kind hg (Calls.loadGlobal_builtin (by rw [I.ok.glob]; exact I.mod.glob.keeps I.bk) hm (by rw [I.ok.blt]; exact h1.keeps I.bk) ((h2 x hn).trans hv) h) hd
theorem pe_glob {x : Str} {v : V} {u : Value} {pos : Pos} (hg : Gl X x) (hm : X.mg x = some u) (r : RelV v u) (hd : (x == ("__debug__" : Str)) = false := by decide) : PE X (.Name x pos) (tC v) :=
  fun _ _ _ H _ I h => ld_glob I hg hm ⟨v, H, I, r, h⟩ hd
theorem pe_bltn {x : Str} {v : V} {u : Value} {pos : Pos} (hg : Gl X x) (hm : X.mg x = none) (hv : bootBuiltins x = some u) (r : RelV v u) (hn : x ≠ "__name__" := by decide) (hd : (x == ("__debug__" : Str)) = false := by decide) : PE X (.Name x pos) (tC v) :=
  fun _ _ _ H _ I h => ld_blt I hg hm hv ⟨v, H, I, r, h⟩ hn hd
variable {a b : Expr} {ta tb : TE} {pos : Pos}
def PC (X : Cx) (op : CmpOp) (a b : Expr) (t : TE) : Prop :=
  ∀ (pins : List (Addr × Obj)) (s : Shared) (σ : St) (H : Hp) (Q : VK), Inv X pins σ H s → t σ H Q →
    wpAny (model X.prog X.w) X.A (eval a X.env) (fun v s₁ => wpAny (model X.prog X.w) X.A (eval b X.env) (fun u s₂ => wpAny (model X.prog X.w) X.A (compareOp op v u) (EP X pins σ Q) X.xe s₂) X.xe s₁) X.xe s
def tB (t : TE) : TT := fun σ H Q => t σ H fun x H1 => ∃ c, x = .bl c ∧ Q c H1
theorem pe_cmp {op : CmpOp} {t : TE} (h : PC X op a b t) (h1 : behindInMarks op b = false := by first | exact nobehind _ (by decide) (by decide) | rfl) : PE X (.Compare a [op] [b] pos) t := fun pins s σ H Q I hw => wpAny_Compare1 (h pins s σ H Q I hw) h1
theorem pt_cmp {op : CmpOp} {t : TE} (h : PC X op a b t) (h1 : behindInMarks op b = false := by first | exact nobehind _ (by decide) (by decide) | rfl) : PT X (.Compare a [op] [b] pos) (tB t) := by
  intro pins s σ H Q I hw
  refine wpAny_isTrue_Compare1 (thn (h pins s σ H _ I hw) fun v s1 h1 => thn h1 fun u s2 h2 => thn h2 fun c s3 ⟨x, H1, I1, r1, q1⟩ => ?_) h1
  obtain ⟨d, rfl, q⟩ := q1
  cases r1
  exact wpAny_truthy_bool ⟨H1, I1, q⟩
theorem pt_val {e : Expr} {t : TE} (h : PE X e t) (he : ∀ whole, isTrue e X.env whole = (do let v ← whole; standAt e.pos; holding [v] (truthy v)) := by intro _; rfl) : PT X e (tB t) := by
  intro pins s σ H Q I hw
  refine isTrue_plain (thn (h pins s σ H _ I hw) fun v s1 ⟨x, H1, I1, r1, q1⟩ => ?_) (he _)
  obtain ⟨d, rfl, q⟩ := q1
  cases r1
  exact wpAny_truthy_bool ⟨H1, I1, q⟩
variable {tA tB' : TT} {rest : List Expr}
def tAnd (t u : TT) : TT := fun σ H Q => t σ H fun c H1 => if c = true then u σ H1 Q else Q false H1
def tOr (t u : TT) : TT := fun σ H Q => t σ H fun c H1 => if c = true then Q true H1 else u σ H1 Q
def tNot (t : TT) : TT := fun σ H Q => t σ H fun c H1 => Q (!c) H1
theorem pw_and1 (ha : PT X a tA) : PW X (.BoolOp .And [a] pos) tA := by
  intro wh pins s σ H Q I h
  refine isTrue_and (thn (ha pins s σ H Q I h) fun c s1 e => ?_)
  cases c with
  | true => exact isTrue_and_nil e
  | false => exact e
theorem pw_or1 (ha : PT X a tA) : PW X (.BoolOp .Or [a] pos) tA := by
  intro wh pins s σ H Q I h
  refine isTrue_or (thn (ha pins s σ H Q I h) fun c s1 e => ?_)
  cases c with
  | false => exact isTrue_or_nil e
  | true => exact e
theorem pw_and (ha : PT X a tA) (hb : PW X (.BoolOp .And (b :: rest) pos) tB') : PW X (.BoolOp .And (a :: b :: rest) pos) (tAnd tA tB') := by
  intro wh pins s σ H Q I h
  refine isTrue_and (thn (ha pins s σ H _ I h) fun c s1 ⟨H1, I1, q1⟩ => ?_)
  cases c with
  | true => exact hb wh pins s1 σ H1 Q I1 q1
  | false => exact ⟨H1, I1, q1⟩
theorem pw_or (ha : PT X a tA) (hb : PW X (.BoolOp .Or (b :: rest) pos) tB') : PW X (.BoolOp .Or (a :: b :: rest) pos) (tOr tA tB') := by
  intro wh pins s σ H Q I h
  refine isTrue_or (thn (ha pins s σ H _ I h) fun c s1 ⟨H1, I1, q1⟩ => ?_)
  cases c with
  | true => exact ⟨H1, I1, q1⟩
  | false => exact hb wh pins s1 σ H1 Q I1 q1
theorem pt_not (ha : PT X a tA) : PT X (.UnaryOp .Not a pos) (tNot tA) := by
  intro pins s σ H Q I h
  exact isTrue_not (ha pins s σ H (fun c H1 => Q (!c) H1) I h)
def tAndV (ta tb : TE) : TE := fun σ H Q => ta σ H fun x H1 => ∃ c, x = .bl c ∧ if c = true then tb σ H1 Q else Q (.bl false) H1
def tOrV (ta tb : TE) : TE := fun σ H Q => ta σ H fun x H1 => ∃ c, x = .bl c ∧ if c = true then Q (.bl true) H1 else tb σ H1 Q
def tNotV (ta : TE) : TE := fun σ H Q => ta σ H fun x H1 => ∃ c, x = .bl c ∧ Q (.bl (!c)) H1
theorem pe_one {op} {t : TE} (h : PE X a t) : PE X (.BoolOp op [a] pos) t := fun pins s σ H Q I hw => BoolOp_one (h pins s σ H Q I hw)
theorem pe_and (ha : PE X a ta) (hb : PE X (.BoolOp .And (b :: rest) pos) tb) : PE X (.BoolOp .And (a :: b :: rest) pos) (tAndV ta tb) := by
  intro pins s σ H Q I h
  refine BoolOp_and (thn (ha pins s σ H _ I h) fun v s1 ⟨x, H1, I1, r1, q1⟩ => ?_)
  obtain ⟨c, rfl, q1⟩ := q1
  cases r1
  refine wpAny_truthy_bool ?_
  cases c with
  | true => exact hb pins s1 σ H1 Q I1 q1
  | false => exact ⟨.bl false, H1, I1, rfl, q1⟩
theorem pe_or (ha : PE X a ta) (hb : PE X (.BoolOp .Or (b :: rest) pos) tb) : PE X (.BoolOp .Or (a :: b :: rest) pos) (tOrV ta tb) := by
  intro pins s σ H Q I h
  refine BoolOp_or (thn (ha pins s σ H _ I h) fun v s1 ⟨x, H1, I1, r1, q1⟩ => ?_)
  obtain ⟨c, rfl, q1⟩ := q1
  cases r1
  refine wpAny_truthy_bool ?_
  cases c with
  | false => exact hb pins s1 σ H1 Q I1 q1
  | true => exact ⟨.bl true, H1, I1, rfl, q1⟩
theorem pe_not (ha : PE X a ta) : PE X (.UnaryOp .Not a pos) (tNotV ta) := by
  intro pins s σ H Q I h
  refine UnaryOp_ (thn (ha pins s σ H _ I h) fun v s1 ⟨x, H1, I1, r1, q1⟩ => ?_)
  obtain ⟨c, rfl, q1⟩ := q1
  cases r1
  exact not_of (wpAny_truthy_bool ⟨.bl (!c), H1, I1, rfl, q1⟩)
def tIf (t : TT) (ta tb : TE) : TE := fun σ H Q => t σ H fun c H1 => if c = true then ta σ H1 Q else tb σ H1 Q
theorem pe_ifExp {c : Expr} (hc : PT X c tA) (ha : PE X a ta) (hb : PE X b tb) : PE X (.IfExp c a b pos) (tIf tA ta tb) := by
  intro pins s σ H Q I h
  refine wpAny_IfExp (thn (hc pins s σ H _ I h) fun d s1 ⟨H1, I1, q1⟩ => ?_)
  cases d with
  | true => exact ha pins s1 σ H1 Q I1 q1
  | false => exact hb pins s1 σ H1 Q I1 q1
end
end L2
namespace L2
open PySem PySem.Spec PyProof.Rows
def SqL (K : PySem.W.Frag) (H : Hp) (a : Addr) (xs : List V) : Prop :=
  Rd H a (.lst xs) ∨
    ∃ (o : Obj) (its : Array Value) (n : Nat), K.lookup a = some o ∧ o.cls = .type "list" ∧ o.dict = none ∧ o.data = .seq its n ∧ its.size ≤ sizeLine ∧ Vals xs its.toList
def SqT (K : PySem.W.Frag) (H : Hp) (a : Addr) (xs : List V) : Prop :=
  Rd H a (.tup xs) ∨
    ∃ (o : Obj) (its : Array Value) (n : Nat), K.lookup a = some o ∧ o.cls = .type "tuple" ∧ o.data = .seq its n ∧ its.size ≤ sizeLine ∧ Vals xs its.toList
def absV : Value → Option V
  | .none => some .non
  | .bool b => some (.bl b)
  | .int i _ => some (.int i)
  | .str x _ => some (.str x)
  | .bytes b _ => some (.byt b)
  | .float b _ => some (.flt b)
  | .ref a => some (.ref a)
  | .type n => some (.ty n)
  | _ => none
theorem RelV.abs {x : V} {u : Value} (r : RelV x u) : absV u = some x := by
  cases x with
  | non => cases r; rfl
  | bl _ => cases r; rfl
  | int _ => obtain ⟨t, rfl⟩ := r; rfl
  | str _ => obtain ⟨t, rfl⟩ := r; rfl
  | byt _ => obtain ⟨t, rfl⟩ := r; rfl
  | flt _ => obtain ⟨t, rfl⟩ := r; rfl
  | ref _ => cases r; rfl
  | ty _ => cases r; rfl
theorem RelV.inj {x y : V} {u : Value} (r : RelV x u) (q : RelV y u) : x = y := Option.some.inj (r.abs.symm.trans q.abs)
theorem Vals.inj : ∀ {xs ys : List V} {us : List Value}, Vals xs us → Vals ys us → xs = ys
  | _, _, _, .nil, .nil => rfl
  | _, _, _, .cons r t, .cons r' t' => by rw [r.inj r', Vals.inj t t']
section
variable {X : Cx} {pins : List (Addr × Obj)} {σ : St} {H : Hp} {s : Shared} {a : Addr} {xs ys : List V}
theorem SqL.of {K : PySem.W.Frag} (h : H a = some (.lst xs)) : SqL K H a xs := .inl (.inl h)
theorem SqT.of {K : PySem.W.Frag} (h : H a = some (.tup xs)) : SqT K H a xs := .inl (.inl h)
theorem Inv.list (I : Inv X pins σ H s) (h : SqL X.K H a xs) : ∃ its : List Value, Vals xs its ∧ PlainL s.heap a its.toArray ∧ xs.length ≤ sizeLine := by
  rcases h with h | ⟨o, its, n, hk, hc, hd, hs, hz, r⟩
  · obtain ⟨z, its, n, r, e⟩ := h.ok I.hok
    exact ⟨its, r, ⟨_, n, e, rfl, rfl, rfl⟩, z⟩
  · refine ⟨its.toList, r, ⟨o, n, I.kIn a o hk, hc, hd, by simpa using hs⟩, ?_⟩
    have e := r.length
    simp only [Array.length_toList] at e
    omega
theorem Inv.tuple (I : Inv X pins σ H s) (h : SqT X.K H a xs) : ∃ its : List Value, Vals xs its ∧ IsTup s.heap a its.toArray ∧ xs.length ≤ sizeLine := by
  rcases h with h | ⟨o, its, n, hk, hc, hs, hz, r⟩
  · obtain ⟨z, its, r, p⟩ := h.ok I.hok
    exact ⟨its, r, p, z⟩
  · refine ⟨its.toList, r, ⟨o, I.kIn a o hk, hc, n, by simpa using hs⟩, ?_⟩
    have e := r.length
    simp only [Array.length_toList] at e
    omega
theorem Inv.list_inj (I : Inv X pins σ H s) (h : SqL X.K H a xs) (h' : SqL X.K H a ys) : xs = ys := by
  obtain ⟨its, r, ⟨o, n, e, _, _, d⟩, _⟩ := I.list h
  obtain ⟨its', r', ⟨o', n', e', _, _, d'⟩, _⟩ := I.list h'
  rw [e] at e'; cases e'
  rw [d] at d'
  injection d' with d1 _
  have : its = its' := by simpa using congrArg Array.toList d1
  subst this
  exact r.inj r'
theorem Inv.tuple_inj (I : Inv X pins σ H s) (h : SqT X.K H a xs) (h' : SqT X.K H a ys) : xs = ys := by
  obtain ⟨its, r, ⟨o, e, _, n, d⟩, _⟩ := I.tuple h
  obtain ⟨its', r', ⟨o', e', _, n', d'⟩, _⟩ := I.tuple h'
  rw [e] at e'; cases e'
  rw [d] at d'
  injection d' with d1 _
  have : its = its' := by simpa using congrArg Array.toList d1
  subst this
  exact r.inj r'
end
abbrev Cx.wish (X : Cx) (E : Value → Shared → Prop) : Cx := { X with xe := E }
abbrev Cx.nox (X : Cx) : Cx := X.wish fun _ _ => False
theorem Cx.Ok.wish {X : Cx} (ok : X.Ok) (E : Value → Shared → Prop) : (X.wish E).Ok :=
  ⟨ok.mod, ok.kind, ok.glob, ok.blt, ok.above, ok.inj, ok.has, ok.cab, ok.hd, ok.frames, ok.stk, ok.exf, ok.bs, ok.bsz, ok.noex, ok.exfs, ok.funs, ok.frf, ok.tabs⟩
theorem Cx.Ok.unwish {X : Cx} {E : Value → Shared → Prop} (ok : (X.wish E).Ok) : X.Ok :=
  ⟨ok.mod, ok.kind, ok.glob, ok.blt, ok.above, ok.inj, ok.has, ok.cab, ok.hd, ok.frames, ok.stk, ok.exf, ok.bs, ok.bsz, ok.noex, ok.exfs, ok.funs, ok.frf, ok.tabs⟩
section
variable {X : Cx} {pins : List (Addr × Obj)} {σ : St} {H : Hp} {s : Shared} {E : Value → Shared → Prop}
theorem Inv.wish (I : Inv X pins σ H s) (E : Value → Shared → Prop) : Inv (X.wish E) pins σ H s := ⟨I.ok.wish E, I.os, I.bare, I.base, I.loc, I.cell, I.free, I.freeC, I.pin, I.hok, I.len⟩
theorem Inv.unwish (I : Inv (X.wish E) pins σ H s) : Inv X pins σ H s := ⟨I.ok.unwish, I.os, I.bare, I.base, I.loc, I.cell, I.free, I.freeC, I.pin, I.hok, I.len⟩
theorem SP.unwish {D : Ends} {f : Flow} {s' : Shared} (h : SP (X.wish E) pins D f s') : SP X pins D f s' := by
  cases f with
  | next => obtain ⟨σ', H', I, q⟩ := h; exact ⟨σ', H', I.unwish, q⟩
  | brk => obtain ⟨σ', H', I, q⟩ := h; exact ⟨σ', H', I.unwish, q⟩
  | cont => obtain ⟨σ', H', I, q⟩ := h; exact ⟨σ', H', I.unwish, q⟩
  | ret u => obtain ⟨v, σ', H', I, r, q⟩ := h; exact ⟨v, σ', H', I.unwish, r, q⟩
theorem PSs.nox {st : List Stmt} {t : TS} (h : PSs X.nox st t) : PSs X st t := fun pins s σ H D I hw =>
  wpAny_mono (h pins s σ H D (I.wish _) hw) (fun _ _ q => q.unwish) fun _ _ z => False.elim z
end
section
variable {X : Cx} {st : Stmt} {rest : List Stmt} {t u : TS} {e : Expr} {te : TE} {pos : Pos}
def tNext : TS := fun D σ H => D.nx σ H
def tSeq (t u : TS) : TS := fun D σ H => t { D with nx := u D } σ H
theorem pss_nil : PSs X [] tNext := fun _ _ σ H _ I h => wpAny_execs_nil ⟨σ, H, I, h⟩
theorem pss_cons (h1 : PS X st t) (h2 : PSs X rest u) : PSs X (st :: rest) (tSeq t u) := by
  intro pins s σ H D I h
  refine wpAny_execs_cons (thn (h1 pins s σ H { D with nx := u D } I h) fun f s1 q => ?_)
  cases f with
  | next =>
    obtain ⟨σ', H', I', q⟩ := q
    exact h2 pins s1 σ' H' D I' q
  | ret v => exact q
  | brk => exact q
  | cont => exact q
theorem Inv.quiet {pins : List (Addr × Obj)} {σ : St} {H : Hp} {s : Shared} (I : Inv X pins σ H s) : interactive X.env = false := by simp [interactive, I.ok.kind]
def tDrop (te : TE) : TS := fun D σ H => te σ H fun _ H1 => D.nx σ H1
theorem ps_expr (he : PE X e te) (hs : swapsWith e none pos.line X.env = pure false := by rfl) : PS X (.Expr e pos) (tDrop te) := by
  intro pins s σ H D I h
  exact wpAny_Expr_any (thn (he pins s σ H _ I h) fun v s1 ⟨x, H1, I1, r1, q1⟩ => ⟨σ, H1, I1, q1⟩) I.quiet hs
def tRet (te : TE) : TS := fun D σ H => te σ H D.rt
theorem ps_ret (he : PE X e te) : PS X (.Return (some e) pos) (tRet te) := by
  intro pins s σ H D I h
  exact wpAny_Return_some (thn (he pins s σ H _ I h) fun v s1 ⟨x, H1, I1, r1, q1⟩ => ⟨x, σ, H1, I1, r1, q1⟩)
def tIfS (c : TT) (t u : TS) : TS := fun D σ H => c σ H fun b H1 => if b = true then t D σ H1 else u D σ H1
theorem ps_if {c : Expr} {a b : List Stmt} {tc : TT} (hc : PT X c tc) (ha : PSs X a t) (hb : PSs X b u) : PS X (.If c a b pos) (tIfS tc t u) := by
  intro pins s σ H D I h
  refine wpAny_If (thn (hc pins s σ H _ I h) fun d s1 ⟨H1, I1, q1⟩ => ?_)
  cases d with
  | true => exact ha pins s1 σ H1 D I1 q1
  | false => exact hb pins s1 σ H1 D I1 q1
end
abbrev TG := V → St → Hp → (St → Hp → Prop) → Prop
abbrev TGs := List V → St → Hp → (St → Hp → Prop) → Prop
def PG (X : Cx) (target : Expr) (t : TG) : Prop :=
  ∀ (pins : List (Addr × Obj)) (s : Shared) (σ : St) (H : Hp) (v : V) (u : Value) (Q : St → Hp → Prop), Inv X pins σ H s → RelV v u → t v σ H Q →
    wpAny (model X.prog X.w) X.A (assign target X.env u) (fun _ s' => ∃ σ' H', Inv X pins σ' H' s' ∧ Q σ' H') X.xe s
def PGs (X : Cx) (ts : List Expr) (t : TGs) : Prop :=
  ∀ (pins : List (Addr × Obj)) (s : Shared) (σ : St) (H : Hp) (vs : List V) (us : List Value) (Q : St → Hp → Prop), Inv X pins σ H s → Vals vs us → t vs σ H Q →
    wpAny (model X.prog X.w) X.A (assignInOrder ((assignEach ts X.env).map (·.2)) us) (fun _ s' => ∃ σ' H', Inv X pins σ' H' s' ∧ Q σ' H') X.xe s
section
variable {X : Cx} {pos : Pos}
def gName (i : Nat) : TG := fun v σ H Q => Q (σ.set i (some v)) H
theorem pg_name {i : Nat} {x : Str} (hN : X.N.Nodup) (hi : X.N[i]? = some x) (hx : Loc X.env.scope x) (hf : X.fn x = true ∨ X.env.scope.names.lookup x = some .local := by first | exact .inl rfl | exact .inr rfl | assumption) : PG X (.Name x pos) (gName i) := by
  intro pins s σ H v u Q I r h
  exact wpAny_assign_Name (store_ok I hN hi hx r (fun s' I' => ⟨_, H, I', h⟩) hf)
def gNil : TGs := fun vs σ H Q => vs = [] ∧ Q σ H
def gCons (t : TG) (u : TGs) : TGs := fun vs σ H Q => ∃ v r, vs = v :: r ∧ t v σ H fun σ' H' => u r σ' H' Q
theorem pgs_nil : PGs X [] gNil := by
  intro pins s σ H vs us Q I r h
  obtain ⟨e, h⟩ := h
  subst e
  cases r
  exact assignInOrder_nil ⟨σ, H, I, h⟩
theorem pgs_cons {e : Expr} {es : List Expr} {t : TG} {u : TGs} (h1 : PG X e t) (h2 : PGs X es u)
    (hs : (assignEach (e :: es) X.env).map (·.2) = assign e X.env :: (assignEach es X.env).map (·.2) := by rfl) : PGs X (e :: es) (gCons t u) := by
  intro pins s σ H vs us Q I r h
  obtain ⟨v, vr, e1, h⟩ := h
  subst e1
  cases r with
  | cons r rr =>
    rw [hs]
    refine assignInOrder_cons (thn (h1 pins s σ H _ _ _ I r h) fun _ s1 ⟨σ1, H1, I1, q1⟩ => ?_)
    exact h2 pins s1 σ1 H1 _ _ Q I1 rr q1
def gTup (K : PySem.W.Frag) (n : Nat) (t : TGs) : TG := fun v σ H Q => ∃ a xs, v = .ref a ∧ SqT K H a xs ∧ xs.length = n ∧ t xs σ H Q
theorem pg_tup {es : List Expr} {k : Nat} {t : TGs} {n : Nat} (hc : X.calm = true) (h : PGs X es t)
    (hn : (assignEach es X.env).length = n := by rfl) (hst : (assignEach es X.env).findIdx? (·.1) = none := by rfl) : PG X (.Tuple es k pos) (gTup X.K n t) := by
  intro pins s σ H v u Q I r hw
  obtain ⟨a, xs, e1, hq, hl, hw⟩ := hw
  subst e1
  cases r
  obtain ⟨its, rv, ht, hz⟩ := I.tuple hq
  refine assign_Tuple_tuple (I.ok.hd hc) ht (by simp [hn, ← hl, rv.length]) hst fun h' hx => ?_
  have I1 : Inv X pins σ H { s with heap := h' } := I.kept (t' := s.toks) fun b o e => hx b o (Nat.ne_of_lt (Heap.lt_size e)) e
  exact h pins _ σ H xs _ Q I1 (by simpa using rv) hw
def tAsg (te : TE) (g : TG) : TS := fun D σ H => te σ H fun x H1 => g x σ H1 D.nx
theorem ps_asg {tg e : Expr} {te : TE} {g : TG} (he : PE X e te) (hg : PG X tg g) (hs : swapsWithSole [tg] e pos.line X.env = pure false := by rfl) (hw : swappedStores [tg] e X.env = pure none := by rfl)
    (h1 : (assignEach [tg] X.env).map (·.2) = [assign tg X.env] := by rfl) : PS X (.Assign [tg] e pos) (tAsg te g) := by
  intro pins s σ H D I h
  refine wpAny_Assign_stores (thn (he pins s σ H _ I h) fun v s1 ⟨x, H1, I1, r1, q1⟩ => ?_) hs hw
  rw [h1]
  exact thn (hg pins s1 σ H1 x v _ I1 r1 q1) fun _ s2 q => q
theorem ps_set {i : Nat} {x : Str} {e : Expr} {te : TE} {pos' : Pos} (hN : X.N.Nodup) (hi : X.N[i]? = some x) (hx : Loc X.env.scope x) (he : PE X e te) (hs : swapsWith e (some (.Name x pos')) pos.line X.env = pure false := by rfl) (hf : X.fn x = true ∨ X.env.scope.names.lookup x = some .local := by first | exact .inl rfl | exact .inr rfl | assumption) :
    PS X (.Assign [.Name x pos'] e pos) (tAsg te (gName i)) := by
  intro pins s σ H D I h
  refine wpAny_Assign_Name (thn (he pins s σ H _ I h) fun v s1 ⟨y, H1, I1, r1, q1⟩ => ?_) hs
  exact store_ok I1 hN hi hx r1 (fun s2 I2 => ⟨_, H1, I2, q1⟩) hf
def tPar (i j : Nat) (ta : TA) : TS := fun D σ H => ta σ H fun vs H1 => ∃ v w, vs = [v, w] ∧ D.nx ((σ.set i (some v)).set j (some w)) H1
theorem ps_par {i j : Nat} {x y : Str} {a b : Expr} {ta : TA} {px py pt : Pos} {kt k2 pt2} (hc : X.calm = true) (hN : X.N.Nodup) (hi : X.N[i]? = some x) (hj : X.N[j]? = some y) (hij : i ≠ j)
    (hx : X.env.scope.names.lookup x = some .local) (hy : X.env.scope.names.lookup y = some .local) (ha : PA X [a, b] ta)
    (hw : swappedStores [.Tuple [.Name x px, .Name y py] kt pt] (.Tuple [a, b] k2 pt2) X.env = pure (some [x, y]))
    (hs : swapsWithSole [.Tuple [.Name x px, .Name y py] kt pt] (.Tuple [a, b] k2 pt2) pos.line X.env = pure false := by rfl) :
    PS X (.Assign [.Tuple [.Name x px, .Name y py] kt pt] (.Tuple [a, b] k2 pt2) pos) (tPar i j ta) := by
  intro pins s σ H D I h
  rw [exec_Assign_arm]
  refine wpAny_bind (wpAny_standAt ?_)
  rw [hs]
  refine wpAny_bind (wpAny_pure ?_)
  rw [if_neg (by decide)]
  refine wpAny_bind (Tuple_ (thn (ha _ pins s σ H _ I h) fun us s1 ⟨vs, H1, I1, r1, q1⟩ => ?_))
  obtain ⟨v, w, e1, q1⟩ := q1
  subst e1
  obtain ⟨u1, u2, rfl, rv, rw'⟩ : ∃ u1 u2, us = [u1, u2] ∧ RelV v u1 ∧ RelV w u2 := by
    cases r1 with
    | cons p q =>
      cases q with
      | cons p' q' =>
        cases q'
        exact ⟨_, _, rfl, p, p'⟩
  refine wpAny_newObj_type ?_ (by show 2 ≤ sizeLine; decide)
  have I2 : Inv X pins σ H1 { s1 with heap := s1.heap.push { cls := .type "tuple", data := .seq [u1, u2].toArray } } := I1.kept (t' := s1.toks) fun b o e => Heap.get?_push_of_some _ e
  rw [hw]
  refine wpAny_bind (wpAny_pure ?_)
  show wpAny (model X.prog X.w) X.A (do rule "assign.swapped-stores"; let items ← unpackItems (.ref s1.heap.objs.size) 2 none; assignInOrder [fun v => bindName X.env y v, fun v => bindName X.env x v] items.reverse; pure Flow.next) _ _ _
  refine wpAny_bind (wpAny_rule (wpAny_bind (unpackItems_tuple (items := #[u1, u2]) (I.ok.hd hc) (IsTup.new s1.heap _) fun h' hx' => ?_)))
  have I3 := I2.kept (h' := h') (t' := s1.toks) fun b o e => hx' b o (Nat.ne_of_lt (Heap.lt_size e)) e
  show wpAny _ _ (assignInOrder [fun v => bindName X.env y v, fun v => bindName X.env x v] [u2, u1] >>= fun _ => pure Flow.next) _ _ _
  refine wpAny_bind (assignInOrder_cons (wpAny_bindName (store_ok I3 hN hj (.inl hy) rw' (fun s2 I4 => ?_) (.inr hy))))
  refine assignInOrder_cons (wpAny_bindName (store_ok I4 hN hi (.inl hx) rv (fun s3 I5 => assignInOrder_nil (wpAny_pure ?_)) (.inr hx)))
  rw [List.set_comm _ _ (Ne.symm hij)] at I5
  exact ⟨_, H1, I5, q1⟩
end
section
variable {X : Cx} {pos : Pos}
def tWhile (c : TT) (tb : TS) : TS := fun D σ H => ∃ W : Nat → St → Hp → Prop, (∃ m, W m σ H) ∧ ∀ m σ H, W m σ H →
  c σ H fun b H1 => if b = true then ∃ N : St → Hp → Prop, (∀ σ' H', N σ' H' → ∃ m', m' < m ∧ W m' σ' H') ∧ tb { D with nx := N, ct := N, bk := D.nx } σ H1 else D.nx σ H1
theorem ps_while {c : Expr} {body : List Stmt} {tc : TT} {tb : TS} (hp : PassesOwn (model X.prog X.w) X.A X.env X.xe) (hc : PT X c tc) (hb : PSs X body tb) : PS X (.While c body [] pos) (tWhile tc tb) := by
  intro pins s σ H D I h
  obtain ⟨W, ⟨m0, w0⟩, turn⟩ := h
  refine wpAny_While (codeAny_whileLoop (fun n s' => ∃ σ' H', Inv X pins σ' H' s' ∧ W n σ' H') ?_ m0 ⟨σ, H, I, w0⟩)
  rintro n s1 ⟨σ1, H1, I1, w1⟩
  refine wpAny_passesOwn hp (thn (hc pins s1 σ1 H1 _ I1 (turn n σ1 H1 w1)) fun b s2 ⟨H2, I2, q2⟩ => ?_)
  cases b with
  | true =>
    obtain ⟨N, hN, q2⟩ := q2
    rw [if_pos rfl]
    refine wpAny_passesOwn hp (thn (hb pins s2 σ1 H2 _ I2 q2) fun f s3 q3 => ?_)
    cases f with
    | next =>
      obtain ⟨σ3, H3, I3, n3⟩ := q3
      obtain ⟨m', hm, w3⟩ := hN σ3 H3 n3
      exact ⟨m', hm, σ3, H3, I3, w3⟩
    | cont =>
      obtain ⟨σ3, H3, I3, n3⟩ := q3
      obtain ⟨m', hm, w3⟩ := hN σ3 H3 n3
      exact ⟨m', hm, σ3, H3, I3, w3⟩
    | brk => exact q3
    | ret v => exact q3
  | false =>
    rw [if_neg Bool.false_ne_true]
    exact wpAny_execs_nil ⟨σ1, H2, I2, q2⟩
end
structure It where
  go : Nat → Hp → Prop
  yld : Nat → Hp → V → Hp → Prop
  stop : Nat → Hp → Prop
def FpOk (X : Cx) (pins : List (Addr × Obj)) (H : Hp) (b : Addr) : Prop :=
  H b = none ∧ b ≠ X.env.locals ∧ b ∉ X.fs ∧ (b ∈ X.ex ∨ X.s₀.heap.objs.size ≤ b) ∧ (∀ x c, X.env.cells.lookup x = some c → c ≠ b) ∧ ∀ p ∈ X.pn ++ pins, p.1 ≠ b
theorem Inv.fpOk {X : Cx} {pins : List (Addr × Obj)} {σ : St} {H H' : Hp} {s : Shared} {b : Addr} (I : Inv X pins σ H s) (hb : s.heap.objs.size ≤ b) (hn : H' b = none) : FpOk X pins H' b := by
  refine ⟨hn, Nat.ne_of_gt (Nat.lt_of_lt_of_le I.lt hb), I.nofs hb, .inr (Nat.le_trans I.sz hb), fun x c e z => ?_, fun p hp z => ?_⟩
  · obtain ⟨v, q⟩ := I.cell x c e
    exact absurd (Nat.lt_of_lt_of_le q.lt (by rw [z]; exact hb)) (Nat.lt_irrefl _)
  · exact absurd (Nat.lt_of_lt_of_le (Heap.lt_size (I.pin p hp).1) (by rw [z]; exact hb)) (Nat.lt_irrefl _)
structure Turn (P : Program) (w : World) (K : PySem.W.Frag) (tg : Expr) (J : It) (fp : List Addr) (it : Addr) (tn : Nat → Heap → Prop) : Prop where
  mem : it ∈ fp
  obj : ∀ i h, tn i h → ∀ b ∈ fp, ∃ o, h.get? b = some o ∧ ∀ v, o.data ≠ .cell v
  keep : ∀ i h h', tn i h → (∀ b ∈ fp, ∀ o, h.get? b = some o → h'.get? b = some o) → tn i h'
  item : ∀ (X : Cx), X.prog = P → X.w = w → X.K = K → X.calm = true → ∀ (i : Nat) (pins : List (Addr × Obj)) (s : Shared) (σ : St) (H : Hp) (E : Value → Shared → Prop), Inv X pins σ H s → (∀ b ∈ fp, FpOk X pins H b) → tn i s.heap → J.go i H →
    wpAny (model P w) X.A (pyNext (.ref it)) (fun r s1 => ∃ u, r = some u ∧
      wpAny (model P w) X.A (letOwnedTupleGo tg (.ref it) u) (fun _ s2 => ∃ x H', Inv X pins σ H' s2 ∧ RelV x u ∧ J.yld i H x H' ∧ tn (i + 1) s2.heap ∧ ∀ b ∈ fp, H' b = none) E s1) E s
  done : ∀ (X : Cx), X.prog = P → X.w = w → X.K = K → X.calm = true → ∀ (i : Nat) (pins : List (Addr × Obj)) (s : Shared) (σ : St) (H : Hp) (E : Value → Shared → Prop), Inv X pins σ H s → (∀ b ∈ fp, FpOk X pins H b) → tn i s.heap → J.stop i H →
    wpAny (model P w) X.A (pyNext (.ref it)) (fun r s1 => r = none ∧ Inv X pins σ H s1) E s
  self : ∀ (A : Around) (i : Nat) (s : Shared) (Q : Value → Shared → Prop) (E : Value → Shared → Prop), tn i s.heap → Q (.ref it) s → wpAny (model P w) A (pyIter (.ref it)) Q E s
abbrev TI := St → Hp → (It → Hp → Prop) → Prop
def PIE (X : Cx) (pins : List (Addr × Obj)) (σ : St) (tg : Expr) (R : It → Hp → Prop) (itv : Value) (s2 : Shared) : Prop :=
  ∃ (it : Addr) (fp : List Addr) (tn : Nat → Heap → Prop) (J : It) (H' : Hp), itv = .ref it ∧ Inv X pins σ H' s2 ∧ Turn X.prog X.w X.K tg J fp it tn ∧ tn 0 s2.heap ∧ (∀ b ∈ fp, FpOk X pins H' b) ∧ R J H'
def PI (X : Cx) (tg iter : Expr) (wi : TI) : Prop :=
  ∀ (pins : List (Addr × Obj)) (s : Shared) (σ : St) (H : Hp) (R : It → Hp → Prop), Inv X pins σ H s → wi σ H R →
    wpAny (model X.prog X.w) X.A (eval iter X.env) (fun v s1 => wpAny (model X.prog X.w) X.A (pyIter v) (PIE X pins σ tg R) X.xe s1) X.xe s
theorem go_of {M : Model} {A : Around} {E : Value → Shared → Prop} {s : Shared} {tg : Expr} {it : Addr} {u : Value} {o : Obj} {n : String} {vs : Array Value} {Q : Unit → Shared → Prop} (ho : s.heap.get? it = some o) (hc : o.cls = .type n) (hd : o.data = .fields vs)
    (hn : ["enumerate", "zip", "dict_itemiterator", "dict_reverseitemiterator", "odict_iterator", "itertools.zip_longest", "itertools.pairwise"].contains n = false) (hQ : Q () s) : wpAny M A (letOwnedTupleGo tg (.ref it) u) Q E s := by
  unfold letOwnedTupleGo
  cases tg <;> first
    | exact wpAny_pure hQ
    | (cases u <;> first
        | exact wpAny_pure hQ
        | (refine wpAny_bind (wpAny_load ho ?_)
           rw [hc, hd]
           show wpAny M A (if (["enumerate", "zip", "dict_itemiterator", "dict_reverseitemiterator", "odict_iterator", "itertools.zip_longest", "itertools.pairwise"].contains n && vs[0]? == some (rawInt _)) = true then _ else _) Q E s
           rw [if_neg (by intro h; rw [hn, Bool.false_and] at h; cases h)]
           exact wpAny_pure hQ))
def Itl (K : PySem.W.Frag) (a : Addr) : It :=
  ⟨fun i H => ∃ xs x, SqL K H a xs ∧ xs[i]? = some x, fun i H x H' => H' = H ∧ ∀ xs, SqL K H a xs → xs[i]? = some x, fun i H => ∃ xs, SqL K H a xs ∧ xs.length ≤ i⟩
def Itr (lo : Int) (n : Nat) : It := ⟨fun i _ => i < n, fun i H x H' => H' = H ∧ x = .int (lo + i), fun i _ => n ≤ i⟩
theorem turn_list {P : Program} {w : World} {K : PySem.W.Frag} {tg : Expr} (a it : Addr) : Turn P w K tg (Itl K a) [it] it (fun i h => h.IsListIter it a i) where
  mem := by simp
  obj := fun i h st b hb => by
    have e : b = it := by simpa using hb
    subst e
    obtain ⟨o, e, c, d⟩ := st
    exact ⟨o, e, fun v z => by rw [d] at z; cases z⟩
  keep := fun i h h' st k => st.at fun o e => k it (by simp) o e
  item := by
    intro X hP hw hK hc i pins s σ H E I hf st hg
    subst hP hw hK
    obtain ⟨xs, x, hq, hx⟩ := hg
    obtain ⟨its, rv, p, hz⟩ := I.list hq
    obtain ⟨u, hu, ru⟩ := rv.get hx
    obtain ⟨f0, f1, f2, f3, f4, f5⟩ := hf it (by simp)
    refine wpAny_pyNext_list_item st p.isList (x := u) (by simpa using hu) fun h' st' sb => ?_
    have I1 : Inv X pins σ H { s with heap := h' } := I.turned (t' := s.toks) (fun b o hb e => (sb.2 b hb).trans e) f0 f1 f3 f4 f5
    obtain ⟨o, e, c, d⟩ := id st'
    exact ⟨u, rfl, go_of (s := { s with heap := h' }) e c d (by decide) ⟨x, H, I1, ru, ⟨rfl, fun ys hy => by rw [I.list_inj hy hq]; exact hx⟩, st', fun b hb => (hf b hb).1⟩⟩
  done := by
    intro X hP hw hK hc i pins s σ H E I hf st hg
    subst hP hw hK
    obtain ⟨xs, hq, hx⟩ := hg
    obtain ⟨its, rv, p, hz⟩ := I.list hq
    obtain ⟨f0, f1, f2, f3, f4, f5⟩ := hf it (by simp)
    have hl := rv.length
    exact wpAny_pyNext_list_end (I.ok.hd hc) st p.isList (by simp; omega) fun h' eb => ⟨rfl, I.turned (t' := s.toks) (fun b o hb e => eb b o hb e) f0 f1 f3 f4 f5⟩
  self := fun _ _ _ _ _ st h => wpAny_pyIter_listiter st h
theorem turn_range {P : Program} {w : World} {K : PySem.W.Frag} {tg : Expr} (it : Addr) (lo : Int) (n : Nat) : Turn P w K tg (Itr lo n) [it] it (fun i h => IsRangeIter h it (lo + (i : Nat) * 1) ((n : Int) - (i : Nat)) 1) where
  mem := by simp
  obj := fun i h st b hb => by
    have e : b = it := by simpa using hb
    subst e
    exact ⟨_, st, fun v z => by
      have z' : Data.fields _ = Data.cell v := z
      cases z'⟩
  keep := fun i h h' st k => k it (by simp) _ st
  item := by
    intro X hP hw hK hc i pins s σ H E I hf st hg
    subst hP hw hK
    obtain ⟨f0, f1, f2, f3, f4, f5⟩ := hf it (by simp)
    have W := Walks.range (prog := X.prog) (w := X.w) (I.ok.hd hc) it lo 1 n
    refine W.item i s _ _ hg st fun v h' tk hv st' kk => ?_
    obtain ⟨t, rfl⟩ := hv
    have I1 : Inv X pins σ H { s with heap := h', toks := tk } := I.turned (fun b o hb e => kk b o (by simpa using hb) e) f0 f1 f3 f4 f5
    refine ⟨_, rfl, go_of (s := { s with heap := h', toks := tk }) (n := "range_iterator") st' rfl rfl (by decide) ⟨.int (lo + i), H, I1, ⟨t, ?_⟩, ⟨rfl, rfl⟩, st', fun b hb => (hf b hb).1⟩⟩
    rw [Int.mul_one]
  done := by
    intro X hP hw hK hc i pins s σ H E I hf st hg
    subst hP hw hK
    obtain ⟨f0, f1, f2, f3, f4, f5⟩ := hf it (by simp)
    exact wpAny_pyNext_range_end (I.ok.hd hc) st (by have : n ≤ i := hg; omega) fun h' eb => ⟨rfl, I.turned (t' := s.toks) (fun b o hb e => eb b o hb e) f0 f1 f3 f4 f5⟩
  self := fun _ _ _ _ _ st h => wpAny_pyIter_rangeiter st h
end L2
namespace L2
open PySem PySem.Spec PyProof.Rows
section
variable {X : Cx} {tg : Expr}
def iList (K : PySem.W.Frag) (tl : TE) : TI := fun σ H R => tl σ H fun x H1 => ∃ a, x = .ref a ∧ (∃ xs, SqL K H1 a xs) ∧ R (Itl K a) H1
theorem pi_list {l : Expr} {tl : TE} (hl : PE X l tl) : PI X tg l (iList X.K tl) := by
  intro pins s σ H R I h
  refine thn (hl pins s σ H _ I h) fun v s1 ⟨x, H1, I1, r1, q1⟩ => ?_
  obtain ⟨a, e, ⟨xs, hq⟩, q⟩ := q1
  subst e
  cases r1
  obtain ⟨its, rv, p, hz⟩ := I1.list hq
  refine wpAny_pyIter_list p.isList ?_
  refine ⟨s1.heap.objs.size, [s1.heap.objs.size], _, _, H1, rfl, I1.kept (t' := s1.toks) fun b o e => Heap.get?_push_of_some _ e, turn_list a _, ⟨_, Heap.get?_push_size _ rfl, rfl, rfl⟩, fun b hb => ?_, q⟩
  have e : b = s1.heap.objs.size := by simpa using hb
  subst e
  exact I1.fpOk (Nat.le_refl _) (I1.hok.fresh (Nat.le_refl _))
theorem range_it {pins : List (Addr × Obj)} {σ : St} {H : Hp} {s : Shared} {R : It → Hp → Prop} {E : Value → Shared → Prop} {lo hi : Int} {t u v : Tok} {tk : Nat} (I : Inv X pins σ H s) (h1 : -(2 ^ 62) ≤ lo) (h2 : lo < 2 ^ 62) (h3 : -(2 ^ 62) ≤ hi) (h4 : hi < 2 ^ 62)
    (q : R (Itr lo (hi - lo).toNat) H) : wpAny (model X.prog X.w) X.A (pyIter (.ref s.heap.objs.size)) (PIE X pins σ tg R) E { s with heap := s.heap.push { cls := .type "range", data := .fields #[.int lo t, .int hi u, .int 1 v] }, toks := tk } := by
  refine wpAny_pyIter_range (IsRange.new ..) (small_one h1 h2 h3 h4) ?_
  have I1 : Inv X pins σ H { s with heap := s.heap.push { cls := .type "range", data := .fields #[.int lo t, .int hi u, .int 1 v] }, toks := tk } := I.kept fun b o e => Heap.get?_push_of_some _ e
  refine ⟨(s.heap.push { cls := .type "range", data := .fields #[.int lo t, .int hi u, .int 1 v] }).objs.size, [(s.heap.push { cls := .type "range", data := .fields #[.int lo t, .int hi u, .int 1 v] }).objs.size], _, _, H, rfl,
    I1.kept (t' := tk) fun b o e => Heap.get?_push_of_some _ e, turn_range _ lo (hi - lo).toNat, ?_, fun b hb => ?_, q⟩
  · have e1 : lo + ((0 : Nat) : Int) * 1 = lo := by simp
    have e2 : (((hi - lo).toNat : Nat) : Int) - ((0 : Nat) : Int) = Builtin.Range.rangeSize lo hi 1 := by rw [rangeSize_one]; split <;> omega
    show IsRangeIter _ _ (lo + ((0 : Nat) : Int) * 1) ((((hi - lo).toNat : Nat) : Int) - ((0 : Nat) : Int)) 1
    rw [e1, e2]
    exact Heap.get?_push_size _ rfl
  · have e : b = (s.heap.push { cls := .type "range", data := .fields #[.int lo t, .int hi u, .int 1 v] }).objs.size := by simpa using hb
    subst e
    exact I1.fpOk (Nat.le_refl _) (I1.hok.fresh (Nat.le_refl _))
def iRng1 (ta : TA) : TI := fun σ H R => ta σ H fun vs H1 => ∃ j : Int, vs = [.int j] ∧ -(2 ^ 62) ≤ j ∧ j < 2 ^ 62 ∧ R (Itr 0 j.toNat) H1
theorem pi_range1 {a : Expr} {ta : TA} {p pos : Pos} (hg : Gl X "range") (hm : X.mg "range" = none) (ha : PA X [a] ta) (hs : starEach [a] X.env = [(false, eval a X.env)] := by rfl) : PI X tg (.Call (.Name "range" p) [a] [] pos) (iRng1 ta) := by
  intro pins s σ H R I h
  refine Call_ (ld_blt I hg hm boot_range (PyProof.Rows.callWith_type1 (thn (ha pos pins s σ H _ I h) fun us s1 ⟨vs, H1, I1, r1, q1⟩ => ?_) hs rfl))
  obtain ⟨j, e, q1, q2, q⟩ := q1
  subst e
  cases r1 with
  | cons r rr =>
    cases rr
    obtain ⟨t, rfl⟩ := r
    exact call_range_1 (range_it I1 (by omega) (by omega) q1 q2 (by simpa using q))
def tFor (wi : TI) (g : TG) (tb : TS) : TS := fun D σ H => wi σ H fun J H1 => ∃ W : Nat → Nat → St → Hp → Prop, (∃ m, W 0 m σ H1) ∧ ∀ i m σ H, W i m σ H →
  (J.stop i H ∧ D.nx σ H) ∨ (J.go i H ∧ ∃ N : St → Hp → Prop, (∀ σ' H', N σ' H' → ∃ m', m' < m ∧ W (i + 1) m' σ' H') ∧ ∀ x H', J.yld i H x H' → g x σ H' fun σ2 H2 => tb { D with nx := N, ct := N, bk := D.nx } σ2 H2)
def pinsAt (fp : List Addr) (h : Heap) : List (Addr × Obj) := fp.filterMap fun b => (h.get? b).map fun o => (b, o)
theorem mem_pinsAt {fp : List Addr} {h : Heap} {b : Addr} {o : Obj} (hb : b ∈ fp) (e : h.get? b = some o) : (b, o) ∈ pinsAt fp h := List.mem_filterMap.mpr ⟨b, hb, by rw [e]; rfl⟩
theorem of_pinsAt {fp : List Addr} {h : Heap} {p : Addr × Obj} (hp : p ∈ pinsAt fp h) : p.1 ∈ fp ∧ h.get? p.1 = some p.2 := by
  obtain ⟨b, hb, e⟩ := List.mem_filterMap.mp hp
  cases q : h.get? b with
  | none => rw [q] at e; cases e
  | some o =>
    rw [q] at e
    have e' : (b, o) = p := Option.some.inj e
    subst e'
    exact ⟨hb, q⟩
theorem Inv.pinned {pins : List (Addr × Obj)} {σ : St} {H : Hp} {s : Shared} {fp : List Addr} (I : Inv X pins σ H s) (hf : ∀ b ∈ fp, FpOk X pins H b) (ho : ∀ b ∈ fp, ∃ o, s.heap.get? b = some o ∧ ∀ v, o.data ≠ .cell v) : Inv X (pins ++ pinsAt fp s.heap) σ H s :=
  I.pins_of fun p hp => (List.mem_append.mp hp).elim (fun z => I.pin p (List.mem_append_right _ z)) fun z => by
    obtain ⟨hb, e⟩ := of_pinsAt z
    obtain ⟨f0, f1, f2, _⟩ := hf p.1 hb
    obtain ⟨o, e', d⟩ := ho p.1 hb
    rw [e] at e'; cases e'
    exact ⟨e, f0, f1, f2, d⟩
theorem Inv.unpinned {pins pl : List (Addr × Obj)} {σ : St} {H : Hp} {s : Shared} (I : Inv X (pins ++ pl) σ H s) : Inv X pins σ H s := I.pins_of fun p hp => I.pin p (List.mem_append_right _ (List.mem_append_left _ hp))
theorem ps_for {iter : Expr} {body : List Stmt} {wi : TI} {g : TG} {tb : TS} {pos : Pos} (hp : PassesOwn (model X.prog X.w) X.A X.env X.xe) (hc : X.calm = true) (hi : PI X tg iter wi) (hg : PG X tg g) (hb : PSs X body tb)
    (hs : ∀ x, foldedSetIterable iter X.env x = pure x := by intro _; rfl) : PS X (.For tg iter body [] pos) (tFor wi g tb) := by
  intro pins s σ H D I h
  refine wpAny_For (thn (hi pins s σ H _ I h) fun v s1 h1 => thn h1 fun itv s2 h2 => ?_) hs
  obtain ⟨it, fp, tn, J, H2, e, I2, T, st2, f2, W, ⟨m0, w0⟩, turn⟩ := h2
  subst e
  -- what stays true of the iterator's objects through the loop
  have stat : ∀ {H' : Hp}, (∀ b ∈ fp, H' b = none) → ∀ b ∈ fp, FpOk X pins H' b := fun hn b hb => ⟨hn b hb, (f2 b hb).2⟩
  refine codeAny_forLoop_any (fun n s' => ∃ i σ' H', Inv X pins σ' H' s' ∧ tn i s'.heap ∧ (∀ b ∈ fp, H' b = none) ∧ W i n σ' H') ?_ m0 ⟨0, σ, H2, I2, st2, fun b hb => (f2 b hb).1, w0⟩
  rintro n s3 ⟨i, σ3, H3, I3, st3, fr3, w3⟩
  rcases turn i n σ3 H3 w3 with ⟨stop, qn⟩ | ⟨go, N, hN, step⟩
  · refine wpAny_passesOwn hp (thn (T.done X rfl rfl rfl hc i pins s3 σ3 H3 X.xe I3 (stat fr3) st3 stop) fun r s4 ⟨hr, I4⟩ => ?_)
    subst hr
    exact wpAny_execs_nil ⟨σ3, H3, I4, qn⟩
  · refine wpAny_passesOwn hp (thn (T.item X rfl rfl rfl hc i pins s3 σ3 H3 X.xe I3 (stat fr3) st3 go) fun r s4 ⟨u, hr, h4⟩ => ?_)
    subst hr
    refine wpAny_passesOwn hp (thn h4 fun _ s5 ⟨x, H5, I5, r5, y5, st5, fr5⟩ => ?_)
    have I5' := I5.pinned (stat fr5) (T.obj _ _ st5)
    refine wpAny_passesOwn hp (thn (hg _ s5 σ3 H5 x u _ I5' r5 (step x H5 y5)) fun _ s6 ⟨σ6, H6, I6, q6⟩ => ?_)
    refine wpAny_passesOwn hp (thn (hb _ s6 σ6 H6 _ I6 q6) fun f s7 q7 => ?_)
    have again : ∀ {σ7 : St} {H7 : Hp}, Inv X (pins ++ pinsAt fp s5.heap) σ7 H7 s7 → N σ7 H7 → ∃ m, m < n ∧ ∃ i σ' H', Inv X pins σ' H' s7 ∧ tn i s7.heap ∧ (∀ b ∈ fp, H' b = none) ∧ W i m σ' H' := fun {σ7 H7} I7 n7 => by
      obtain ⟨m', hm, w7⟩ := hN σ7 H7 n7
      refine ⟨m', hm, i + 1, σ7, H7, I7.unpinned, T.keep _ _ _ st5 fun b hb o e => (I7.pin (b, o) (List.mem_append_right _ (List.mem_append_right _ (mem_pinsAt hb e)))).1, fun b hb => ?_, w7⟩
      obtain ⟨o, e, d⟩ := T.obj _ _ st5 b hb
      exact (I7.pin (b, o) (List.mem_append_right _ (List.mem_append_right _ (mem_pinsAt hb e)))).2.1
    cases f with
    | next => obtain ⟨σ7, H7, I7, n7⟩ := q7; exact again I7 n7
    | cont => obtain ⟨σ7, H7, I7, n7⟩ := q7; exact again I7 n7
    | brk => obtain ⟨σ7, H7, I7, q7⟩ := q7; exact ⟨σ7, H7, I7.unpinned, q7⟩
    | ret v => obtain ⟨x7, σ7, H7, I7, r7, q7⟩ := q7; exact ⟨x7, σ7, H7, I7.unpinned, r7, q7⟩
end
theorem for_list {K : PySem.W.Frag} {a : Addr} {xs : List V} {g : TG} {tb : TS} {D : Ends} {σ : St} {H : Hp} (Pv : Nat → St → Hp → Prop) (h0 : Pv 0 σ H) (hl : ∀ i σ H, i ≤ xs.length → Pv i σ H → SqL K H a xs)
    (hs : ∀ i x σ H, xs[i]? = some x → Pv i σ H → g x σ H fun σ2 H2 => tb { D with nx := Pv (i + 1), ct := Pv (i + 1), bk := D.nx } σ2 H2) (hd : ∀ σ H, Pv xs.length σ H → D.nx σ H) :
    ∃ W : Nat → Nat → St → Hp → Prop, (∃ m, W 0 m σ H) ∧ ∀ i m σ H, W i m σ H →
      ((Itl K a).stop i H ∧ D.nx σ H) ∨ ((Itl K a).go i H ∧ ∃ N : St → Hp → Prop, (∀ σ' H', N σ' H' → ∃ m', m' < m ∧ W (i + 1) m' σ' H') ∧ ∀ x H', (Itl K a).yld i H x H' → g x σ H' fun σ2 H2 => tb { D with nx := N, ct := N, bk := D.nx } σ2 H2) := by
  refine ⟨fun i m σ H => m = xs.length - i ∧ i ≤ xs.length ∧ Pv i σ H, ⟨xs.length, by simp, Nat.zero_le _, h0⟩, ?_⟩
  rintro i m σ H ⟨rfl, hi, p⟩
  have q := hl i σ H hi p
  by_cases hlt : i < xs.length
  · refine .inr ⟨⟨xs, xs[i], q, by simp [hlt]⟩, Pv (i + 1), fun σ' H' p' => ⟨xs.length - (i + 1), by omega, rfl, hlt, p'⟩, fun x H' y => ?_⟩
    obtain ⟨e, y⟩ := y
    subst e
    exact hs i x σ _ (y xs q) p
  · have e : i = xs.length := by omega
    subst e
    exact .inl ⟨⟨xs, q, Nat.le_refl _⟩, hd σ H p⟩
theorem for_range {lo : Int} {n : Nat} {g : TG} {tb : TS} {D : Ends} {σ : St} {H : Hp} (Pv : Nat → St → Hp → Prop) (h0 : Pv 0 σ H)
    (hs : ∀ i σ H, i < n → Pv i σ H → g (.int (lo + i)) σ H fun σ2 H2 => tb { D with nx := Pv (i + 1), ct := Pv (i + 1), bk := D.nx } σ2 H2) (hd : ∀ σ H, Pv n σ H → D.nx σ H) :
    ∃ W : Nat → Nat → St → Hp → Prop, (∃ m, W 0 m σ H) ∧ ∀ i m σ H, W i m σ H →
      ((Itr lo n).stop i H ∧ D.nx σ H) ∨ ((Itr lo n).go i H ∧ ∃ N : St → Hp → Prop, (∀ σ' H', N σ' H' → ∃ m', m' < m ∧ W (i + 1) m' σ' H') ∧ ∀ x H', (Itr lo n).yld i H x H' → g x σ H' fun σ2 H2 => tb { D with nx := N, ct := N, bk := D.nx } σ2 H2) := by
  refine ⟨fun i m σ H => m = n - i ∧ i ≤ n ∧ Pv i σ H, ⟨n, by simp, Nat.zero_le _, h0⟩, ?_⟩
  rintro i m σ H ⟨rfl, hi, p⟩
  by_cases hlt : i < n
  · refine .inr ⟨hlt, Pv (i + 1), fun σ' H' p' => ⟨n - (i + 1), by omega, rfl, hlt, p'⟩, fun x H' y => ?_⟩
    obtain ⟨e, y⟩ := y
    subst e y
    exact hs i σ _ hlt p
  · have e : i = n := by omega
    subst e
    exact .inl ⟨Nat.le_refl _, hd σ H p⟩
end L2
namespace L2
open PySem PySem.Spec PyProof.Rows
abbrev R2 := V → V → Hp → VK → Prop
def OpR (X : Cx) (f : Value → Value → Sem Value) (r : R2) : Prop :=
  ∀ (pins : List (Addr × Obj)) (s : Shared) (σ : St) (H : Hp) (x y : V) (v u : Value) (Q : VK), Inv X pins σ H s → RelV x v → RelV y u → r x y H Q →
    wpAny (model X.prog X.w) X.A (f v u) (EP X pins σ Q) X.xe s
def UnR (X : Cx) (f : Value → Sem Value) (r : V → Hp → VK → Prop) : Prop :=
  ∀ (pins : List (Addr × Obj)) (s : Shared) (σ : St) (H : Hp) (x : V) (v : Value) (Q : VK), Inv X pins σ H s → RelV x v → r x H Q →
    wpAny (model X.prog X.w) X.A (f v) (EP X pins σ Q) X.xe s
def CallR (X : Cx) (f : Value) (r : List V → Hp → VK → Prop) : Prop :=
  ∀ (pins : List (Addr × Obj)) (s : Shared) (σ : St) (H : Hp) (xs : List V) (us : List Value) (Q : VK), Inv X pins σ H s → Vals xs us → r xs H Q →
    wpAny (model X.prog X.w) X.A (call f us) (EP X pins σ Q) X.xe s
def tOp (r : R2) (ta tb : TE) : TE := fun σ H Q => ta σ H fun x H1 => tb σ H1 fun y H2 => r x y H2 Q
def tUn (r : V → Hp → VK → Prop) (ta : TE) : TE := fun σ H Q => ta σ H fun x H1 => r x H1 Q
def rI (C : Int → Int → Prop) (g : Int → Int → V) : R2 := fun x y H Q => ∃ i j, x = .int i ∧ y = .int j ∧ C i j ∧ Q (g i j) H
def rI0 (g : Int → Int → V) : R2 := fun x y H Q => ∃ i j, x = .int i ∧ y = .int j ∧ Q (g i j) H
def rU (g : Int → V) : V → Hp → VK → Prop := fun x H Q => ∃ i, x = .int i ∧ Q (g i) H
section
variable {X : Cx} {a b c : Expr} {ta tb tc : TE} {pos : Pos}
theorem binT (ha : PE X a ta) (hb : PE X b tb) {pins : List (Addr × Obj)} {s : Shared} {σ : St} {H : Hp} {R : V → V → Hp → Prop} (I : Inv X pins σ H s)
    (h : ta σ H fun x H1 => tb σ H1 fun y H2 => R x y H2) {Q : Value → Shared → Prop} {f : Value → Value → Sem Value}
    (hf : ∀ v u s2 x y H2, Inv X pins σ H2 s2 → RelV x v → RelV y u → R x y H2 → wpAny (model X.prog X.w) X.A (f v u) Q X.xe s2) :
    wpAny (model X.prog X.w) X.A (eval a X.env) (fun v s₁ => wpAny (model X.prog X.w) X.A (eval b X.env) (fun u s₂ => wpAny (model X.prog X.w) X.A (f v u) Q X.xe s₂) X.xe s₁) X.xe s := by
  refine thn (ha pins s σ H _ I h) fun v s1 ⟨x, H1, I1, r1, q1⟩ => ?_
  refine thn (hb pins s1 σ H1 _ I1 q1) fun u s2 ⟨y, H2, I2, r2, q2⟩ => ?_
  exact hf v u s2 x y H2 I2 r1 r2 q2
theorem pe_op {op : Operator} {r : R2} (ho : OpR X (binaryOp op) r) (ha : PE X a ta) (hb : PE X b tb) : PE X (.BinOp a op b pos) (tOp r ta tb) := by
  intro pins s σ H Q I h
  exact wpAny_BinOp (binT ha hb I h fun v u s2 x y H2 I2 rx ry q => ho pins s2 σ H2 x y v u Q I2 rx ry q)
theorem pe_un {op : UnaryOp} {r : V → Hp → VK → Prop} (ho : UnR X (unaryOp op) r) (ha : PE X a ta) : PE X (.UnaryOp op a pos) (tUn r ta) := by
  intro pins s σ H Q I h
  exact UnaryOp_ (thn (ha pins s σ H _ I h) fun v s1 ⟨x, H1, I1, r1, q1⟩ => ho pins s1 σ H1 x v Q I1 r1 q1)
theorem opI {f : Value → Value → Sem Value} {C : Int → Int → Prop} {g : Int → Int → Int}
    (rule : ∀ (i j : Int) (t u : Tok) (s : Shared) (Q : Value → Shared → Prop) (E : Value → Shared → Prop), C i j → Q (.int (g i j) s.toks) { s with toks := s.toks + 1 } → wpAny (model X.prog X.w) X.A (f (.int i t) (.int j u)) Q E s) :
    OpR X f (rI C fun i j => .int (g i j)) := by
  intro pins s σ H x y v u Q I rx ry h
  obtain ⟨i, j, rfl, rfl, hc, q⟩ := h
  obtain ⟨t, rfl⟩ := rx
  obtain ⟨t', rfl⟩ := ry
  exact rule i j t t' s _ _ hc ⟨.int (g i j), H, I.tok _, ⟨_, rfl⟩, q⟩
theorem opI0 {f : Value → Value → Sem Value} {g : Int → Int → Int}
    (rule : ∀ (i j : Int) (t u : Tok) (s : Shared) (Q : Value → Shared → Prop) (E : Value → Shared → Prop), Q (.int (g i j) s.toks) { s with toks := s.toks + 1 } → wpAny (model X.prog X.w) X.A (f (.int i t) (.int j u)) Q E s) :
    OpR X f (rI0 fun i j => .int (g i j)) := by
  intro pins s σ H x y v u Q I rx ry h
  obtain ⟨i, j, rfl, rfl, q⟩ := h
  obtain ⟨t, rfl⟩ := rx
  obtain ⟨t', rfl⟩ := ry
  exact rule i j t t' s _ _ ⟨.int (g i j), H, I.tok _, ⟨_, rfl⟩, q⟩
theorem opB0 {f : Value → Value → Sem Value} {g : Int → Int → Bool}
    (rule : ∀ (i j : Int) (t u : Tok) (s : Shared) (Q : Value → Shared → Prop) (E : Value → Shared → Prop), Q (.bool (g i j)) s → wpAny (model X.prog X.w) X.A (f (.int i t) (.int j u)) Q E s) :
    OpR X f (rI0 fun i j => .bl (g i j)) := by
  intro pins s σ H x y v u Q I rx ry h
  obtain ⟨i, j, rfl, rfl, q⟩ := h
  obtain ⟨t, rfl⟩ := rx
  obtain ⟨t', rfl⟩ := ry
  exact rule i j t t' s _ _ ⟨.bl (g i j), H, I, rfl, q⟩
def CDiv (i j : Int) : Prop := 0 < j ∧ j < 1073741824
def CMul (i j : Int) : Prop := (-(2 ^ 64) < i ∧ i < 2 ^ 64) ∨ (-(2 ^ 64) < j ∧ j < 2 ^ 64)
theorem CMul.ok {i j : Int} (h : CMul i j) : IntMulOk i j := by
  rcases h with ⟨h1, h2⟩ | ⟨h1, h2⟩
  · exact .of_left (intBits_le_64 h1 h2)
  · exact .of_right (intBits_le_64 h1 h2)
theorem op_add : OpR X (binaryOp .Add) (rI0 fun i j => .int (i + j)) := opI0 fun _ _ _ _ _ _ _ q => add_int q
theorem op_sub : OpR X (binaryOp .Sub) (rI0 fun i j => .int (i - j)) := opI0 fun _ _ _ _ _ _ _ q => sub_int q
theorem op_mul : OpR X (binaryOp .Mult) (rI CMul fun i j => .int (i * j)) := opI fun _ _ _ _ _ _ _ hc q => mul_int q hc.ok
theorem op_fdiv : OpR X (binaryOp .FloorDiv) (rI CDiv fun i j => .int (i / j)) := opI fun i j _ _ _ _ _ hc q => by
  have h1 : (0 : Int) < j := hc.1
  have h2 : j < 1073741824 := hc.2
  exact floordiv_int (by omega) (by rw [Int.fdiv_eq_ediv_of_nonneg i (by omega)]; exact q) (.inl (PyProof.noPylong_small (by omega)))
theorem op_mod : OpR X (binaryOp .Mod) (rI (fun _ j => 0 < j) fun i j => .int (i % j)) := opI fun i j _ _ _ _ _ hc q => by
  have h1 : (0 : Int) < j := hc
  exact mod_int' (by omega) (by rw [Int.fmod_eq_emod_of_nonneg i (by omega)]; exact q)
theorem unI {f : Value → Sem Value} {g : Int → Int}
    (rule : ∀ (i : Int) (t : Tok) (s : Shared) (Q : Value → Shared → Prop) (E : Value → Shared → Prop), Q (.int (g i) s.toks) { s with toks := s.toks + 1 } → wpAny (model X.prog X.w) X.A (f (.int i t)) Q E s) :
    UnR X f (rU fun i => .int (g i)) := by
  intro pins s σ H x v Q I rx h
  obtain ⟨i, rfl, q⟩ := h
  obtain ⟨t, rfl⟩ := rx
  exact rule i t s _ _ ⟨.int (g i), H, I.tok _, ⟨_, rfl⟩, q⟩
theorem un_neg : UnR X (unaryOp .USub) (rU fun i => .int (-i)) := unI fun _ _ _ _ _ q => neg_int q
end
def scal : V → V → Bool
  | .non, .non => true | .non, .int _ => true | .int _, .non => true | .non, .bl _ => true | .bl _, .non => true | .non, .str _ => true | .str _, .non => true
  | .int _, .int _ => true | .bl _, .bl _ => true | .str _, .str _ => true | .byt _, .byt _ => true
  | .int _, .str _ => true | .str _, .int _ => true | .bl _, .str _ => true | .str _, .bl _ => true
  | _, _ => false
def rEq : R2 := fun x y H Q => scal x y = true ∧ Q (.bl (decide (x = y))) H
theorem dec_int {i j : Int} : decide (V.int i = V.int j) = (i == j) := by
  rw [Bool.eq_iff_iff]
  simp
theorem dec_bl {i j : Bool} : decide (V.bl i = V.bl j) = (i == j) := by
  rw [Bool.eq_iff_iff]
  simp
theorem dec_str {i j : Str} : decide (V.str i = V.str j) = (i == j) := by
  rw [Bool.eq_iff_iff]
  simp
theorem dec_byt {i j : Array UInt8} : decide (V.byt i = V.byt j) = (i.toList == j.toList) := by
  rw [Bool.eq_iff_iff]
  cases i
  cases j
  simp
section
variable {X : Cx} {a b c : Expr} {ta tb tc : TE} {pos : Pos}
theorem fin_bl {pins : List (Addr × Obj)} {σ : St} {H : Hp} {s : Shared} {Q : VK} {k k' : Bool} (I : Inv X pins σ H s) (q : Q (.bl k) H) (e : k = k') : EP X pins σ Q (.bool k') s := by
  subst e
  exact ⟨.bl k, H, I, rfl, q⟩
theorem op_eq : OpR X (compareOp .Eq) rEq := by
  intro pins s σ H x y v u Q I rx ry h
  obtain ⟨hs, q⟩ := h
  cases x with
  | non =>
    cases rx
    cases y with
    | non => cases ry; exact PySem.EqNone.eq_none_none (fin_bl I q (by simp))
    | bl j => cases ry; exact PySem.EqNone.eq_none_bool (fin_bl I q (by simp))
    | int j => obtain ⟨t', rfl⟩ := ry; exact PySem.EqNone.eq_none_int (fin_bl I q (by simp))
    | str j => obtain ⟨t', rfl⟩ := ry; exact PySem.EqNone.eq_none_str (fin_bl I q (by simp))
    | _ => exact absurd (show false = true from hs) Bool.false_ne_true
  | bl i =>
    cases rx
    cases y with
    | non => cases ry; exact PySem.EqNone.eq_bool_none (fin_bl I q (by simp))
    | bl j => cases ry; exact eq_bool (fin_bl I q dec_bl)
    | str j => obtain ⟨t', rfl⟩ := ry; exact PySem.EqMixed.eq_bool_str (fin_bl I q (by simp))
    | _ => exact absurd (show false = true from hs) Bool.false_ne_true
  | int i =>
    obtain ⟨t, rfl⟩ := rx
    cases y with
    | non => cases ry; exact PySem.EqNone.eq_int_none (fin_bl I q (by simp))
    | int j => obtain ⟨t', rfl⟩ := ry; exact eq_int (fin_bl I q dec_int)
    | str j => obtain ⟨t', rfl⟩ := ry; exact PySem.EqMixed.eq_int_str (fin_bl I q (by simp))
    | _ => exact absurd (show false = true from hs) Bool.false_ne_true
  | str i =>
    obtain ⟨t, rfl⟩ := rx
    cases y with
    | non => cases ry; exact PySem.EqNone.eq_str_none (fin_bl I q (by simp))
    | bl j => cases ry; exact PySem.EqMixed.eq_str_bool (fin_bl I q (by simp))
    | int j => obtain ⟨t', rfl⟩ := ry; exact PySem.EqMixed.eq_str_int (fin_bl I q (by simp))
    | str j => obtain ⟨t', rfl⟩ := ry; exact eq_str (fin_bl I q dec_str)
    | _ => exact absurd (show false = true from hs) Bool.false_ne_true
  | byt i =>
    obtain ⟨t, rfl⟩ := rx
    cases y with
    | byt j => obtain ⟨t', rfl⟩ := ry; exact PySem.W.eq_bytes (fin_bl I q dec_byt)
    | _ => exact absurd (show false = true from hs) Bool.false_ne_true
  | _ => cases y <;> exact absurd (show false = true from hs) Bool.false_ne_true
theorem op_lt : OpR X (compareOp .Lt) (rI0 fun i j => .bl (decide (i < j))) := opB0 fun _ _ _ _ _ _ _ q => lt_int q
theorem op_le : OpR X (compareOp .LtE) (rI0 fun i j => .bl (decide (i ≤ j))) := opB0 fun _ _ _ _ _ _ _ q => le_int q
theorem op_gt : OpR X (compareOp .Gt) (rI0 fun i j => .bl (decide (j < i))) := opB0 fun _ _ _ _ _ _ _ q => gt_int q
theorem op_ge : OpR X (compareOp .GtE) (rI0 fun i j => .bl (decide (j ≤ i))) := opB0 fun _ _ _ _ _ _ _ q => ge_int q
theorem op_isN : OpR X (compareOp .Is) (fun x y H Q => y = .non ∧ Q (.bl (decide (x = .non))) H) := by
  intro pins s σ H x y v u Q I rx ry h
  obtain ⟨rfl, q⟩ := h
  cases ry
  refine is_none_gen (fin_bl I q ?_)
  cases x <;> first
    | (cases rx; rfl)
    | (obtain ⟨t, rfl⟩ := rx; rfl)
theorem op_notN : OpR X (compareOp .IsNot) (fun x y H Q => y = .non ∧ Q (.bl (!decide (x = .non))) H) := by
  intro pins s σ H x y v u Q I rx ry h
  obtain ⟨rfl, q⟩ := h
  cases ry
  refine isnot_none_gen (fin_bl I q ?_)
  cases x <;> first
    | (cases rx; rfl)
    | (obtain ⟨t, rfl⟩ := rx; rfl)
theorem nomark (b : Expr) {op : CmpOp} (h : op ≠ .In := by decide) (h2 : op ≠ .NotIn := by decide) : behindInMarks op b = false := by
  have e1 : (op == CmpOp.In) = false := by cases op <;> first | rfl | exact absurd rfl h
  have e2 : (op == CmpOp.NotIn) = false := by cases op <;> first | rfl | exact absurd rfl h2
  cases b <;> simp [behindInMarks, e1, e2]
theorem pe_cmpR {op : CmpOp} {r : R2} (ho : OpR X (compareOp op) r) (ha : PE X a ta) (hb : PE X b tb) (hm : behindInMarks op b = false) : PE X (.Compare a [op] [b] pos) (tOp r ta tb) := by
  intro pins s σ H Q I h
  exact wpAny_Compare1 (binT ha hb I h fun v u s2 x y H2 I2 rx ry q => ho pins s2 σ H2 x y v u Q I2 rx ry q) hm
def tTest (t : TE) : TT := fun σ H Q => t σ H fun x H' => ∃ k, x = .bl k ∧ Q k H'
theorem pt_cmpR {op : CmpOp} {r : R2} (ho : OpR X (compareOp op) r) (ha : PE X a ta) (hb : PE X b tb) (hm : behindInMarks op b = false) : PT X (.Compare a [op] [b] pos) (tTest (tOp r ta tb)) := by
  intro pins s σ H Q I h
  refine wpAny_isTrue_Compare1 (thn (ha pins s σ H _ I h) fun v s1 ⟨x, H1, I1, r1, q1⟩ => thn (hb pins s1 σ H1 _ I1 q1) fun u s2 ⟨y, H2, I2, r2, q2⟩ =>
    thn (ho pins s2 σ H2 x y v u _ I2 r1 r2 q2) fun c s3 ⟨z, H3, I3, r3, k, e, q3⟩ => ?_) hm
  subst e
  cases r3
  exact wpAny_truthy_bool ⟨H3, I3, q3⟩
def tChain (r r' : R2) (ta tb tc : TE) : TE := fun σ H Q => ta σ H fun x H1 => tb σ H1 fun y H2 => r x y H2 fun z H3 => ∃ k, z = .bl k ∧
  (if k = true then tc σ H3 fun w' H4 => r' y w' H4 Q else Q (.bl false) H3)
theorem pe_chain {op op' : CmpOp} {r r' : R2} (ho : OpR X (compareOp op) r) (ho' : OpR X (compareOp op') r') (ha : PE X a ta) (hb : PE X b tb) (hc : PE X c tc)
    (hm : lastMarks [op, op'] [b, c] = false := by with_unfolding_all rfl) : PE X (.Compare a [op, op'] [b, c] pos) (tChain r r' ta tb tc) := by
  intro pins s σ H Q I h
  refine Compare_chain (thn (ha pins s σ H _ I h) fun v s1 ⟨x, H1, I1, r1, q1⟩ => chain_link (thn (hb pins s1 σ H1 _ I1 q1) fun u s2 ⟨y, H2, I2, r2, q2⟩ =>
    thn (ho pins s2 σ H2 x y v u _ I2 r1 r2 q2) fun d s3 ⟨z, H3, I3, r3, k, e, q3⟩ => ?_)) hm
  subst e
  cases r3
  refine wpAny_truthy_bool ?_
  cases k with
  | false => exact ite_ff ⟨.bl false, H3, I3, rfl, q3⟩
  | true => exact ite_tt (chain_last (thn (hc pins s3 σ H3 _ I3 q3) fun w' s4 ⟨z', H4, I4, r4, q4⟩ => ho' pins s4 σ H4 y z' u w' Q I4 r2 r4 q4))
theorem line63 : (sizeLine : Nat) < 2 ^ 63 := by rw [sizeLine_eq]; decide
theorem vals1 {x : V} {us : List Value} (r : Vals [x] us) : ∃ u, us = [u] ∧ RelV x u := by
  cases r with
  | cons r1 r2 => cases r2; exact ⟨_, rfl, r1⟩
theorem vals2 {x y : V} {us : List Value} (r : Vals [x, y] us) : ∃ u w', us = [u, w'] ∧ RelV x u ∧ RelV y w' := by
  cases r with
  | cons r1 r2 =>
    cases r2 with
    | cons r3 r4 => cases r4; exact ⟨_, _, rfl, r1, r3⟩
theorem call_int1 : CallR X (.type "int") (fun xs H Q => (∃ i, xs = [.int i] ∧ Q (.int i) H) ∨ ∃ k, xs = [.bl k] ∧ Q (.int (if k then 1 else 0)) H) := by
  intro pins s σ H xs us Q I r h
  rcases h with ⟨i, rfl, q⟩ | ⟨k, rfl, q⟩
  · obtain ⟨u, rfl, t, rfl⟩ := vals1 r
    exact call_int_int ⟨.int i, H, I, ⟨_, rfl⟩, q⟩
  · obtain ⟨u, rfl, r1⟩ := vals1 r
    cases r1
    exact call_int_bool ⟨.int (if k then 1 else 0), H, I.tok _, ⟨_, rfl⟩, q⟩
end
end L2
namespace L2
open PySem PySem.Spec PyProof.Rows
structure ObjM (h : Heap) (x dx C : Addr) (mA : Str → Option Value) : Prop where
  obj : h.get? x = some (PySem.W.instObj C dx)
  ns : h.Ns1 dx mA
  ne : dx ≠ x
theorem lookIn_ns {h : Heap} {dx : Addr} {mA : Str → Option Value} (n : h.Ns1 dx mA) : ∃ od, h.get? dx = some od ∧ ∀ name, PySem.W.lookIn name od = some (mA name) := by
  obtain ⟨o, es, ep, ho, hd, hk, _, hm⟩ := n
  refine ⟨o, ho, fun name => ?_⟩
  have e := hm name
  unfold nsFind findBy at e
  rw [← Array.find?_toList] at e
  unfold PySem.W.lookIn
  rw [hd]
  dsimp only
  split
  · rename_i y q
    rw [q] at e
    exact congrArg some e
  · rename_i q
    rw [q] at e
    have a : es.toList.any (·.refKey) = false := by
      rw [List.any_eq_false]
      intro y hy
      obtain ⟨z, t, hkey⟩ := hk y (Array.mem_toList_iff.mp hy)
      simp [DictEntry.refKey, hkey]
    have a' : ¬ es.toList.any (·.refKey) = true := by rw [a]; exact Bool.false_ne_true
    rw [if_neg a']
    exact congrArg some e
theorem ObjM.look {h : Heap} {x dx C : Addr} {mA : Str → Option Value} (I : ObjM h x dx C mA) : ∃ od, PySem.W.InstAt h x (PySem.W.instObj C dx) C (some od) ∧ ∀ name, PySem.W.lookIn name od = some (mA name) :=
  let ⟨od, ho, hl⟩ := lookIn_ns I.ns
  ⟨od, ⟨I.obj, rfl, rfl, ho⟩, hl⟩
section
variable {prog : Program} {w : World} {A : Around} {E : Value → Shared → Prop} {s : Shared} {K : PySem.W.Frag} {x dx C f : Addr} {mA : Str → Option Value} {name : Str} {v : Value}
theorem get_map {expr : Bool} {Q : Value → Shared → Prop} (X : K.In s.heap) (I : ObjM s.heap x dx C mA) (hg : PySem.W.plainGet K C name = true) (hh : PySem.W.hasDictIn K C = true)
    (ha : PySem.W.findIn K (.ref C) name = some none) (hv : mA name = some v) (hv' : PySem.W.handedIn v = true) (h : Q v { s with toks := s.toks + 1 }) :
    wpAny (model prog w) A (getAttr (.ref x) name expr) Q E s := by
  obtain ⟨od, J, hl⟩ := I.look
  exact PySem.W.get_value X J (PySem.W.plainGet_of hg).1 (PySem.W.findObj_own hh ha rfl (by rw [hl, hv])) hv' h
theorem get_meth {pl : Sem Bool} {Q : Value × List Value → Shared → Prop} (X : K.In s.heap) (I : ObjM s.heap x dx C mA) (hg : PySem.W.plainGet K C name = true)
    (hf : PySem.W.findIn K (.ref C) name = some (some (.ref f))) (ht : PySem.W.isFn K (.ref f) = true) (hv : mA name = none) (h : Q (.ref f, [.ref x]) s) :
    wpAny (model prog w) A (getMethod (.ref x) name pl) Q E s := by
  obtain ⟨od, J, hl⟩ := I.look
  exact PySem.W.method_fn X J (PySem.W.plainGet_of hg).1 (PySem.W.plainGet_of hg).2 hf (beq_iff_eq.mp ht) (by show (PySem.W.lookIn name od).map (·.isSome) = some false; rw [hl, hv]; rfl) h
theorem set_map {ns : List Str} {Q : Unit → Shared → Prop} (X : K.In s.heap) (I : ObjM s.heap x dx C mA)
    (hs : PySem.W.findIn K (.ref C) "__setattr__" = some (some (.builtin "object.__setattr__"))) (hp : PySem.W.plainOver K C = true) (ht : PySem.W.takerIn K C name = some none) (hh : PySem.W.hasDictIn K C = true)
    (hw : PySem.Within mA ns) (hsz : ns.length ≤ sizeLine)
    (h : ∀ h', ObjM h' x dx C (fun y => if y = name then some v else mA y) → Heap.SameBut dx s.heap h' → Q () { s with heap := h', toks := s.toks + 2 }) :
    wpAny (model prog w) A (setAttr (.ref x) name v) Q E s := by
  obtain ⟨od, J, hl⟩ := I.look
  refine PySem.W.set_plain X J hs (PySem.W.osa_open (s := { s with toks := s.toks + 1 }) (r := none) X J hp ht fun b => ?_)
  obtain ⟨cd, hc, hd'⟩ := PySem.W.any_some hh
  have hx : s.heap.get? x = some ⟨.ref C, some dx, .plain, #[]⟩ := I.obj
  refine wpAny_bind (wpAny_pure (wpAny_bind (wpAny_bind (wpAny_loadPart hx (wpAny_bind (PySem.W.Looks.here (s := { s with toks := s.toks + 1 }) (PySem.W.looks_clsIn X hc) ?_))))))
  rw [hd']
  refine wpAny_pure (a := some dx) (wpAny_bind (wpAny_pure (wpAny_bind ?_)))
  refine wpAny_nsSet1 (s := { s with toks := s.toks + 1 }) I.ns fun h' hn2 hs2 => ?_
  obtain ⟨oD, esD, epD, hoD, hdD, hcD⟩ := hn2.count (PySem.Within.cons name v hw)
  refine wpAny_bind (wpAny_lookBehind hoD (by rw [hdD]; exact pastItsLine_dict (Nat.le_trans hcD (by rw [List.length_cons]; omega))) ?_)
  exact wpAny_pure (h _ ⟨(hs2.2 _ (Ne.symm I.ne)).trans I.obj, hn2, I.ne⟩ hs2)
theorem make_map {R : Result → Shared → Prop} {vs : List Value} {kw : List (Str × Value)} (X : K.In s.heap) (hm : PySem.W.makesIn K C = true)
    (hi : PySem.W.findIn K (.ref C) "__init__" = some (some (.ref f))) (hf : PySem.W.typeIn K (.ref f) = some (.type "function"))
    (h : codeAny (model prog w) (A.under (.builtin "type.__call__" ⟨.ref C :: vs, kw⟩)) (.call (.ref f) ⟨.ref (s.heap.objs.size + 1) :: vs, kw⟩) (PySem.W.InitBack (s.heap.objs.size + 1) R)
      { s with heap := (s.heap.push PySem.W.emptyDict).push (PySem.W.instObj C s.heap.objs.size) }) :
    codeAny (model prog w) A (.call (.ref C) ⟨vs, kw⟩) R s := by
  obtain ⟨hh, g, d, t, os⟩ := s
  exact PySem.W.make_core (PySem.W.makes_of X hm) (PySem.W.looks_findIn X hi) (fun self => PySem.W.bind_fn X self hf) (.inl rfl) h
end
def putF (f : Str) (v : V) : List (Str × V) → List (Str × V)
  | [] => [(f, v)]
  | (g, x) :: r => if g = f then (g, v) :: r else (g, x) :: putF f v r
theorem lookup_putF (f g : Str) (v : V) : ∀ fs : List (Str × V), (putF f v fs).lookup g = if g = f then some v else fs.lookup g
  | [] => by
    show List.lookup g [(f, v)] = _
    by_cases h : g = f
    · have hb : (g == f) = true := beq_iff_eq.mpr h
      simp only [List.lookup, hb, if_pos h]
    · have hb : (g == f) = false := beq_eq_false_iff_ne.mpr h
      simp only [List.lookup, hb, if_neg h]
  | (k, x) :: r => by
    have ih := lookup_putF f g v r
    rw [show putF f v ((k, x) :: r) = (if k = f then (k, v) :: r else (k, x) :: putF f v r) from rfl]
    by_cases hk : k = f
    · rw [if_pos hk]
      by_cases h : g = k
      · have hb : (g == k) = true := beq_iff_eq.mpr h
        simp only [List.lookup, hb, if_pos (h.trans hk)]
      · have hb : (g == k) = false := beq_eq_false_iff_ne.mpr h
        simp only [List.lookup, hb, if_neg (fun e : g = f => h (e.trans hk.symm))]
    · rw [if_neg hk]
      by_cases h : g = k
      · have hb : (g == k) = true := beq_iff_eq.mpr h
        simp only [List.lookup, hb, if_neg (fun e : g = f => hk (h.symm.trans e))]
      · have hb : (g == k) = false := beq_eq_false_iff_ne.mpr h
        simp only [List.lookup, hb]
        exact ih
theorem keys_putF (f : Str) (v : V) : ∀ fs : List (Str × V), f ∈ (putF f v fs).map (·.1) ∧ ∀ g, g ∈ fs.map (·.1) → g ∈ (putF f v fs).map (·.1)
  | [] => ⟨by simp [putF], fun g h => by simp at h⟩
  | (k, x) :: r => by
    obtain ⟨i1, i2⟩ := keys_putF f v r
    rw [show putF f v ((k, x) :: r) = (if k = f then (k, v) :: r else (k, x) :: putF f v r) from rfl]
    by_cases hk : k = f
    · rw [if_pos hk]
      subst hk
      exact ⟨by simp, fun g h => by simpa using h⟩
    · rw [if_neg hk]
      refine ⟨?_, fun g h => ?_⟩
      · rw [List.map_cons]
        exact List.mem_cons_of_mem _ i1
      · rw [List.map_cons] at h ⊢
        rcases List.mem_cons.mp h with e | e
        · exact List.mem_cons.mpr (.inl e)
        · exact List.mem_cons_of_mem _ (i2 g e)
theorem length_putF (f : Str) (v : V) : ∀ fs : List (Str × V), (putF f v fs).length ≤ fs.length + 1
  | [] => by simp [putF]
  | (k, x) :: r => by
    have ih := length_putF f v r
    rw [show putF f v ((k, x) :: r) = (if k = f then (k, v) :: r else (k, x) :: putF f v r) from rfl]
    by_cases hk : k = f
    · rw [if_pos hk, List.length_cons, List.length_cons]; omega
    · rw [if_neg hk, List.length_cons, List.length_cons]; omega
theorem RelO.some_of {v : V} {o : Option Value} (r : RelO (some v) o) : ∃ u, o = some u ∧ RelV v u := by
  cases o with
  | none => exact (show False from r).elim
  | some u => exact ⟨u, rfl, r⟩
theorem RelO.none_of {o : Option Value} (r : RelO none o) : o = none := by
  cases o with
  | none => rfl
  | some u => exact (show False from r).elim
theorem handed_of {v : V} {u : Value} (r : RelV v u) : PySem.W.handedIn u = true := by
  cases v with
  | non => cases (show u = Value.none from r); rfl
  | bl b => cases (show u = Value.bool b from r); rfl
  | int i => obtain ⟨t, e⟩ := (show ∃ t, u = Value.int i t from r); cases e; rfl
  | str x => obtain ⟨t, e⟩ := (show ∃ t, u = Value.str x t from r); cases e; rfl
  | byt b => obtain ⟨t, e⟩ := (show ∃ t, u = Value.bytes b t from r); cases e; rfl
  | flt b => obtain ⟨t, e⟩ := (show ∃ t, u = Value.float b t from r); cases e; rfl
  | ref a => cases (show u = Value.ref a from r); rfl
  | ty n => cases (show u = Value.type n from r); rfl
section
variable {P : Program} {w : World} {H H' : Hp} {h h' : Heap} {a C dx : Addr} {fs fs' : List (Str × V)}
theorem ins_get (hok : HOk P w H h) (e : H a = some (.ins C dx fs)) : ∃ mA, ObjM h a dx C mA ∧ (∀ f, RelO (fs.lookup f) (mA f)) ∧ PySem.Within mA (fs.map (·.1)) ∧ fs.length ≤ 1000 ∧ H dx = some (.own a) := by
  obtain ⟨d, z, ne, ob, mA, n, r, q⟩ := (show ObjOk P w H h a (.ins C dx fs) from hok a _ e)
  exact ⟨mA, ⟨ob, n, ne⟩, r, q, z, d⟩
end
structure Cls (K : PySem.W.Frag) (C : Addr) : Prop where
  pg : PySem.W.plainGet K C Str.empty = true
  hd : PySem.W.hasDictIn K C = true
  po : PySem.W.plainOver K C = true
  sa : PySem.W.findIn K (.ref C) "__setattr__" = some (some (.builtin "object.__setattr__"))
theorem Cls.get {K : PySem.W.Frag} {C : Addr} (c : Cls K C) (f : Str) : PySem.W.plainGet K C f = true := c.pg
def NoAttr (K : PySem.W.Frag) (C : Addr) (f : Str) : Prop := PySem.W.findIn K (.ref C) f = some none
theorem NoAttr.taker {K : PySem.W.Frag} {C : Addr} {f : Str} (n : NoAttr K C f) : PySem.W.takerIn K C f = some none := by
  unfold PySem.W.takerIn
  rw [show PySem.W.findIn K (.ref C) f = some none from n]
  rfl
structure Meth (K : PySem.W.Frag) (C : Addr) (m : Str) (f : Addr) : Prop where
  at_ : PySem.W.findIn K (.ref C) m = some (some (.ref f))
  fn : PySem.W.isFn K (.ref f) = true
  kp : PySem.W.keepIn K (.ref f) = true
section
variable {X : Cx} {pins : List (Addr × Obj)} {σ : St} {H : Hp} {s : Shared} {a C dx : Addr} {fs : List (Str × V)} {f : Str} {v : V} {A : Around} {E : Value → Shared → Prop}
theorem getattr_ok {b : Bool} {Q : Value → Shared → Prop} (I : Inv X pins σ H s) (e : H a = some (.ins C dx fs)) (c : Cls X.K C) (n : NoAttr X.K C f) (l : fs.lookup f = some v)
    (h : ∀ u s', Inv X pins σ H s' → RelV v u → Q u s') : wpAny (model X.prog X.w) A (getAttr (.ref a) f b) Q E s := by
  obtain ⟨mA, O, r, _, _, _⟩ := ins_get I.hok e
  obtain ⟨u, hu, ru⟩ := RelO.some_of (v := v) (o := mA f) (by rw [← l]; exact r f)
  exact get_map I.kIn O (c.get f) c.hd n hu (handed_of ru) (h u _ (I.tok _) ru)
theorem getmeth_ok {m : Str} {g : Addr} {pl : Sem Bool} {Q : Value × List Value → Shared → Prop} (I : Inv X pins σ H s) (e : H a = some (.ins C dx fs)) (c : Cls X.K C) (k : Meth X.K C m g) (l : fs.lookup m = none)
    (h : Q (.ref g, [.ref a]) s) : wpAny (model X.prog X.w) A (getMethod (.ref a) m pl) Q E s := by
  obtain ⟨mA, O, r, _, _, _⟩ := ins_get I.hok e
  have hn : mA m = none := RelO.none_of (by rw [← l]; exact r m)
  exact get_meth I.kIn O (c.get m) k.at_ k.fn hn h
theorem setattr_ok {y : V} {u : Value} {Q : Unit → Shared → Prop} (I : Inv X pins σ H s) (e : H a = some (.ins C dx fs)) (c : Cls X.K C) (n : NoAttr X.K C f) (hl : fs.length < 1000) (ry : RelV y u)
    (h : ∀ s', Inv X pins σ (upd H a (.ins C dx (putF f y fs))) s' → Q () s') : wpAny (model X.prog X.w) A (setAttr (.ref a) f u) Q E s := by
  obtain ⟨mA, O, r, wi, _, ho⟩ := ins_get I.hok e
  have hz : (fs.map (·.1)).length ≤ sizeLine := by rw [List.length_map, sizeLine_eq]; omega
  refine set_map I.kIn O c.sa c.po n.taker c.hd wi hz fun h' O' sb => h _ ?_
  have hd : ∃ o, h'.get? dx = some o := let ⟨o, _, _, e', _⟩ := O'.ns; ⟨o, e'⟩
  refine I.write (x := a) (e := dx) (by rw [e]; exact True.intro) (.inr ho) (fun b q hb z => (sb.2 b hb).trans z) hd ?_
  refine ⟨by rw [upd_ne O.ne]; exact ho, ?_, O.ne, O'.obj, _, O'.ns, fun g => ?_, fun g hg => ?_⟩
  · have := length_putF f y fs; omega
  · show RelO ((putF f y fs).lookup g) (if g = f then some u else mA g)
    rw [lookup_putF]
    by_cases q : g = f
    · rw [if_pos q, if_pos q]; exact ry
    · rw [if_neg q, if_neg q]; exact r g
  · by_cases q : g = f
    · rw [q]; exact (keys_putF f y fs).1
    · refine (keys_putF f y fs).2 g (wi g fun z => hg ?_)
      show (if g = f then some u else mA g) = none
      rw [if_neg q]; exact z
theorem Inv.made (I : Inv X pins σ H s) : Inv X pins σ (upd (upd H s.heap.objs.size (.own (s.heap.objs.size + 1))) (s.heap.objs.size + 1) (.ins C s.heap.objs.size []))
    { s with heap := (s.heap.push PySem.W.emptyDict).push (PySem.W.instObj C s.heap.objs.size) } := by
  have e1 : (s.heap.push PySem.W.emptyDict).get? s.heap.objs.size = some PySem.W.emptyDict := Heap.get?_push_size s.heap rfl
  have e2 : ((s.heap.push PySem.W.emptyDict).push (PySem.W.instObj C s.heap.objs.size)).get? (s.heap.objs.size + 1) = some (PySem.W.instObj C s.heap.objs.size) := by
    have := Heap.get?_push_size (s.heap.push PySem.W.emptyDict) (o := PySem.W.instObj C s.heap.objs.size) rfl
    rwa [Heap.size_push] at this
  have e3 : (s.heap.push PySem.W.emptyDict).Ns s.heap.objs.size (fun _ => none) := ⟨PySem.W.emptyDict, #[], _, e1, rfl, (fun e he => absurd he (by simp)), fun _ => rfl⟩
  have I1 := I.laid (a := s.heap.objs.size) (o := .own (s.heap.objs.size + 1)) (h' := s.heap.push PySem.W.emptyDict) (t' := s.toks) (fun b u q => Heap.get?_push_of_some _ q) (Nat.le_refl _) ⟨_, e1⟩
  refine I1.laid (a := s.heap.objs.size + 1) (o := .ins C s.heap.objs.size []) (t' := s.toks) (fun b u q => Heap.get?_push_of_some _ q) (Nat.le_of_eq (Heap.size_push _ _)) ?_
  have ne : s.heap.objs.size ≠ s.heap.objs.size + 1 := Nat.ne_of_lt (Nat.lt_succ_self _)
  refine ⟨by rw [upd_ne ne, upd_same], Nat.zero_le _, ne, e2, fun _ => none, (Heap.Ns1.of_empty e3).at fun o q => Heap.get?_push_of_some _ q, fun _ => True.intro, fun y hy => absurd rfl hy⟩
theorem attr_of {prog : Program} {w : World} {env : Env} {e : Expr} {f : Str} {pos : Pos} {s : Shared} {Q : Value → Shared → Prop} (hb : attributeBase e f env (eval e env) = eval e env)
    (h : wpAny (model prog w) A (eval e env) (fun o s₁ => wpAny (model prog w) A (getAttr o f true) Q E s₁) E s) : wpAny (model prog w) A (eval (.Attribute e f pos) env) Q E s :=
  Attribute_any_ h (by rw [arm_eval_Attribute, hb])
end
def tFld (K : PySem.W.Frag) (ta : TE) (f : Str) : TE := fun σ H Q => ta σ H fun x H1 => ∃ a C dx fs v, x = .ref a ∧ H1 a = some (.ins C dx fs) ∧ Cls K C ∧ NoAttr K C f ∧ fs.lookup f = some v ∧ Q v H1
def sFld (K : PySem.W.Frag) (ta tv : TE) (f : Str) : TS := fun D σ H => tv σ H fun y H1 => ta σ H1 fun x H2 => ∃ a C dx fs, x = .ref a ∧ H2 a = some (.ins C dx fs) ∧ Cls K C ∧ NoAttr K C f ∧ fs.length < 1000 ∧
  D.nx σ (upd H2 a (.ins C dx (putF f y fs)))
section
variable {X : Cx} {o e value : Expr} {f : Str} {pos pos' tpos : Pos} {ta tv : TE}
theorem pe_fld (he : PE X e ta) (hb : attributeBase e f X.env (eval e X.env) = eval e X.env) : PE X (.Attribute e f pos) (tFld X.K ta f) := by
  intro pins s σ H Q I h
  refine attr_of hb (thn (he pins s σ H _ I h) fun u s1 ⟨x, H1, I1, rx, a, C, dx, fs, v, ex, ea, c, n, l, q⟩ => ?_)
  subst ex
  obtain rfl : u = Value.ref a := rx
  exact getattr_ok I1 ea c n l fun u' s2 I2 ru => ⟨v, H1, I2, ru, q⟩
theorem ps_fld (ha : PE X o ta) (hv : PE X value tv) (hs : swapsWith value (some (.Attribute o f pos')) pos.line X.env = pure false) : PS X (.Assign [.Attribute o f pos'] value pos) (sFld X.K ta tv f) := by
  intro pins s σ H D I h
  refine plainObj_wpAny_Assign_Attribute (thn (hv pins s σ H _ I h) fun u s1 ⟨y, H1, I1, ry, q⟩ => thn (ha pins s1 σ H1 _ I1 q) fun ov s2 ⟨x, H2, I2, rx, a, C, dx, fs, ex, ea, c, n, l, q2⟩ => ?_) hs
  subst ex
  obtain rfl : ov = Value.ref a := rx
  exact setattr_ok I2 ea c n l ry fun s3 I3 => ⟨σ, _, I3, q2⟩
end
section
variable {X : Cx} {pins : List (Addr × Obj)} {σ : St} {H : Hp} {s : Shared} {A : Around} {E : Value → Shared → Prop} {Q : Value → Shared → Prop} {c : Value} {b : Bool}
inductive TyOf (K : PySem.W.Frag) (H : Hp) : V → Value → Prop where
  | non : TyOf K H .non (.type "NoneType")
  | bl (x : Bool) : TyOf K H (.bl x) (.type "bool")
  | int (i : Int) : TyOf K H (.int i) (.type "int")
  | str (x : Str) : TyOf K H (.str x) (.type "str")
  | flt (x : UInt64) : TyOf K H (.flt x) (.type "float")
  | lst {a : Addr} {xs : List V} (e : H a = some (.lst xs)) : TyOf K H (.ref a) (.type "list")
  | frz {a : Addr} {o : Obj} {xs : List V} (e : H a = some (.frz o (.lst xs))) : TyOf K H (.ref a) (.type "list")
  | tup {a : Addr} {xs : List V} (e : H a = some (.tup xs)) : TyOf K H (.ref a) (.type "tuple")
  | dK {a : Addr} {kvs : List (Key × V)} (e : H a = some (.dK kvs)) : TyOf K H (.ref a) (.type "dict")
  | dT {a : Addr} {kvs : List (List Key × V)} (e : H a = some (.dT kvs)) : TyOf K H (.ref a) (.type "dict")
  | ins {a C dx : Addr} {fs : List (Str × V)} (e : H a = some (.ins C dx fs)) (cl : Cls K C) (ha : PySem.W.findIn K (.ref C) "__class__" = some (some (.builtin "object.__class__")))
      (hn : PySem.W.specialIn K (.builtin "object.__class__") "__get__" = some (some (.builtin "getset_descriptor.__get__"))) (htk : PySem.W.takesIn K (.builtin "object.__class__") = some true)
      (hm : PySem.W.mroIn K C (.type "object") = some true) : TyOf K H (.ref a) (.ref C)
theorem isinst_ok {x : V} {u t : Value} (I : Inv X pins σ H s) (rx : RelV x u) (ty : TyOf X.K H x t) (e : PySem.W.kitOne X.K t c = some b) (h : ∀ tk, Q (.bool b) { s with toks := tk }) :
    wpAny (model X.prog X.w) A (call (.builtin "isinstance") [u, c]) Q E s := by
  cases ty with
  | non => cases (show u = Value.none from rx); exact PySem.W.kia_one PySem.W.kitx_none I.kIn True.intro e (fun z => nomatch z) h
  | bl y => cases (show u = Value.bool y from rx); exact PySem.W.kia_one PySem.W.kitx_bool I.kIn True.intro e (fun z => nomatch z) h
  | int i => obtain ⟨t, q⟩ := (show ∃ t, u = Value.int i t from rx); cases q; exact PySem.W.kia_one PySem.W.kitx_int I.kIn True.intro e (fun z => nomatch z) h
  | str y => obtain ⟨t, q⟩ := (show ∃ t, u = Value.str y t from rx); cases q; exact PySem.W.kia_one PySem.W.kitx_str I.kIn True.intro e (fun z => nomatch z) h
  | flt y => obtain ⟨t, q⟩ := (show ∃ t, u = Value.float y t from rx); cases q; exact PySem.W.kia_one PySem.W.kitx_float I.kIn True.intro e (fun z => nomatch z) h
  | @lst a xs ea =>
    cases (show u = Value.ref a from rx)
    obtain ⟨_, _, n, _, h1⟩ := (show ObjOk X.prog X.w H s.heap a (.lst xs) from I.hok a _ ea)
    exact PySem.W.kia_one PySem.W.kitx_list I.kIn ⟨_, h1, rfl⟩ e (fun z => nomatch z) h
  | @frz a ob xs ea =>
    cases (show u = Value.ref a from rx)
    obtain ⟨_, _, _, n, _, h1⟩ := (show ObjOk X.prog X.w H s.heap a (.frz ob (.lst xs)) from I.hok a _ ea)
    exact PySem.W.kia_one PySem.W.kitx_list I.kIn ⟨_, h1, rfl⟩ e (fun z => nomatch z) h
  | @tup a xs ea =>
    cases (show u = Value.ref a from rx)
    obtain ⟨_, _, _, p⟩ := (show ObjOk X.prog X.w H s.heap a (.tup xs) from I.hok a _ ea)
    obtain ⟨o, h1, h2, _⟩ := p
    exact PySem.W.kia_one PySem.W.kitx_tuple I.kIn ⟨o, h1, h2⟩ e (fun z => nomatch z) h
  | @dK a kvs ea =>
    cases (show u = Value.ref a from rx)
    obtain ⟨_, _, vs, _, p⟩ := (show ObjOk X.prog X.w H s.heap a (.dK kvs) from I.hok a _ ea)
    obtain ⟨o, es, ep, h1, h2, _⟩ := p
    exact PySem.W.kia_one PySem.W.kitx_dict I.kIn ⟨o, h1, h2.1⟩ e (fun z => nomatch z) h
  | @dT a kvs ea =>
    cases (show u = Value.ref a from rx)
    obtain ⟨_, _, xs, _, o, es, ep, h1, h2, _⟩ := (show ObjOk X.prog X.w H s.heap a (.dT kvs) from I.hok a _ ea)
    exact PySem.W.kia_one PySem.W.kitx_dict I.kIn ⟨o, h1, h2.1⟩ e (fun z => nomatch z) h
  | @ins a C dx fs ea cl ha hn htk hm =>
    cases (show u = Value.ref a from rx)
    obtain ⟨mA, O, _⟩ := ins_get I.hok ea
    obtain ⟨od, J, _⟩ := O.look
    exact PySem.W.kia_one (PySem.W.kitx_own (cl.get _) cl.hd ha hn htk hm) I.kIn J e (fun z => nomatch z) h
end
end L2
namespace L2
open PySem PySem.Spec PyProof.Rows
structure Room (k : Nat) (A : Around) : Prop where
  hd : A.handled = none
  dp : A.depth + 3 * k + 5 < recursionLimit
  un : A.units + 16 * k + 200 < cLine
theorem Room.mono {j k : Nat} {A : Around} (r : Room k A) (h : j ≤ k) : Room j A := ⟨r.hd, by have := r.dp; omega, by have := r.un; omega⟩
theorem Room.deeper {k : Nat} {A : Around} (r : Room (k + 1) A) (env : Env) : Room k (A.deeper env) :=
  ⟨r.hd, by have := r.dp; show A.depth + 1 + 3 * k + 5 < _; omega, by have := r.un; show A.units + 3 + 16 * k + 200 < _; omega⟩
theorem Room.in1 {k : Nat} {A : Around} (r : Room (k + 1) A) : Room k A.in1 :=
  ⟨r.hd, by have := r.dp; show A.depth + 3 * k + 5 < _; omega, by have := r.un; show A.units + 1 + 16 * k + 200 < _; omega⟩
theorem make_depth {A : Around} {C : Addr} {us : List Value} {kw : List (Str × Value)} : (A.under (.builtin "type.__call__" ⟨.ref C :: us, kw⟩)).depth = A.depth + 1 := by
  first | rfl | simp [Around.under, Code.weight, Code.isCreation, Code.isGuard, Code.isCaller, Code.frames, Code.isFrame, guardIds]
theorem make_units {A : Around} {C : Addr} {us : List Value} {kw : List (Str × Value)} : (A.under (.builtin "type.__call__" ⟨.ref C :: us, kw⟩)).units = A.units + 1 := by
  first | rfl | simp [Around.under, Code.cUnits, Code.frames, Code.isFrame]
theorem Room.make {k : Nat} {A : Around} (r : Room (k + 1) A) (C : Addr) (us : List Value) (kw : List (Str × Value)) : Room k (A.under (.builtin "type.__call__" ⟨.ref C :: us, kw⟩)) :=
  ⟨r.hd, by have := r.dp; rw [make_depth]; omega, by have := r.un; rw [make_units]; omega⟩
theorem Room.depth {k : Nat} {A : Around} (r : Room k A) : A.depth < recursionLimit := by have := r.dp; omega
theorem Room.units {k : Nat} {A : Around} (r : Room k A) : A.units + 64 < cLine := by have := r.un; omega
def tNil : TA := fun _ H Q => Q [] H
def tCons (ta : TE) (tr : TA) : TA := fun σ H Q => ta σ H fun x H1 => tr σ H1 fun xs H2 => Q (x :: xs) H2
section
variable {X : Cx} {e : Expr} {es : List Expr} {te : TE} {t : TA} {pos : Pos}
theorem pa_nil : PA X [] tNil := fun _ _ _ _ H Q I h => Calls.spliced_nil ⟨[], H, I, .nil, h⟩
theorem pa_cons (ha : PE X e te) (hr : PA X es t) (hs : starEach (e :: es) X.env = (false, eval e X.env) :: starEach es X.env := by rfl) : PA X (e :: es) (tCons te t) := by
  intro pos pins s σ H Q I h
  rw [hs]
  show wpAny _ _ (spliced ((false, eval e X.env) :: backTo pos (starEach es X.env))) _ _ s
  refine Calls.spliced_cons (thn (ha pins s σ H _ I h) fun u s1 ⟨x, H1, I1, r1, q1⟩ => ?_)
  exact thn (hr pos pins s1 σ H1 _ I1 q1) fun us s2 ⟨xs, H2, I2, r2, q2⟩ => ⟨x :: xs, H2, I2, .cons r1 r2, q2⟩
def tTup (t : TA) : TE := fun σ H Q => t σ H fun xs H1 => xs.length ≤ sizeLine ∧ ∀ p, H1 p = none → Q (.ref p) (upd H1 p (.tup xs))
def tLst (t : TA) : TE := fun σ H Q => t σ H fun xs H1 => xs.length ≤ sizeLine ∧ ∀ p, H1 p = none → Q (.ref p) (upd H1 p (.lst xs))
theorem pe_tup {x1} (h : PA X es t) : PE X (.Tuple es x1 pos) (tTup t) := by
  intro pins s σ H Q I hq
  refine wpAny_Tuple_spliced (thn (h pos pins s σ H _ I hq) fun us s1 ⟨xs, H1, I1, r, z, q⟩ => ⟨by rw [← r.length]; exact z, ?_⟩)
  have hf : H1 s1.heap.objs.size = none := I1.hok.fresh (Nat.le_refl _)
  refine ⟨.ref s1.heap.objs.size, upd H1 s1.heap.objs.size (.tup xs), I1.laid (t' := s1.toks) (fun b u e => Heap.get?_push_of_some _ e) (Nat.le_refl _) ?_, rfl, q _ hf⟩
  exact ⟨z, us, r, ⟨_, Heap.get?_push_size _ rfl, rfl, _, rfl⟩⟩
theorem pe_lst (h : PA X es t) : PE X (.List es pos) (tLst t) := by
  intro pins s σ H Q I hq
  refine wpAny_List_spliced (thn (h pos pins s σ H _ I hq) fun us s1 ⟨xs, H1, I1, r, z, q⟩ => ⟨by rw [← r.length]; exact z, ?_⟩)
  have hf : H1 s1.heap.objs.size = none := I1.hok.fresh (Nat.le_refl _)
  refine ⟨.ref s1.heap.objs.size, upd H1 s1.heap.objs.size (.lst xs), I1.laid (t' := s1.toks) (fun b u e => Heap.get?_push_of_some _ e) (Nat.le_refl _) ?_, rfl, q _ hf⟩
  exact ⟨z, us, 0, r, Heap.get?_push_size _ rfl⟩
end
abbrev Sp := List V → Hp → VK → XK → Prop
abbrev CXT := List Env → Hp → Shared → XK → Value → Shared → Prop
structure Env0 (P : Program) (w : World) (K : PySem.W.Frag) (mg : Str → Option Value) (base : Heap) (A : Around) (outer : List Env) (s : Shared) (H : Hp) : Prop where
  frames : A.frames = some outer
  mod : Mod K mg base
  bs : ∀ b o, base.get? b = some o → s.heap.get? b = some o ∧ H b = none
  bsz : base.objs.size ≤ s.heap.objs.size
  funs : s.heap.FunFrames base outer
  frf : ∀ b ∈ frs outer, H b = none
  hok : HOk P w H s.heap
  bare : AllBare s.gens
  tabs : Tabs base H
def CE (outer : List Env) (P : Program) (w : World) (H : Hp) (s : Shared) (Q : VK) (u : Value) (s' : Shared) : Prop :=
  ∃ v H', s'.os = s.os ∧ AllBare s'.gens ∧ Un (frs outer) [] H H' s.heap s'.heap ∧ HOk P w H' s'.heap ∧ RelV v u ∧ Q v H'
def CR (CX : CXT) (outer : List Env) (P : Program) (w : World) (H : Hp) (s : Shared) (Q : VK) (E : XK) (r : Result) (s' : Shared) : Prop :=
  match r with
  | .ok (.ret u) => CE outer P w H s Q u s'
  | .ok _ => False
  | .error e => CX outer H s E e s'
structure FnOk (P : Program) (w : World) (K : PySem.W.Frag) (mg : Str → Option Value) (base : Heap) (CX : CXT) (k : Nat) (f : Addr) (fd : FuncData) (ps : List Str) (sp : Sp) : Prop where
  len : ∀ vs H Q E, sp vs H Q E → vs.length = ps.length
  run : ∀ (A : Around) (outer : List Env) (s : Shared) (H : Hp) (args : Args) (us : List Value) (vs : List V) (Q : VK) (E : XK), Room k A → Env0 P w K mg base A outer s H → BindsTo s fd args (ps.zip us) → Vals vs us → sp vs H Q E →
    codeAny (model P w) A (.call (.ref f) args) (CR CX outer P w H s Q E) s
theorem Env0.make {P : Program} {w : World} {K : PySem.W.Frag} {mg : Str → Option Value} {base : Heap} {A : Around} {outer : List Env} {s : Shared} {H : Hp} (e : Env0 P w K mg base A outer s H) (C : Addr) (us : List Value) (kw : List (Str × Value)) :
    Env0 P w K mg base (A.under (.builtin "type.__call__" ⟨.ref C :: us, kw⟩)) outer s H := ⟨by first | exact e.frames | (simpa [Around.under, Code.envs, Code.isFrame, pushEnvs] using e.frames), e.mod, e.bs, e.bsz, e.funs, e.frf, e.hok, e.bare, e.tabs⟩
section
variable {X : Cx} {pins : List (Addr × Obj)} {σ : St} {H : Hp} {s s' : Shared}
theorem Inv.env0 (I : Inv X pins σ H s) : Env0 X.prog X.w X.K X.mg X.base X.A X.stack s H :=
  ⟨I.ok.frames, I.ok.mod, I.bs, Nat.le_trans I.ok.bsz I.sz, I.stack, I.stkFree, I.hok, I.bare, I.tabs⟩
theorem Inv.after {Q : VK} {u : Value} (I : Inv X pins σ H s) (h : CE X.stack X.prog X.w H s Q u s') : EP X pins σ Q u s' := by
  obtain ⟨v, H', os, bare, un, hok, r, q⟩ := h
  obtain ⟨hh, g, d, t, os'⟩ := s'
  obtain rfl : os' = s.os := os
  exact ⟨v, H', I.call (h' := hh) (g' := g) (d' := d) (t' := t) (ch := []) un hok bare (fun b z => absurd z (by simp)), r, q⟩
end
def tCall (sp : Sp) (dvs : List V) (E : XK) (t : TA) : TE := fun σ H Q => t σ H fun vs H1 => sp (vs ++ dvs) H1 Q E
def tMeth (C : Addr) (m : Str) (sp : Sp) (dvs : List V) (E : XK) (ta : TE) (t : TA) : TE := fun σ H Q => ta σ H fun x H1 => ∃ a dx fs, x = .ref a ∧ H1 a = some (.ins C dx fs) ∧ fs.lookup m = none ∧
  t σ H1 fun vs H2 => sp (x :: (vs ++ dvs)) H2 Q E
def tMake (C : Addr) (sp : Sp) (dvs : List V) (E : XK) (t : TA) : TE := fun σ H Q => t σ H fun vs H1 => ∀ x dx, H1 x = none → H1 dx = none → dx ≠ x →
  sp (.ref x :: (vs ++ dvs)) (upd (upd H1 dx (.own x)) x (.ins C dx [])) (fun v H2 => v = .non ∧ Q (.ref x) H2) E
def Binds (K : PySem.W.Frag) (fd : FuncData) (ps : List Str) (ds : List Value) : Prop :=
  ∀ (s : Shared) (us : List Value), K.In s.heap → (us ++ ds).length = ps.length → BindsTo s fd ⟨us, []⟩ (ps.zip (us ++ ds))
theorem Binds.all {K : PySem.W.Frag} {fd : FuncData} {ps : List Str} (h : ∀ us : List Value, us.length = ps.length → bindArgs fd ⟨us, []⟩ = pure (ps.zip us)) : Binds K fd ps [] := fun s us _ hl => by
  rw [List.append_nil] at hl ⊢
  exact .of_eq (h us hl)
def Passes (CX : CXT) (X : Cx) (E : XK) : Prop := ∀ (pins : List (Addr × Obj)) (σ : St) (H : Hp) (s : Shared) (e : Value) (s' : Shared), Inv X pins σ H s → CX X.stack H s E e s' → X.xe e s'
section
variable {X : Cx} {CX : CXT} {k : Nat} {f C : Addr} {fd : FuncData} {ps : List Str} {sp : Sp} {dvs : List V} {ds : List Value} {E : XK} {x m : Str} {p pos apos : Pos} {e o : Expr} {es : List Expr} {ta : TE} {t : TA}
theorem run_fn {pins : List (Addr × Obj)} {σ : St} {H : Hp} {s : Shared} {Q : VK} {us : List Value} {vs : List V} (F : FnOk X.prog X.w X.K X.mg X.base CX k f fd ps sp) (hr : Room k X.A) (hb : Binds X.K fd ps ds) (hd : Vals dvs ds) (hx : Passes CX X E)
    (I : Inv X pins σ H s) (r : Vals vs us) (h : sp (vs ++ dvs) H Q E) : wpAny (model X.prog X.w) X.A (call (.ref f) us) (EP X pins σ Q) X.xe s := by
  have r2 : Vals (vs ++ dvs) (us ++ ds) := r.append hd
  have hl : (us ++ ds).length = ps.length := by rw [← r2.length]; exact F.len _ _ _ _ h
  refine wpAny_call (codeAny_mono (F.run X.A X.stack s H ⟨us, []⟩ (us ++ ds) (vs ++ dvs) Q E hr I.env0 (hb s us I.kIn hl) r2 h) fun r s' hq => ?_)
  cases r with
  | error e => exact hx pins σ H s e s' I hq
  | ok fl =>
    cases fl with
    | ret u => exact I.after hq
    | next => exact False.elim hq
    | brk => exact False.elim hq
    | cont => exact False.elim hq
theorem pe_call (F : FnOk X.prog X.w X.K X.mg X.base CX k f fd ps sp) (hr : Room k X.A) (hg : Gl X x) (hm : X.mg x = some (.ref f)) (hk : PySem.W.keepIn X.K (.ref f) = true) (hb : Binds X.K fd ps ds) (hd : Vals dvs ds) (hx : Passes CX X E)
    (ha : PA X (e :: es) t) (hdb : (x == ("__debug__" : Str)) = false := by decide) (he : starEach (e :: es) X.env = (false, eval e X.env) :: starEach es X.env := by rfl) (hpl : (backTo pos (starEach es X.env)).any (·.1) = false := by rfl) :
    PE X (.Call (.Name x p) (e :: es) [] pos) (tCall sp dvs E t) := by
  intro pins s σ H Q I h
  refine wpAny_Call_Name_kw (ld_glob I hg hm ?_ hdb)
  refine PySem.W.callWith_K (h₀ := X.base) I.ok.mod.kin hk (thn (ha pos pins s σ H _ I h) fun us s1 ⟨vs, H1, I1, r, q⟩ => ⟨I1.kIn, ?_⟩) he hpl
  exact run_fn F hr hb hd hx I1 r q
theorem pe_meth {pl : Sem Bool} (he : PE X o ta) (c : Cls X.K C) (hm : Meth X.K C m f) (F : FnOk X.prog X.w X.K X.mg X.base CX k f fd ps sp) (hr : Room k X.A) (hb : Binds X.K fd ps ds) (hd : Vals dvs ds) (hx : Passes CX X E) (ha : PA X (e :: es) t)
    (hst : starEach (e :: es) X.env = (false, eval e X.env) :: starEach es X.env := by rfl) (hpl : (backTo pos (starEach es X.env)).any (·.1) = false := by rfl)
    (ht : eval (.Call (.Attribute o m apos) (e :: es) [] pos) X.env = (do
      let ov ← eval o X.env
      standAt apos.atName
      let (f, first) ← holding [ov] (getMethod ov m pl)
      callWith pos f first (backTo pos (starEach (e :: es) X.env)) (backToKw pos (keywordEach [] X.env))) := by rfl) :
    PE X (.Call (.Attribute o m apos) (e :: es) [] pos) (tMeth C m sp dvs E ta t) := by
  intro pins s σ H Q I h
  refine PySem.W.methodCall_KW (pl := pl) (thn (he pins s σ H _ I h) fun u s1 ⟨x, H1, I1, rx, a, dx, fs, ex, ea, l, q⟩ => ?_) ht
  subst ex
  obtain rfl : u = Value.ref a := rx
  refine getmeth_ok I1 ea c hm l ?_
  refine PySem.W.callWith_K (first := [.ref a]) (h₀ := X.base) I.ok.mod.kin hm.kp (thn (ha pos pins s1 σ H1 _ I1 q) fun us s2 ⟨vs, H2, I2, r, q2⟩ => ⟨I2.kIn, ?_⟩) hst hpl
  exact run_fn (us := .ref a :: us) (vs := .ref a :: vs) F hr hb hd hx I2 (.cons rfl r) q2
theorem pe_meth0 {pl : Sem Bool} (he : PE X o ta) (c : Cls X.K C) (hm : Meth X.K C m f) (F : FnOk X.prog X.w X.K X.mg X.base CX k f fd ps sp) (hr : Room k X.A) (hb : Binds X.K fd ps ds) (hd : Vals dvs ds) (hx : Passes CX X E)
    (ht : eval (.Call (.Attribute o m apos) [] [] pos) X.env = (do
      let ov ← eval o X.env
      standAt apos.atName
      let (f, first) ← holding [ov] (getMethod ov m pl)
      callWith pos f first (backTo pos (starEach [] X.env)) (backToKw pos (keywordEach [] X.env))) := by rfl) :
    PE X (.Call (.Attribute o m apos) [] [] pos) (tMeth C m sp dvs E ta tNil) := by
  intro pins s σ H Q I h
  refine PySem.W.methodCall_KW (pl := pl) (thn (he pins s σ H _ I h) fun u s1 ⟨x, H1, I1, rx, a, dx, fs, ex, ea, l, q⟩ => ?_) ht
  subst ex
  obtain rfl : u = Value.ref a := rx
  refine getmeth_ok I1 ea c hm l ?_
  exact PySem.W.callWith_K0 (first := [.ref a]) I1.kIn hm.kp (run_fn (us := [.ref a]) (vs := [.ref a]) F hr hb hd hx I1 (.cons rfl .nil) q)
structure Mk (K : PySem.W.Frag) (C f : Addr) : Prop where
  makes : PySem.W.makesIn K C = true
  init : PySem.W.findIn K (.ref C) "__init__" = some (some (.ref f))
  fn : PySem.W.isFn K (.ref f) = true
  kp : PySem.W.keepIn K (.ref C) = true
theorem run_make {pins : List (Addr × Obj)} {σ : St} {H : Hp} {s : Shared} {Q : VK} {us : List Value} {vs : List V} (M : Mk X.K C f) (F : FnOk X.prog X.w X.K X.mg X.base CX k f fd ps sp) (hr : Room (k + 1) X.A) (hb : Binds X.K fd ps ds) (hd : Vals dvs ds)
    (hx : Passes CX X E) (I : Inv X pins σ H s) (r : Vals vs us)
    (h : ∀ x dx, H x = none → H dx = none → dx ≠ x → sp (.ref x :: (vs ++ dvs)) (upd (upd H dx (.own x)) x (.ins C dx [])) (fun v H2 => v = .non ∧ Q (.ref x) H2) E) :
    wpAny (model X.prog X.w) X.A (call (.ref C) us) (EP X pins σ Q) X.xe s := by
  have hq := h (s.heap.objs.size + 1) s.heap.objs.size (I.hok.fresh (Nat.le_succ _)) (I.hok.fresh (Nat.le_refl _)) (Nat.ne_of_lt (Nat.lt_succ_self _))
  have I2 := Inv.made (C := C) I
  have r2 : Vals (V.ref (s.heap.objs.size + 1) :: (vs ++ dvs)) (Value.ref (s.heap.objs.size + 1) :: (us ++ ds)) := .cons rfl (r.append hd)
  have hl : (Value.ref (s.heap.objs.size + 1) :: us ++ ds).length = ps.length := by
    have e := r2.length
    rw [F.len _ _ _ _ hq] at e
    exact e.symm
  refine wpAny_call (make_map (f := f) I.kIn M.makes M.init (beq_iff_eq.mp M.fn) (codeAny_mono (F.run _ X.stack _ _ ⟨Value.ref (s.heap.objs.size + 1) :: us, []⟩ (Value.ref (s.heap.objs.size + 1) :: (us ++ ds)) _ _ E (hr.make C us [])
    (I2.env0.make C us []) (hb _ (Value.ref (s.heap.objs.size + 1) :: us) I2.kIn hl) r2 hq) fun r s' hq' => ?_))
  cases r with
  | error e => exact hx pins σ _ _ e s' I2 hq'
  | ok fl =>
    cases fl with
    | ret u =>
      obtain ⟨v, H', I3, rv, ev, q3⟩ := I2.after hq'
      subst ev
      exact ⟨rv, ⟨V.ref (s.heap.objs.size + 1), H', I3, rfl, q3⟩⟩
    | next => exact False.elim hq'
    | brk => exact False.elim hq'
    | cont => exact False.elim hq'
theorem pe_make (M : Mk X.K C f) (F : FnOk X.prog X.w X.K X.mg X.base CX k f fd ps sp) (hr : Room (k + 1) X.A) (hg : Gl X x) (hm : X.mg x = some (.ref C)) (hb : Binds X.K fd ps ds) (hd : Vals dvs ds) (hx : Passes CX X E)
    (ha : PA X (e :: es) t) (hdb : (x == ("__debug__" : Str)) = false := by decide) (he : starEach (e :: es) X.env = (false, eval e X.env) :: starEach es X.env := by rfl) (hpl : (backTo pos (starEach es X.env)).any (·.1) = false := by rfl) :
    PE X (.Call (.Name x p) (e :: es) [] pos) (tMake C sp dvs E t) := by
  intro pins s σ H Q I h
  refine wpAny_Call_Name_kw (ld_glob I hg hm ?_ hdb)
  refine PySem.W.callWith_K (h₀ := X.base) I.ok.mod.kin M.kp (thn (ha pos pins s σ H _ I h) fun us s1 ⟨vs, H1, I1, r, q⟩ => ⟨I1.kIn, ?_⟩) he hpl
  exact run_make M F hr hb hd hx I1 r q
end
structure FnScope (N P : List Str) (sc : Scope) : Prop where
  kind : sc.kind = .function
  co : sc.isCoroutine = false
  gen : sc.isGenerator = false
  nd : N.Nodup
  pre : N.take P.length = P
  par : ∀ x ∈ P, sc.names.lookup x = some .local ∨ sc.names.lookup x = some .cell
  nofree : ∀ y ∈ sc.names, y.2 ≠ .free
theorem bindL_out {kindOf : Str → Option NameKind} {x : Str} : ∀ {binds : List (Str × Value)} {m : Str → Option Value}, (∀ v, (x, v) ∉ binds) → bindL kindOf binds m x = m x
  | [], _, _ => rfl
  | (n, v) :: r, m, h => by
    unfold bindL
    rw [bindL_out fun w hw => h w (List.mem_cons_of_mem _ hw)]
    split
    · have : x ≠ n := by rintro rfl; exact h v List.mem_cons_self
      simp [this]
    · rfl
theorem bindC_out {kindOf : Str → Option NameKind} {x : Str} : ∀ {binds : List (Str × Value)} {m : Str → Option Value}, (∀ v, (x, v) ∉ binds) → bindC kindOf binds m x = m x
  | [], _, _ => rfl
  | (n, v) :: r, m, h => by
    unfold bindC
    rw [bindC_out fun w hw => h w (List.mem_cons_of_mem _ hw)]
    split
    · rfl
    · have : x ≠ n := by rintro rfl; exact h v List.mem_cons_self
      simp [this]
theorem bindL_get {kindOf : Str → Option NameKind} {x : Str} {v : Value} : ∀ {P : List Str} {vs : List Value} {i : Nat} {m : Str → Option Value}, P.Nodup → P[i]? = some x → vs[i]? = some v → kindOf x = some .local →
    bindL kindOf (P.zip vs) m x = some v
  | [], _, _, _, _, h, _, _ => by simp at h
  | _ :: _, [], _, _, _, _, h, _ => by simp at h
  | p :: P, w :: vs, 0, m, nd, h1, h2, hk => by
    simp at h1 h2; subst h1; subst h2
    show bindL kindOf ((p, w) :: P.zip vs) m p = _
    unfold bindL
    rw [bindL_out fun v hv => (List.nodup_cons.mp nd).1 (List.of_mem_zip hv).1, if_pos hk]
    simp
  | p :: P, w :: vs, i + 1, m, nd, h1, h2, hk => by
    show bindL kindOf ((p, w) :: P.zip vs) m x = _
    unfold bindL
    exact bindL_get (i := i) (List.nodup_cons.mp nd).2 (by simpa using h1) (by simpa using h2) hk
theorem bindC_get {kindOf : Str → Option NameKind} {x : Str} {v : Value} : ∀ {P : List Str} {vs : List Value} {i : Nat} {m : Str → Option Value}, P.Nodup → P[i]? = some x → vs[i]? = some v → kindOf x ≠ some .local →
    bindC kindOf (P.zip vs) m x = some v
  | [], _, _, _, _, h, _, _ => by simp at h
  | _ :: _, [], _, _, _, _, h, _ => by simp at h
  | p :: P, w :: vs, 0, m, nd, h1, h2, hk => by
    simp at h1 h2; subst h1; subst h2
    show bindC kindOf ((p, w) :: P.zip vs) m p = _
    unfold bindC
    rw [bindC_out fun v hv => (List.nodup_cons.mp nd).1 (List.of_mem_zip hv).1, if_neg hk]
    simp
  | p :: P, w :: vs, i + 1, m, nd, h1, h2, hk => by
    show bindC kindOf ((p, w) :: P.zip vs) m x = _
    unfold bindC
    exact bindC_get (i := i) (List.nodup_cons.mp nd).2 (by simpa using h1) (by simpa using h2) hk
def start (N : List Str) (vs : List V) : St := vs.map some ++ List.replicate (N.length - vs.length) none
def cxOf (CX : CXT) (P : Program) (w : World) (K : PySem.W.Frag) (mg : Str → Option Value) (base : Heap) (N : List Str) (qual : Str) (scope : Scope) (f : Addr) (cd : Value) (A : Around) (outer : List Env) (s : Shared) (H : Hp) (E : XK) : Cx where
  prog := P
  w := w
  K := K
  mg := mg
  base := base
  A := A.deeper (envOfC qual scope s.heap.objs.size f cd)
  N := N
  s₀ := s
  H₀ := H
  env := envOfC qual scope s.heap.objs.size f cd
  outer := outer
  stack := envOfC qual scope s.heap.objs.size f cd :: outer
  ex := []
  calm := true
  fn := fun _ => true
  pn := []
  xe := fun e s' => wpAny (model P w) (A.deeper (envOfC qual scope s.heap.objs.size f cd)) (leaving (envOfC qual scope s.heap.objs.size f cd) e) (fun _ s'' => CX outer H s E e s'') (fun e' s'' => CX outer H s E e' s'') s'
theorem cell_has {sc : Scope} {n : Nat} {x : Str} (h : sc.names.lookup x = some .cell) : ∃ c, (cellsFrom n sc.names []).lookup x = some c := by
  have q := PySem.W.cellsFrom_some sc.names n [] (.inl h)
  exact Option.isSome_iff_exists.mp q
theorem inv_start {CX : CXT} {P : Program} {w : World} {K : PySem.W.Frag} {mg : Str → Option Value} {base : Heap} {N ps : List Str} {qual : Str} {scope : Scope} {f : Addr} {cd : Value} {A : Around} {outer : List Env} {s s1 : Shared} {H : Hp} {E : XK} {us : List Value} {vs : List V}
    (S : FnScope N ps scope) (hd : A.handled = none) (e0 : Env0 P w K mg base A outer s H) (hl : vs.length = ps.length) (r : Vals vs us)
    (x : InCallC s s.heap.objs.size (bindL (envOfC qual scope s.heap.objs.size f cd).kindOf (ps.zip us) fun _ => none) (cellsFrom (s.heap.objs.size + 1) scope.names []) (bindC (envOfC qual scope s.heap.objs.size f cd).kindOf (ps.zip us) fun _ => none) s1) :
    Inv (cxOf CX P w K mg base N qual scope f cd A outer s H E) [] (start N vs) H s1 := by
  have hpl : ps.length ≤ N.length := by have := congrArg List.length S.pre; rw [List.length_take] at this; omega
  obtain ⟨h1, tk, rfl, hk⟩ := x.done
  have noA : ∀ b : Addr, b ∉ (cxOf CX P w K mg base N qual scope f cd A outer s H E).ex := fun b z => absurd (show b ∈ ([] : List Addr) from z) (by simp)
  refine ⟨⟨e0.mod, S.kind, rfl, rfl, Nat.le_refl _, fun y z c h1 h2 => ?_, fun y hy => ?_, fun y c _ h => ?_, fun _ => hd, Around.frames_deeper e0.frames, .inr ⟨rfl, rfl⟩, fun b z => absurd z (noA b), e0.bs, e0.bsz, fun b _ _ => noA b, fun b z => absurd z (noA b), e0.funs, e0.frf, e0.tabs⟩,
    rfl, e0.bare, Un.kept hk, ⟨_, x.toInCall.ns, fun i y v h1 h2 h3 => ?_⟩, fun y c h => ⟨_, x.cell y c h⟩, e0.hok.fresh (Nat.le_refl _), fun y c h => ?_, fun p hp => absurd (show p ∈ ([] : List (Addr × Obj)) from hp) (by simp), e0.hok.kept hk, ?_⟩
  · exact name_of_addr x.apart (PySem.mem_of_lookup h1) (PySem.mem_of_lookup h2)
  · have hy : scope.names.lookup y = some .cell ∨ scope.names.lookup y = some .free := hy
    rcases hy with hy | hy
    · exact cell_has hy
    · exact absurd rfl (S.nofree _ (PySem.mem_of_lookup hy))
  · exact Nat.le_of_lt (x.above y c (PySem.mem_of_lookup h))
  · have hi : i < vs.length := by
      unfold start at h2
      by_cases hi : i < vs.length
      · exact hi
      · rw [List.getElem?_append_right (by simpa using hi)] at h2
        rw [List.getElem?_replicate] at h2
        split at h2 <;> cases h2
    have ha : vs[i]? = some v := by
      unfold start at h2
      rw [List.getElem?_append_left (by simpa using hi), List.getElem?_map] at h2
      cases e : vs[i]? with
      | none => rw [e] at h2; cases h2
      | some a => rw [e] at h2; cases h2; rfl
    obtain ⟨u, hu, rv⟩ := r.get ha
    have hp : ps[i]? = some y := by
      rw [← S.pre, List.getElem?_take_of_lt (by omega)]; exact h1
    have ndP : ps.Nodup := by rw [← S.pre]; exact S.nd.sublist (List.take_sublist _ _)
    refine ⟨u, rv, ?_⟩
    rcases S.par y (List.mem_of_getElem? hp) with k | k
    · exact .inl ⟨k, bindL_get ndP hp hu k⟩
    · obtain ⟨c, e⟩ := cell_has (n := s.heap.objs.size + 1) k
      refine .inr ⟨.inl k, c, e, ?_⟩
      have q := x.cell y c e
      rw [bindC_get ndP hp hu (by show scope.names.lookup y ≠ _; rw [k]; decide)] at q
      exact q
  · exact e0.hok.fresh (Nat.le_of_lt (x.above y c (PySem.mem_of_lookup h)))
  · unfold start
    show _ = N.length
    rw [List.length_append, List.length_map, List.length_replicate]
    omega
theorem fn_of {CX : CXT} {P : Program} {w : World} {K : PySem.W.Frag} {mg : Str → Option Value} {base : Heap} {k : Nat} {f : Addr} {name qual : Str} {params : Arguments} {body : List Stmt} {scope : Scope} {dV kV doc pm cdv ct oc : Value} {an od : Option Addr}
    {osl : Array (Option Value)} {N ps : List Str} {sp : Sp} (lk : K.lookup f = some ⟨oc, od, .func (PySem.W.fnOf name qual params body scope dV kV doc pm an cdv ct), osl⟩) (hcd : PySem.W.codeIn K cdv qual = true) (S : FnScope N ps scope)
    (len : ∀ vs H Q E, sp vs H Q E → vs.length = ps.length)
    (hbody : ∀ (A : Around) (outer : List Env) (s : Shared) (H : Hp) (vs : List V) (Q : VK) (E : XK), Room k (A.deeper (envOfC qual scope s.heap.objs.size f cdv)) → sp vs H Q E →
      ∃ t, PSs (cxOf CX P w K mg base N qual scope f cdv A outer s H E) body t ∧ t { nx := fun _ H' => Q .non H', rt := Q } (start N vs) H) :
    FnOk P w K mg base CX (k + 1) f (PySem.W.fnOf name qual params body scope dV kV doc pm an cdv ct) ps sp := by
  refine ⟨len, fun A outer s H args us vs Q E hr e0 hb r hsp => ?_⟩
  have hl := len _ _ _ _ hsp
  have KX : K.In s.heap := e0.mod.kin.keeps fun b o e => (e0.bs b o e).1
  have lim : s.heap.NoLimit := e0.mod.nolimit.keeps fun b o e => (e0.bs b o e).1
  have hkind : ∀ y ∈ ps.zip us, scope.names.lookup y.1 = some .local ∨ (scope.names.lookup y.1 = some .cell ∧ ((cellsFrom (s.heap.objs.size + 1) scope.names []).lookup y.1).isSome = true) := fun ⟨n, v⟩ hy => by
    rcases S.par n (List.of_mem_zip hy).1 with q | q
    · exact .inl q
    · exact .inr ⟨q, PySem.W.cellsFrom_some _ _ _ (.inl q)⟩
  refine codeAny_call_function hr.depth (KX _ _ lk) rfl S.co S.gen rfl (PySem.W.codeRec_of KX hcd) (hb _ _ _ _ ?_)
  refine wpAny_newFunctionEnv_cells S.kind hkind fun env he s1 x => ?_
  subst he
  refine ⟨lim.keeps x.toInCall.keep, codeAny_func ?_⟩
  obtain ⟨t, ht, hq⟩ := hbody A outer s H vs Q E (hr.deeper _) hsp
  have I : Inv (cxOf CX P w K mg base N qual scope f cdv A outer s H E) [] (start N vs) H s1 := inv_start S hr.hd e0 hl r x
  refine wpAny_mono (ht [] s1 (start N vs) H _ I hq) (fun fl s' hs => ?_) fun e s' hs => hs
  have fin : ∀ {σ' : St} {H' : Hp} {v : V} {u : Value}, Inv (cxOf CX P w K mg base N qual scope f cdv A outer s H E) [] σ' H' s' → RelV v u → Q v H' → CE outer P w H s Q u s' :=
    fun {σ' H' v u} J rv q => ⟨v, H', J.os, J.bare, J.base, J.hok, rv, q⟩
  cases fl with
  | ret u =>
    obtain ⟨v, σ', H', J, rv, q⟩ := hs
    exact fin J rv q
  | next =>
    obtain ⟨σ', H', J, q⟩ := hs
    exact fin (v := V.non) (u := Value.none) J rfl q
  | brk =>
    obtain ⟨_, _, _, q⟩ := hs
    exact False.elim q
  | cont =>
    obtain ⟨_, _, _, q⟩ := hs
    exact False.elim q
end L2
namespace L2
open PySem PySem.Spec PyProof.Rows
section
variable {X : Cx} {x : Str} {p pos : Pos} {e : Expr} {es : List Expr} {t : TA} {id T : String} {r : List V → Hp → VK → Prop}
def tCB (r : List V → Hp → VK → Prop) (t : TA) : TE := fun σ H Q => t σ H fun vs H1 => r vs H1 Q
theorem pe_callB (hc : CallR X (.builtin id) r) (hg : Gl X x) (hm : X.mg x = none) (hv : bootBuiltins x = some (.builtin id)) (ha : PA X (e :: es) t) (hn : x ≠ "__name__" := by decide) (hdb : (x == ("__debug__" : Str)) = false := by decide)
    (he : starEach (e :: es) X.env = (false, eval e X.env) :: starEach es X.env := by rfl) (hpl : (backTo pos (starEach es X.env)).any (·.1) = false := by rfl) : PE X (.Call (.Name x p) (e :: es) [] pos) (tCB r t) := by
  intro pins s σ H Q I h
  refine wpAny_Call_Name_kw (ld_blt I hg hm hv ?_ hn hdb)
  exact PyProof.Rows.callWith_builtin1 (thn (ha pos pins s σ H _ I h) fun us s1 ⟨vs, H1, I1, r1, q1⟩ => hc pins s1 σ H1 vs us Q I1 r1 q1) he hpl
theorem pe_callTy (hc : CallR X (.type T) r) (hg : Gl X x) (hm : X.mg x = none) (hv : bootBuiltins x = some (.type T)) (ha : PA X (e :: es) t) (hn : x ≠ "__name__" := by decide) (hdb : (x == ("__debug__" : Str)) = false := by decide)
    (he : starEach (e :: es) X.env = (false, eval e X.env) :: starEach es X.env := by rfl) (hpl : (backTo pos (starEach es X.env)).any (·.1) = false := by rfl) : PE X (.Call (.Name x p) (e :: es) [] pos) (tCB r t) := by
  intro pins s σ H Q I h
  refine wpAny_Call_Name_kw (ld_blt I hg hm hv ?_ hn hdb)
  exact PyProof.Rows.callWith_type1 (thn (ha pos pins s σ H _ I h) fun us s1 ⟨vs, H1, I1, r1, q1⟩ => hc pins s1 σ H1 vs us Q I1 r1 q1) he hpl
end
end L2
namespace HT
open PySem PyProof.Rows
end HT
namespace L2
open PySem PySem.Spec PyProof.Rows
theorem intsAre_of {ns : List Int} : ∀ {us : List Value}, Vals (ns.map V.int) us → IntsAre us ns := by
  induction ns with
  | nil => intro us r; rw [List.map_nil] at r; cases r; exact .nil
  | cons n ns ih =>
    intro us r
    rw [List.map_cons] at r
    cases r with
    | cons r1 r2 =>
      obtain ⟨t, e⟩ := r1
      subst e
      exact .cons n t (ih r2)
end L2
namespace L2
open PySem PySem.Spec PyProof.Rows
def ixN (n : Nat) (i : Int) : Option Nat := if 0 ≤ i then (if i < n then some i.toNat else none) else if -(n : Int) ≤ i then some (i + n).toNat else none
def atI {α : Type} (xs : List α) (i : Int) : Option α := (ixN xs.length i).bind fun j => xs[j]?
theorem ixN_seq {n : Nat} {i : Int} {j : Nat} (h : ixN n i = some j) : seqIndex? i n = some j ∧ j < n ∧ -(n : Int) ≤ i ∧ i < n := by
  unfold ixN at h
  by_cases h0 : 0 ≤ i
  · rw [if_pos h0] at h
    by_cases h1 : i < n
    · rw [if_pos h1] at h
      have e : i.toNat = j := Option.some.inj h
      exact ⟨by rw [seqIndex_of h0 h1, e], by omega, by omega, h1⟩
    · rw [if_neg h1] at h; cases h
  · rw [if_neg h0] at h
    by_cases h1 : -(n : Int) ≤ i
    · rw [if_pos h1] at h
      have e : (i + n).toNat = j := Option.some.inj h
      exact ⟨by rw [seqIndex_neg (by omega) h1, e], by omega, h1, by omega⟩
    · rw [if_neg h1] at h; cases h
theorem atI_get {α : Type} {xs : List α} {i : Int} {v : α} (h : atI xs i = some v) : ∃ j, seqIndex? i xs.length = some j ∧ xs[j]? = some v ∧ j < xs.length ∧ -(xs.length : Int) ≤ i ∧ i < xs.length := by
  unfold atI at h
  cases e : ixN xs.length i with
  | none => rw [e] at h; cases h
  | some j =>
    rw [e] at h
    obtain ⟨h1, h2, h3, h4⟩ := ixN_seq e
    exact ⟨j, h1, h, h2, h3, h4⟩
theorem atI_nat {α : Type} {xs : List α} {j : Nat} {v : α} (h : xs[j]? = some v) : atI xs (j : Int) = some v := by
  have hj : j < xs.length := (List.getElem?_eq_some_iff.mp h).1
  have e : ixN xs.length (j : Int) = some j := by
    unfold ixN
    rw [if_pos (by omega), if_pos (by omega)]; simp
  unfold atI; rw [e]; exact h
def PlainIx (b : Expr) : Prop := ∀ o i, subscripted b false o i = operate [o, i] (getItem o i)
def IxR (X : Cx) (r : R2) : Prop :=
  ∀ (value slice : Expr) (pins : List (Addr × Obj)) (s : Shared) (σ : St) (H : Hp) (x y : V) (v u : Value) (Q : VK), Inv X pins σ H s → RelV x v → RelV y u → r x y H Q →
    subscripted slice false v u = operate [v, u] (getItem v u) → wpAny (model X.prog X.w) X.A (subscriptTail value slice v u) (EP X pins σ Q) X.xe s
def MtR (X : Cx) (id : String) (r : V → List V → Hp → VK → Prop) : Prop :=
  ∀ (pins : List (Addr × Obj)) (s : Shared) (σ : St) (H : Hp) (x : V) (xs : List V) (v : Value) (us : List Value) (Q : VK), Inv X pins σ H s → RelV x v → Vals xs us → r x xs H Q →
    wpAny (model X.prog X.w) X.A (call (.builtin id) (v :: us)) (EP X pins σ Q) X.xe s
section
variable {X : Cx} {a b : Expr} {ta tb : TE} {pos : Pos}
theorem pe_ix {r : R2} (hr : IxR X r) (ha : PE X a ta) (hb : PE X b tb) (hs : PlainIx b) : PE X (.Subscript a b pos) (tOp r ta tb) := by
  intro pins s σ H Q I h
  exact Subscript_ (binT ha hb I h fun v u s2 x y H2 I2 rx ry q => hr a b pins s2 σ H2 x y v u Q I2 rx ry q (hs _ _))
def rIxL (K : PySem.W.Frag) : R2 := fun x y H Q => ∃ p xs i v, x = .ref p ∧ y = .int i ∧ SqL K H p xs ∧ atI xs i = some v ∧ Q v H
def rIxT (K : PySem.W.Frag) : R2 := fun x y H Q => ∃ p xs i v, x = .ref p ∧ y = .int i ∧ SqT K H p xs ∧ atI xs i = some v ∧ Q v H
theorem ix_list : IxR X (rIxL X.K) := by
  intro value slice pins s σ H x y v u Q I rx ry h hs
  obtain ⟨p, xs, i, z, rfl, rfl, hq, he, q⟩ := h
  cases rx
  obtain ⟨t, rfl⟩ := ry
  obtain ⟨its, r, pl, hz⟩ := I.list hq
  obtain ⟨j, h1, h2, h3, h4, h5⟩ := atI_get he
  obtain ⟨w, ew, rw'⟩ := r.get h2
  have hl := r.length
  have hn := line63
  have fin : EP X pins σ Q w s := ⟨z, H, I, rw', q⟩
  by_cases h0 : 0 ≤ i
  · have hj : i.toNat = j := by
      rw [seqIndex_of h0 h5] at h1
      exact Option.some.inj h1
    exact item_listR pl.isList h0 (by omega) (by rw [hj]; simpa using ew) fin hs
  · have hj : (i + (its.toArray.size : Int)).toNat = j := by
      rw [seqIndex_neg (by omega) h4] at h1
      rw [List.size_toArray, ← hl]
      exact Option.some.inj h1
    exact subscriptTail_builtinR (x := w) pl.isList.typeIs slot_list_getitem.lookup
      (wpAny_getItem_list_neg (Q := fun r s' => r = w ∧ EP X pins σ Q r s') pl.isList (by omega) (by rw [List.size_toArray] <;> omega) (by omega) (by rw [hj]; simpa using ew) ⟨rfl, fin⟩) hs
theorem ix_tup : IxR X (rIxT X.K) := by
  intro value slice pins s σ H x y v u Q I rx ry h hs
  obtain ⟨p, xs, i, z, rfl, rfl, hq, he, q⟩ := h
  cases rx
  obtain ⟨t, rfl⟩ := ry
  obtain ⟨its, r, pl, hz⟩ := I.tuple hq
  obtain ⟨j, h1, h2, h3, h4, h5⟩ := atI_get he
  obtain ⟨w, ew, rw'⟩ := r.get h2
  have hl := r.length
  have hn := line63
  have fin : EP X pins σ Q w s := ⟨z, H, I, rw', q⟩
  exact subscriptTail_builtinR (x := w) pl.typeIs slot_tuple_getitem.lookup
    (getItem_tuple (j := j) (Q := fun r s' => r = w ∧ EP X pins σ Q r s') pl (by omega) (by omega) (by rw [List.size_toArray, ← hl]; exact h1) (by simpa using ew) ⟨rfl, fin⟩) hs
def flatV : V → Bool
  | .non => true
  | .bl _ => true
  | .int _ => true
  | .str _ => true
  | _ => false
def eqV : V → V → Bool
  | .non, .non => true
  | .bl a, .bl b => a == b
  | .bl a, .int b => (if a then 1 else 0) == b
  | .int a, .bl b => a == (if b then 1 else 0)
  | .int a, .int b => a == b
  | .str a, .str b => a == b
  | _, _ => false
theorem eqAt_V {A : Around} {s : Shared} {y x : V} {u v : Value} (ry : RelV y u) (rx : RelV x v) (fy : flatV y = true) (fx : flatV x = true) : SeqAt.EqAt A s u v (eqV y x) := by
  cases y with
  | non =>
    cases ry
    cases x with
    | non => cases rx; exact SeqAt.EqAt.same _
    | bl b => cases rx; exact SeqAt.EqAt.none_bool b
    | int b => obtain ⟨t, rfl⟩ := rx; exact SeqAt.EqAt.none_int b t
    | str b => obtain ⟨t, rfl⟩ := rx; exact SeqAt.EqAt.none_str b t
    | _ => exact absurd (show false = true from fx) Bool.false_ne_true
  | bl a =>
    cases ry
    cases x with
    | non => cases rx; exact SeqAt.EqAt.bool_none a
    | bl b => cases rx; exact SeqAt.EqAt.bool_bool a b
    | int b => obtain ⟨t, rfl⟩ := rx; exact SeqAt.EqAt.bool_int a b t
    | str b => obtain ⟨t, rfl⟩ := rx; exact SeqAt.EqAt.bool_str a b t
    | _ => exact absurd (show false = true from fx) Bool.false_ne_true
  | int a =>
    obtain ⟨t', rfl⟩ := ry
    cases x with
    | non => cases rx; exact SeqAt.EqAt.int_none a t'
    | bl b => cases rx; exact SeqAt.EqAt.int_bool a t' b
    | int b => obtain ⟨t, rfl⟩ := rx; exact SeqAt.EqAt.int_int a t' b t
    | str b => obtain ⟨t, rfl⟩ := rx; exact SeqAt.EqAt.int_str a t' b t
    | _ => exact absurd (show false = true from fx) Bool.false_ne_true
  | str a =>
    obtain ⟨t', rfl⟩ := ry
    cases x with
    | non => cases rx; exact SeqAt.EqAt.str_none a t'
    | bl b => cases rx; exact SeqAt.EqAt.str_bool a t' b
    | int b => obtain ⟨t, rfl⟩ := rx; exact SeqAt.EqAt.str_int a t' b t
    | str b => obtain ⟨t, rfl⟩ := rx; exact SeqAt.EqAt.str_str a t' b t
    | _ => exact absurd (show false = true from fx) Bool.false_ne_true
  | _ => exact absurd (show false = true from fy) Bool.false_ne_true
theorem call_len_seq : CallR X (.builtin "len") (fun xs H Q => ∃ p ys, xs = [.ref p] ∧ (SqL X.K H p ys ∨ SqT X.K H p ys) ∧ Q (.int ys.length) H) := by
  intro pins s σ H xs us Q I r h
  obtain ⟨p, ys, rfl, hq, q⟩ := h
  obtain ⟨u, rfl, rx⟩ := vals1 r
  cases rx
  have hn := line63
  rcases hq with hq | hq
  · obtain ⟨its, r', pl, hz⟩ := I.list hq
    have hlen := r'.length
    exact Calls.call_len_list pl.isList (by simp only [List.size_toArray] <;> omega) ⟨.int ys.length, H, I.tok _, ⟨s.toks + 1, by rw [List.size_toArray, hlen]⟩, q⟩
  · obtain ⟨its, r', pl, hz⟩ := I.tuple hq
    have hlen := r'.length
    exact len_tuple pl (by simp only [List.size_toArray] <;> omega) ⟨.int ys.length, H, I.tok _, ⟨s.toks + 1, by rw [List.size_toArray, hlen]⟩, q⟩
def tyV (K : PySem.W.Frag) (T : String) (x : V) (H : Hp) : Prop := match x with
  | .str _ => T = "str"
  | .int _ => T = "int"
  | .ref p => (T = "list" ∧ ∃ xs, SqL K H p xs) ∨ (T = "tuple" ∧ ∃ o, K.lookup p = some o ∧ o.cls = .type "tuple" ∧ o.dict = none) ∨
      (T = "dict" ∧ ((∃ kvs, H p = some (.dK kvs)) ∨ ∃ kvs, H p = some (.dT kvs))) ∨ (T = "set" ∧ ∃ S n, H p = some (.set S n))
  | _ => False
theorem tyV_is {pins : List (Addr × Obj)} {σ : St} {H : Hp} {s : Shared} {T : String} {x : V} {v : Value} (I : Inv X pins σ H s) (r : RelV x v) (ty : tyV X.K T x H) :
    s.TypeIs v T ∧ ∀ a, v = .ref a → ∃ ob, s.heap.get? a = some ob ∧ ob.dict = none := by
  cases x with
  | str z =>
    obtain ⟨t, rfl⟩ := r
    cases (show T = "str" from ty)
    exact ⟨typeIs_str s z t, fun _ e => nomatch e⟩
  | int i =>
    obtain ⟨t, rfl⟩ := r
    cases (show T = "int" from ty)
    exact ⟨typeIs_int s i t, fun _ e => nomatch e⟩
  | ref p =>
    cases r
    rcases ty with ⟨rfl, xs, hq⟩ | ⟨rfl, o, hk, hc, hd⟩ | ⟨rfl, hk⟩ | ⟨rfl, S, n, hk⟩
    · obtain ⟨its, _, pl, _⟩ := I.list hq
      refine ⟨pl.isList.typeIs, fun a e => ?_⟩
      cases e
      obtain ⟨o, n, e, c, hd, _⟩ := pl
      exact ⟨o, e, hd⟩
    · refine ⟨⟨o, I.kIn p o hk, hc⟩, fun a e => ?_⟩
      cases e
      exact ⟨o, I.kIn _ o hk, hd⟩
    · have z : ∃ o, s.heap.get? p = some o ∧ o.ExactDict := by
        rcases hk with ⟨kvs, hk⟩ | ⟨kvs, hk⟩
        · obtain ⟨_, _, _, _, o, _, _, e, ex, _⟩ := I.hok p _ hk
          exact ⟨o, e, ex⟩
        · obtain ⟨_, _, _, _, o, _, _, e, ex, _⟩ := I.hok p _ hk
          exact ⟨o, e, ex⟩
      obtain ⟨o, e, ex⟩ := z
      refine ⟨⟨o, e, ex.1⟩, fun a e2 => ?_⟩
      cases e2
      exact ⟨o, e, ex.2.1⟩
    · obtain ⟨o, _, _, _, e, ex, _⟩ := I.hok p _ hk
      refine ⟨⟨o, e, ex.1⟩, fun a e2 => ?_⟩
      cases e2
      exact ⟨o, e, ex.2.1⟩
  | _ => exact False.elim ty
def tBM (K : PySem.W.Frag) (T : String) (r : V → List V → Hp → VK → Prop) (to : TE) (t : TA) : TE := fun σ H Q => to σ H fun x H1 => tyV K T x H1 ∧ t σ H1 fun xs H2 => r x xs H2 Q
variable {o e : Expr} {es : List Expr} {to : TE} {t : TA} {name : Str} {apos cpos : Pos} {T id : String} {r : V → List V → Hp → VK → Prop}
theorem pe_bm (pa : PlainAttrs T) (slot : Slot T name id) (hty : typeOf (.builtin id) = pure (.type "method_descriptor")) (hm : MtR X id r) (ho : PE X o to) (ha : PA X (e :: es) t)
    (hbase : attributeBase o name X.env (eval o X.env) = eval o X.env := by rfl)
    (hfew : ((backTo cpos (starEach (e :: es) X.env)).all (fun x => !x.1) && (backToKw cpos (keywordEach [] X.env)).all (fun x => x.1.isSome)
      && decide ((e :: es).length + ([] : List Keyword).length + (if ([] : List Keyword).isEmpty then 0 else 1) < 30)) = true := by rfl)
    (hline : (apos.endLine == cpos.line) = true := by rfl) (hs : starEach (e :: es) X.env = (false, eval e X.env) :: starEach es X.env := by rfl) (hplain : (backTo cpos (starEach es X.env)).any (·.1) = false := by rfl) :
    PE X (.Call (.Attribute o name apos) (e :: es) [] cpos) (tBM X.K T r to t) := by
  intro pins s σ H Q I h
  refine wpAny_Call_method_late hbase hfew hline rfl (thn (ho pins s σ H _ I h) fun v s1 ⟨x, H1, I1, r1, ty, q1⟩ => ?_)
  obtain ⟨h1, h2⟩ := tyV_is I1 r1 ty
  refine ⟨T, id, pa, slot, hty, h1, h2, ?_⟩
  have hA := ha cpos pins s1 σ H1 _ I1 q1
  rw [hs] at hA ⊢
  refine Calls.callWith_builtin (by show (false || (backTo cpos (starEach es X.env)).any (·.1)) = false; rw [hplain] <;> rfl) (Calls.evalArgs_plain ?_)
  exact thn hA fun us s2 ⟨vs, H2, I2, r2, q2⟩ => hm pins s2 σ H2 x vs v us Q I2 r1 r2 q2
end
end L2
namespace L2
open PySem PySem.Spec PyProof.Rows
def MtM (X : Cx) (id : String) (r : V → List V → Hp → VK → Prop) : Prop :=
  ∀ (pins : List (Addr × Obj)) (s : Shared) (σ : St) (H : Hp) (x : V) (xs : List V) (v : Value) (us : List Value) (Q : VK), Inv X pins σ H s → RelV x v → Vals xs us → r x xs H Q →
    wpAny (model X.prog X.w) X.A (call (.builtin id) (v :: us)) (EP X pins σ Q) X.xe s
theorem Vals.one : ∀ {x : V} {us : List Value}, Vals [x] us → ∃ u, us = [u] ∧ RelV x u
  | _, _, .cons r .nil => ⟨_, rfl, r⟩
theorem Vals.eraseIdx : ∀ {xs : List V} {us : List Value} (i : Nat), Vals xs us → Vals (xs.eraseIdx i) (us.eraseIdx i)
  | _, _, _, .nil => .nil
  | _, _, 0, .cons _ t => t
  | _, _, i + 1, .cons r t => .cons r (Vals.eraseIdx i t)
theorem len_erase {α : Type} : ∀ (l : List α) (i : Nat), (l.eraseIdx i).length ≤ l.length
  | [], _ => Nat.le_refl _
  | _ :: _, 0 => Nat.le_succ _
  | _ :: r, i + 1 => Nat.succ_le_succ (len_erase r i)
section
variable {X : Cx} {pins : List (Addr × Obj)} {σ : St} {H : Hp} {s : Shared} {l b : Addr} {xs ys zs : List V}
theorem Inv.lset {its its' : List Value} {n : Nat} {f : Array Value → Array Value} {t' : Nat} (I : Inv X pins σ H s) (hH : H l = some (.lst xs))
    (e : s.heap.get? l = some { cls := .type "list", data := .seq its.toArray n }) (hf : f its.toArray = its'.toArray) (hv : Vals ys its') (hz : ys.length ≤ sizeLine) :
    Inv X pins σ (upd H l (.lst ys)) { s with heap := s.heap.update l (Obj.mapSeq f), toks := t' } := by
  have q := PySem.IsL.update e f
  rw [hf] at q
  refine I.write (x := l) (e := l) (by rw [hH]; exact trivial) (.inl rfl) (fun b' u hb hu => (Heap.get?_update_other s.heap (Obj.mapSeq f) (Ne.symm hb)).trans hu) ⟨_, q⟩ ?_
  exact ⟨hz, its', _, hv, q⟩
theorem Inv.lnew {its : List Value} {t' : Nat} (I : Inv X pins σ H s) (hv : Vals ys its) (hz : ys.length ≤ sizeLine) :
    Inv X pins σ (upd H s.heap.objs.size (.lst ys)) { s with heap := s.heap.push { cls := .type "list", data := .seq its.toArray }, toks := t' } :=
  I.laid (fun _ _ q => Heap.get?_push_of_some _ q) (Nat.le_refl _) ⟨hz, its, 0, hv, Heap.get?_push_size _ rfl⟩
theorem Inv.fresh (I : Inv X pins σ H s) : H s.heap.objs.size = none := I.hok.fresh (Nat.le_refl _)
theorem Inv.lstM (I : Inv X pins σ H s) (hH : H l = some (.lst xs)) : xs.length ≤ sizeLine ∧ ∃ (its : List Value) (n : Nat), Vals xs its ∧ xs.length = its.length ∧ s.heap.get? l = some { cls := .type "list", data := .seq its.toArray n } := by
  obtain ⟨z, its, n, r, e⟩ := I.hok l _ hH
  exact ⟨z, its, n, r, r.length, e⟩
theorem notLongL {n : Nat} (h : n ≤ sizeLine) : Builtin.List.listTooLong n = false := by
  unfold Builtin.List.listTooLong
  exact decide_eq_false (by omega)
end
section
variable {X : Cx}
def rAppend : V → List V → Hp → VK → Prop := fun x vs H Q => ∃ l xs y, x = .ref l ∧ vs = [y] ∧ H l = some (.lst xs) ∧ xs.length < sizeLine ∧ Q .non (upd H l (.lst (xs ++ [y])))
theorem mt_append : MtM X "list.append" rAppend := by
  intro pins s σ H x vs v us Q I rx rv h
  obtain ⟨l, xs, y, rfl, rfl, hH, hz, q⟩ := h
  cases rx
  obtain ⟨u, rfl, ru⟩ := rv.one
  obtain ⟨z, its, n, r, hl, e⟩ := I.lstM hH
  refine call_meets F.slot_list_append ⟨_, e, rfl⟩ F.entry_list_append (F.args_list_append_2 _ _) (PySem.list_append l its.toArray n u (by rw [List.size_toArray]; omega)) ⟨e, ?_⟩
  refine ⟨.non, _, I.lset (its' := its ++ [u]) hH e (by simp) (r.append (.cons ru .nil)) ?_, rfl, q⟩
  rw [List.length_append, List.length_singleton]
  omega
def rExtend : V → List V → Hp → VK → Prop := fun x vs H Q => ∃ l b xs zs, x = .ref l ∧ vs = [.ref b] ∧ H l = some (.lst xs) ∧ H b = some (.lst zs) ∧ xs.length + zs.length ≤ sizeLine ∧ Q .non (upd H l (.lst (xs ++ zs)))
theorem mt_extend : MtM X "list.extend" rExtend := by
  intro pins s σ H x vs v us Q I rx rv h
  obtain ⟨l, b, xs, zs, rfl, rfl, hH, hB, hz, q⟩ := h
  cases rx
  obtain ⟨u, rfl, ru⟩ := rv.one
  cases ru
  obtain ⟨z, its, n, r, hl, e⟩ := I.lstM hH
  obtain ⟨z2, its2, n2, r2, hl2, e2⟩ := I.lstM hB
  have hsz : its.toArray.size + its2.toArray.size ≤ sizeLine := by rw [List.size_toArray, List.size_toArray]; omega
  have hlong : ¬ (!its.toArray.isEmpty && Builtin.List.listTooLong (its.toArray.size + its2.toArray.size)) = true := by
    rw [notLongL hsz, Bool.and_false]
    exact Bool.false_ne_true
  refine call_meets F.slot_list_extend ⟨_, e, rfl⟩ F.entry_list_extend (F.args_list_extend_2 _ _)
    (AutoSeq1.list_extend_list_list_0 l its.toArray n b its2.toArray n2 hlong (by rw [List.size_toArray]; omega) (by omega)) ⟨e, e2, ?_⟩
  refine ⟨.non, _, I.lset (its' := its ++ its2) hH e (by simp) (r.append r2) ?_, rfl, q⟩
  rw [List.length_append]
  omega
def rPopAt : V → List V → Hp → VK → Prop := fun x vs H Q => ∃ l xs i k y, x = .ref l ∧ vs = [.int i] ∧ H l = some (.lst xs) ∧ -(2 ^ 63) ≤ i ∧ i < 2 ^ 63 ∧ seqIndex? i xs.length = some k ∧ xs[k]? = some y ∧ Q y (upd H l (.lst (xs.eraseIdx k)))
theorem mt_popAt : MtM X "list.pop" rPopAt := by
  intro pins s σ H x vs v us Q I rx rv h
  obtain ⟨l, xs, i, k, y, rfl, rfl, hH, h1, h2, hk, hy, q⟩ := h
  cases rx
  obtain ⟨u, rfl, ru⟩ := rv.one
  obtain ⟨t, rfl⟩ := ru
  obtain ⟨z, its, n, r, hl, e⟩ := I.lstM hH
  obtain ⟨w, hw, rw'⟩ := r.get hy
  refine call_meets F.slot_list_pop ⟨_, e, rfl⟩ F.entry_list_pop (F.args_list_pop_2 _ _)
    (MeetsSeq.list_pop_at l its.toArray n i t k w (fitsIndex_both h1 h2) (by rw [List.size_toArray, ← hl]; exact hk) (by rw [← Array.getElem?_toList]; exact hw) (by rw [List.size_toArray]; omega)) ⟨e, ?_⟩
  refine ⟨y, _, I.lset (its' := its.eraseIdx k) hH e ?_ (r.eraseIdx k) ?_, rw', q⟩
  · show its.toArray.eraseIdxIfInBounds k = (its.eraseIdx k).toArray
    rw [List.eraseIdxIfInBounds_toArray]
  · have := len_erase xs k
    omega
end
end L2
namespace Att
open PySem PySem.W PySem.Calls PyProof.Rows
theorem ints_of_wellAll {P : Params} {h : Heap} : ∀ (ns : List Int) (vs : List Value), WellAll P h vs (ns.map WData.int) → IntsAre vs ns := by
  intro ns
  induction ns with
  | nil =>
    intro vs w
    rw [List.map_nil] at w
    cases w
    exact .nil
  | cons n ns ih =>
    intro vs w
    rw [List.map_cons] at w
    cases w with
    | cons a b =>
      cases a
      exact .cons _ _ (ih _ b)
theorem script_of {l : OpenLaw} {n : Nat} (hn : l.most = some n) {P : Params} {h : Heap} {args : List WData} {vals : List Value}
    (hpre : l.row.toRowW.claim.pre args = true) (hwl : WellAll P h vals args) :
    ∃ a vs ns, vals = [Value.ref a] ∧ args = [WData.list (ns.map WData.int)] ∧ h.get? a = some { cls := .type "list", data := .seq vs.toArray } ∧ IntsAre vs ns ∧ ns.length ≤ n := by
  have hsh : WShape.hasAll [] args [.list .int] = true := (pre_splitW hpre).1
  have hc : l.pre.holds [] { args := args } = true := (pre_splitW hpre).2
  obtain ⟨d, r, rfl, h1, h2⟩ := hasAllW_cons hsh
  obtain rfl := hasAllW_nil h2
  obtain ⟨xs, rfl, h3⟩ := hasW_list h1
  obtain ⟨ns, rfl⟩ := items_int h3
  have hlen : ns.length ≤ n := by
    unfold OpenLaw.pre at hc
    have h4 : (WTm.not (.lt (.lit (.int (n : Int))) (.len (.arg 0)))).holds [] { args := [.list (ns.map .int)] } = true := by
      have h4 := (holds_andW hc).1
      rw [hn] at h4
      exact h4
    have h5 := condW_of h4 (w_not (w_lt w_lit (w_len_list (w_arg rfl))))
    rw [List.length_map] at h5
    refine Nat.le_of_not_lt fun q => ?_
    have q' : (n : Int) < ((ns.length : Nat) : Int) := by omega
    first
      | (rw [decide_eq_true q'] at h5; exact absurd h5 (by decide))
      | (simp at h5; omega)
  cases hwl with
  | cons w1 w2 =>
    cases w2
    cases w1 with
    | list ho hall => exact ⟨_, _, ns, rfl, rfl, ho, ints_of_wellAll ns _ hall, hlen⟩
theorem post_true (l : OpenLaw) (args : List WData) : l.row.toRowW.claim.post args (.bool true) args = true :=
  postW_of (r := l.row.toRowW) (X := (true == true))
    (show WShape.has [] (.bool true) .bool = true by first | rfl | decide | simp [WShape.has, WShape.arms, WShape.armsAll])
    (show (WTm.eq .res (.lit (.bool true))).value [] { args := args, res := some (.bool true), after := args } = some (.bool (true == true)) from w_eq_bool (w_res rfl) w_lit) rfl
theorem attach_call {l : OpenLaw} {n : Nat} {q : Program} {loose : List Str} {XP : (Str → Option Value) → Heap → Prop} {YP : World → Heap → Prop} {d : DefRec}
    (hn : l.most = some n) (hdf : d.params.defaults = [])
    (call : ∀ (w : World) (s₀ s₁ : Shared) (mg mb : Str → Option Value) (fa : Addr) (o : Obj) (pm cd doc : Value) (a : Addr) (vs : List Value) (ns : List Int),
      Ground q loose [] XP w s₀ mg mb s₁.heap → YP w s₁.heap →
      s₁.heap.get? fa = some o → o.data = .func (docDef d.name d.params d.body d.scope pm cd doc) → s₁.heap.CodeRec cd d.name → mg d.name = some (.ref fa) →
      s₁.heap.get? a = some { cls := .type "list", data := .seq vs.toArray } → IntsAre vs ns → ns.length ≤ n → s₁.gens = #[] →
      codeAny (model l.prog w) callerA (.call (.ref fa) ⟨[.ref a], []⟩) (fun r s' => r = .ok (.ret (.bool true)) ∧ OldK s₁.heap s'.heap ∧ s'.os = s₁.os ∧ AllBare s'.gens) s₁) :
    WalkO q loose XP YP l.row.toRowW d [] (fun f vs => PySem.call f vs) := by
  intro w s₀ s₁ mg mb G Y fa o pm cd doc dV kV ho hd hcd hD hmg hg args vals as hpre hlay hrd hwl hlo
  obtain rfl : dV = .none := Dflts.none hD hdf
  obtain rfl : kV = .none := Dflts.noKw hD
  obtain ⟨a, vs, ns, rfl, rfl, hobj, hints, hlen⟩ := script_of hn hpre hwl
  refine enter_call (codeAny_mono (call w s₀ s₁ mg mb fa o pm cd doc a vs ns G Y ho (fd_plain hd) hcd hmg hobj hints hlen hg) fun r s' hq => ?_)
  obtain ⟨rfl, h2, h3, h4⟩ := hq
  exact ⟨.inl ⟨.bool true, .bool true, [], rfl, fun _ => rfl, .bool true, post_true l _, fun _ => ⟨List.Pairwise.nil, fun _ hm => (nomatch hm)⟩⟩, h2, h3, h4⟩
end Att
namespace L2
open PySem PySem.Spec PyProof.Rows
theorem vals_ints : ∀ {vs : List Value} {ns : List Int}, IntsAre vs ns → Vals (ns.map V.int) vs
  | _, _, .nil => .nil
  | _, _, .cons n t h => .cons ⟨t, rfl⟩ (vals_ints h)
def scrubO (q : Option Str) (o : Obj) : Obj := match o.data with
  | .freed => match q with
    | some q => ⟨.str q 0, none, .freed, #[]⟩
    | none => ⟨.none, none, .freed, #[]⟩
  | _ => o
def scrub (h : Heap) (ts : Addr → Option Str) : Heap := { h with objs := h.objs.mapIdx fun a o => scrubO (ts a) o }
theorem scrub_size (h : Heap) (ts : Addr → Option Str) : (scrub h ts).objs.size = h.objs.size := by unfold scrub; simp
theorem scrub_at (h : Heap) (ts : Addr → Option Str) (b : Addr) : (scrub h ts).objs[b]? = (h.objs[b]?).map fun o => scrubO (ts b) o := by unfold scrub; simp
theorem scrub_get (h : Heap) (ts : Addr → Option Str) (b : Addr) : (scrub h ts).get? b = h.get? b := by
  unfold Heap.get?
  rw [scrub_at]
  cases h.objs[b]? with
  | none => rfl
  | some o =>
    obtain ⟨c, d, da, sl⟩ := o
    cases da <;> first | rfl | (cases ts b <;> rfl)
theorem scrub_mark {h : Heap} {ts : Addr → Option Str} {P : Addr} {q : Str} (e : (scrub h ts).objs[P]? = some ⟨.str q 0, none, .freed, #[]⟩) : ts P = some q := by
  rw [scrub_at] at e
  cases z : h.objs[P]? with
  | none => rw [z] at e; cases e
  | some o =>
    rw [z] at e
    obtain ⟨c, d, da, sl⟩ := o
    cases da <;> first | (simp [scrubO] at e; done) | (cases y : ts P <;> rw [y] at e <;> simp [scrubO] at e; subst e; rfl)
theorem scrub_marked {h : Heap} {ts : Addr → Option Str} {P : Addr} {q : Str} (e : ts P = some q) (hl : P < h.objs.size) (hn : h.get? P = none) : (scrub h ts).objs[P]? = some ⟨.str q 0, none, .freed, #[]⟩ := by
  rw [scrub_at, e]
  unfold Heap.get? at hn
  rw [Array.getElem?_eq_getElem hl] at hn ⊢
  generalize h.objs[P] = o at hn ⊢
  obtain ⟨c, d, da, sl⟩ := o
  cases da <;> first | rfl | cases hn
def hidS (h : Heap) (H : Hp) (ts : Addr → Option Str) : Heap := scrub (hidT h H) ts
theorem hidS_size (h : Heap) (H : Hp) (ts : Addr → Option Str) : (hidS h H ts).objs.size = h.objs.size := (scrub_size _ _).trans (hidT_size _ _)
theorem hidS_get {h : Heap} {H : Hp} {ts : Addr → Option Str} {b : Addr} {o : Obj} (e : h.get? b = some o) (n : H b = none) : (hidS h H ts).get? b = some o := (scrub_get _ _ _).trans (hidT_get e n)
theorem of_hidS {h : Heap} {H : Hp} {ts : Addr → Option Str} {b : Addr} {o : Obj} (e : (hidS h H ts).get? b = some o) : h.get? b = some o ∧ H b = none := of_hidT ((scrub_get _ _ _).symm.trans e)
theorem hidT_none {h : Heap} {H : Hp} {b : Addr} (hb : H b ≠ none) : (hidT h H).get? b = none := by
  cases e : (hidT h H).get? b with
  | none => rfl
  | some o => exact absurd (of_hidT e).2 hb
end L2
namespace L2
open PySem PySem.Spec PyProof.Rows
abbrev KOf {K : PySem.W.Frag} {h : Heap} (_ : K.In h) : PySem.W.Frag := K
end L2
namespace L2
open PySem PySem.Spec PyProof.Rows
def inClass (s : Stmt) (j : Nat) : Stmt := match s with
  | .ClassDef _ _ _ body _ _ _ _ _ _ _ => body.getD j (.Pass ⟨0, 0, 0, 0⟩)
  | _ => .Pass ⟨0, 0, 0, 0⟩
def defArgs (s : Stmt) : Arguments := match s with
  | .FunctionDef _ a _ _ _ _ _ _ _ _ => a
  | _ => { posonlyargs := [], args := [], vararg := none, kwonlyargs := [], kw_defaults := [], kwarg := none, defaults := [] }
def defBody (s : Stmt) : List Stmt := match s with
  | .FunctionDef _ _ b _ _ _ _ _ _ _ => b
  | _ => []
def defScope (s : Stmt) : Scope := match s with
  | .FunctionDef _ _ _ _ _ _ sc _ _ _ => sc
  | _ => { kind := .function, names := [], isGenerator := false, isCoroutine := false }
abbrev CX0 : CXT := fun _ _ _ _ _ _ => False
abbrev E0 : XK := fun _ _ _ => False
theorem pass0 {X : Cx} : Passes CX0 X E0 := fun _ _ _ _ _ _ _ h => h.elim
structure Fun (K : PySem.W.Frag) (x qual : Str) (st : Stmt) (f : Addr) (fd : FuncData) : Prop where
  ex : ∃ (oc : Value) (od : Option Addr) (kV doc pm : Value) (an : Option Addr) (cdv ct : Value) (osl : Array (Option Value)),
    fd = PySem.W.fnOf x qual (defArgs st) (defBody st) (defScope st) .none kV doc pm an cdv ct ∧ K.lookup f = some ⟨oc, od, .func fd, osl⟩ ∧ PySem.W.codeIn K cdv qual = true
  kp : PySem.W.keepIn K (.ref f) = true
section
variable {P : Program} {w : World} {K : PySem.W.Frag} {mg : Str → Option Value} {base : Heap}
theorem Fun.ok {x qual : Str} {st : Stmt} {f : Addr} {fd : FuncData} {N ps : List Str} {k : Nat} {sp : Sp} (F : Fun K x qual st f fd) (S : FnScope N ps (defScope st)) (len : ∀ vs H Q E, sp vs H Q E → vs.length = ps.length)
    (hbody : ∀ (cdv : Value) (A : Around) (outer : List Env) (s : Shared) (H : Hp) (vs : List V) (Q : VK) (E : XK), Room k (A.deeper (envOfC qual (defScope st) s.heap.objs.size f cdv)) → sp vs H Q E →
      ∃ t, PSs (cxOf CX0 P w K mg base N qual (defScope st) f cdv A outer s H E).nox (defBody st) t ∧ t { nx := fun _ H' => Q .non H', rt := Q } (start N vs) H) : FnOk P w K mg base CX0 (k + 1) f fd ps sp := by
  obtain ⟨oc, od, kV, doc, pm, an, cdv, ct, osl, rfl, lk, hcd⟩ := F.ex
  refine fn_of lk hcd S len fun A outer s H vs Q E hr hsp => ?_
  obtain ⟨t, h, q⟩ := hbody cdv A outer s H vs Q E hr hsp
  exact ⟨t, h.nox, q⟩
theorem Fun.binds {x qual : Str} {st : Stmt} {f : Addr} {fd : FuncData} {ps : List Str} (F : Fun K x qual st f fd)
    (h : ∀ (kV doc pm : Value) (an : Option Addr) (cdv ct : Value) (us : List Value), us.length = ps.length → bindArgs (PySem.W.fnOf x qual (defArgs st) (defBody st) (defScope st) .none kV doc pm an cdv ct) ⟨us, []⟩ = pure (ps.zip us)) : Binds K fd ps [] := by
  obtain ⟨oc, od, kV, doc, pm, an, cdv, ct, osl, rfl, lk, hcd⟩ := F.ex
  exact .all (h kV doc pm an cdv ct)
theorem fun_mk {x qual : Str} {st : Stmt} {f : Addr} {oc : Value} {od an : Option Addr} {osl : Array (Option Value)} {kV doc pm cdv ct : Value} (l : K.lookup f = some ⟨oc, od, .func (PySem.W.fnOf x qual (defArgs st) (defBody st) (defScope st) .none kV doc pm an cdv ct), osl⟩)
    (c : PySem.W.codeIn K cdv qual = true) (k : PySem.W.keepIn K (.ref f) = true) : Fun K x qual st f (PySem.W.fnOf x qual (defArgs st) (defBody st) (defScope st) .none kV doc pm an cdv ct) := ⟨⟨oc, od, kV, doc, pm, an, cdv, ct, osl, rfl, l, c⟩, k⟩
end
theorem hu_of {A : Around} {k : Nat} (hr : Room k A) : A.units + 1 < cLine := Nat.lt_of_le_of_lt (Nat.add_le_add_left (by decide : 1 ≤ 64) _) hr.units
theorem iteF {A B : Prop} (h : B) : if false = true then A else B := by
  rw [if_neg Bool.false_ne_true]
  exact h
theorem iteT {A B : Prop} (h : A) : if true = true then A else B := by
  rw [if_pos rfl]
  exact h
def Same (H H' : Hp) : Prop := ∀ b o, H b = some o → H' b = some o
theorem Same.refl (H : Hp) : Same H H := fun _ _ h => h
theorem Same.trans {H H1 H2 : Hp} (a : Same H H1) (b : Same H1 H2) : Same H H2 := fun c o h => b c o (a c o h)
theorem Same.free {H H' : Hp} (e : Same H H') {l : Addr} (h : H' l = Option.none) : H l = Option.none := by
  cases q : H l with
  | none => rfl
  | some o =>
    rw [e l o q] at h
    cases h
theorem Same.seq {K : PySem.W.Frag} {H H' : Hp} {a : Addr} {xs : List V} (e : Same H H') (h : SqL K H a xs) : SqL K H' a xs := by
  rcases h with (h | ⟨o, h⟩) | h
  · exact .inl (.inl (e _ _ h))
  · exact .inl (.inr ⟨o, e _ _ h⟩)
  · exact .inr h
end L2
namespace L2
open PySem PySem.Spec PyProof.Rows
def clStep (env:Env)(c:List (Str × Addr))(x:Str × NameKind):List (Str × Addr):=if x.2 == .free then (x.1,(env.cells.lookup x.1).getD 0)::c else c
def clOf (scope:Scope)(env:Env):List (Str × Addr):=scope.names.foldl (clStep env) []
theorem zp {α β:Type}{f:α→β→Sem (ForInStep β)}(g:β→α→β):∀(l:List α) (c:β),(∀x∈l,∀c,f x c=pure (.yield (g c x)))→forIn l c f=pure (l.foldl g c)
  | [],_,_=>rfl
  | x::l,c,h=>by
    rw[List.forIn_cons,h x List.mem_cons_self,pure_bind]
    exact zp g l (g c x) fun y hy=>h y (List.mem_cons_of_mem _ hy)
theorem Ja {scope:Scope}{env:Env}(h:∀x∈scope.names,x.2=.free→∃c,env.cells.lookup x.1=some c):closureFor scope env=pure (clOf scope env):=by
  simp only[closureFor]
  rw[zp (clStep env) _ _ (fun x hx c=>by
    obtain⟨n,kind⟩:=x
    cases hk:kind==NameKind.free with
    | false=>simp only[clStep,hk,Bool.false_eq_true,if_false]
    | true =>
      obtain⟨a,ha⟩:=h _ hx (by simpa using hk)
      have hc:cellOf env n=pure a:=by unfold cellOf;rw[ha]
      have ha':env.cells.lookup n=some a:=ha
      simp only[clStep,hk,if_true,hc,pure_bind,ha',Option.getD_some])]
  rfl
theorem YF {env:Env}(x:Str)(c:Addr):∀(l:List (Str × NameKind)) (acc:List (Str × Addr)),(∀y∈l,y.2=.free→∃c,env.cells.lookup y.1=some c)→(∀z c,acc.lookup z=some c→env.cells.lookup z=some c) →
    (l.foldl (clStep env) acc).lookup x=some c→env.cells.lookup x=some c
  | [],acc,_,ha,e=>ha x c e
  | y::l,acc,h,ha,e=>by
    refine YF x c l (clStep env acc y) (fun z hz=>h z (List.mem_cons_of_mem _ hz)) (fun z c' e'=>?_) e
    unfold clStep at e'
    cases hk:y.2==NameKind.free with
    | false=>rw[hk] at e';exact ha z c' (by simpa using e')
    | true =>
      rw[hk,if_pos rfl,List.lookup_cons] at e'
      obtain⟨a,hq⟩:=h y List.mem_cons_self (by simpa using hk)
      cases hz:z==y.1 with
      | true =>
        rw[hz] at e'
        have:z=y.1:=by simpa using hz
        rw[this,hq]
        rw[hq] at e'
        simpa using e'
      | false=>rw[hz] at e';exact ha z c' e'
theorem Jx {env:Env}(x:Str):∀(l:List (Str × NameKind)) (acc:List (Str × Addr)),((acc.lookup x).isSome=true ∨ ∃y∈l,y.1=x∧y.2=.free)→((l.foldl (clStep env) acc).lookup x).isSome=true
  | [],acc,h=>by
    rcases h with h | ⟨y,hy,_⟩
    · exact h
    · simp at hy
  | y::l,acc,h=>by
    refine Jx x l (clStep env acc y) ?_
    unfold clStep
    rcases h with h | ⟨z,hz,e1,e2⟩
    · left
      split
      · rw[List.lookup_cons];split
        · rfl
        · exact h
      · exact h
    · rcases List.mem_cons.mp hz with rfl | hz
      · left
        rw[if_pos (by simp[e2]),List.lookup_cons]
        have:(x==z.1)=true:=by simp[e1]
        rw[this];rfl
      · exact .inr ⟨z,hz,e1,e2⟩
theorem Yo {scope:Scope}{env:Env}(h:∀x∈scope.names,x.2=.free→∃c,env.cells.lookup x.1=some c){x:Str}{c:Addr}(e:(clOf scope env).lookup x=some c):env.cells.lookup x=some c :=
  YF x c scope.names [] h (fun z c e=>by simp at e) e
theorem Jb {scope:Scope}{env:Env}{x:Str}(h:∃y∈scope.names,y.1=x∧y.2=.free):∃c,(clOf scope env).lookup x=some c :=
  Option.isSome_iff_exists.mp (Jx x scope.names [] (.inr h))
def Cx.blk (X:Cx)(N:List Str)(scope:Scope)(C:Addr)(fp:List Addr)(s:Shared)(H:Hp):Cx :=
  { X with N:=N,s₀:=s,H₀:=H,env:=compEnvC scope (clOf scope X.env) C X.env,outer:=X.stack,stack:=X.stack,ex:=fp,fn:=fun _=>false,pn:=[],xe:=fun _ _=>False }
structure BlkScope (N:List Str)(scope:Scope)(out:Scope):Prop where
  kind:scope.kind=.function
  nocell:∀x∈scope.names,x.2 ≠ .cell
  names:∀x∈scope.names,x.2=.local→scope.names.lookup x.1=some .local
  free:∀x∈scope.names,x.2=.free→out.names.lookup x.1=some .cell∨out.names.lookup x.1=some .free
  nd:N.Nodup
  okn:out.kind=.function
theorem Yj {env:Env}{x:Str}{k:NameKind}:∀ {names:List (Str × NameKind)},
    (names.map fun (n,k)=>if (k==NameKind.free&&env.scope.kind == .function&&env.kindOf n==some .cell) then (n,NameKind.cell) else (n,k)).lookup x=some k →
    names.lookup x=some k∨(k=.cell∧names.lookup x=some .free)
  | [],h=>by simp at h
  | (n,k')::r,h=>by
    have ih:=@Yj env x k r
    rw[List.map_cons] at h
    by_cases hc:(k'==NameKind.free&&env.scope.kind == .function&&env.kindOf n==some .cell)=true
    · simp only[hc,if_true] at h
      cases hx:x==n with
      | true =>
        rw[List.lookup_cons,hx] at h ⊢
        right
        have h':=Option.some.inj h
        refine⟨h'.symm,?_⟩
        simp only[Bool.and_eq_true,beq_iff_eq] at hc
        rw[hc.1.1]
      | false=>rw[List.lookup_cons,hx] at h ⊢;exact ih h
    · have hc':(k'==NameKind.free&&env.scope.kind == .function&&env.kindOf n==some .cell)=false:=by simpa using hc
      simp only[hc',Bool.false_eq_true,if_false] at h
      cases hx:x==n with
      | true=>rw[List.lookup_cons,hx] at h ⊢;exact .inl h
      | false=>rw[List.lookup_cons,hx] at h ⊢;exact ih h
theorem Zz {x:Str}{k:NameKind}:∀ {names:List (Str × NameKind)},names.lookup x=some k→(x,k)∈names
  | [],h=>by simp at h
  | (n,k')::r,h=>by
    rw[List.lookup_cons] at h
    cases hx:x==n with
    | true =>
      rw[hx] at h
      have e:x=n:=by simpa using hx
      cases Option.some.inj h
      subst e
      exact List.mem_cons_self
    | false=>rw[hx] at h;exact List.mem_cons_of_mem _ (Zz h)
theorem Jh {env:Env}{x:Str}:∀ {names:List (Str × NameKind)},names.lookup x=some .free →
    (names.map fun (n,k)=>if (k==NameKind.free&&env.scope.kind == .function&&env.kindOf n==some .cell) then (n,NameKind.cell) else (n,k)).lookup x=some .cell ∨
    (names.map fun (n,k)=>if (k==NameKind.free&&env.scope.kind == .function&&env.kindOf n==some .cell) then (n,NameKind.cell) else (n,k)).lookup x=some .free
  | [],h=>by simp at h
  | (n,k')::r,h=>by
    have ih:=@Jh env x r
    rw[List.map_cons]
    rw[List.lookup_cons] at h
    by_cases hc:(k'==NameKind.free&&env.scope.kind == .function&&env.kindOf n==some .cell)=true
    · simp only[hc,if_true]
      cases hx:x==n with
      | true=>left;rw[List.lookup_cons,hx]
      | false=>rw[hx] at h;rw[List.lookup_cons,hx];exact ih h
    · have hc':(k'==NameKind.free&&env.scope.kind == .function&&env.kindOf n==some .cell)=false:=by simpa using hc
      simp only[hc',Bool.false_eq_true,if_false]
      cases hx:x==n with
      | true=>rw[hx] at h;right;rw[List.lookup_cons,hx];exact h
      | false=>rw[hx] at h;rw[List.lookup_cons,hx];exact ih h
section
variable {X:Cx}{pins:List (Addr × Obj)}{σ σ':St}{H H':Hp}{s s':Shared}{N:List Str}{scope:Scope}{C:Addr}{fp:List Addr}
theorem BlkScope.cells (S:BlkScope N scope X.env.scope)(ok:X.Ok):∀x∈scope.names,x.2=.free→∃c,X.env.cells.lookup x.1=some c:=fun x hx hk=>ok.has x.1 (S.free x hx hk)
theorem Inv.enter {h':Heap}{m:Str→Option Value}{t':Nat}(I:Inv X pins σ H s)(S:BlkScope N scope X.env.scope)(hf:∀b∈fp,FpOk X pins H b)(hfs:∀b∈fp,b<s.heap.objs.size)(hC:s.heap.objs.size≤C)
    (hk:∀b o,s.heap.get? b=some o→h'.get? b=some o) (hn:h'.Ns C m) (hσ:σ'.length=N.length)
    (hv:∀(i:Nat) (x:Str) (v:V),N[i]? = some x→σ'[i]? = some (some v)→scope.names.lookup x=some .free∧∃j:Nat,X.N[j]? = some x∧σ[j]? = some (some v)) :
    Inv (X.blk N scope C fp s H) [] σ' H { s with heap:=h',toks:=t' }:=by
  have hcells:=S.cells I.ok
  have lk:∀x c,(clOf scope X.env).lookup x=some c→X.env.cells.lookup x=some c:=fun x c e=>Yo hcells e
  refine⟨⟨I.ok.mod,S.kind,I.ok.glob,I.ok.blt,hC,fun x y c h1 h2=>I.ok.inj x y c (lk x c h1) (lk y c h2),fun x hx=>?_,fun x c z _=>?_,I.ok.hd,I.ok.frames,.inl rfl,fun b hb=>?_,I.bs,Nat.le_trans I.ok.bsz I.sz,fun b o e hb=>?_,fun b hb=>?_,I.stack,I.stkFree,I.tabs⟩,
    rfl,I.bare,Un.kept hk,⟨m,hn,fun i x v h1 h2 h3=>?_⟩,fun x c e=>?_,I.hok.fresh hC,fun x c e=>I.freeC x c (lk x c e),fun p hp=>absurd (show p∈([]:List (Addr × Obj)) from hp) (by simp),I.hok.kept hk,hσ⟩
  · -- has
    have hx':(relabel scope X.env).names.lookup x=some .cell∨(relabel scope X.env).names.lookup x=some .free:=hx
    have hfree:scope.names.lookup x=some .free:=by
      rcases hx' with z | z
      · rcases Yj z with q | ⟨_,q⟩
        · exact absurd rfl (S.nocell _ (Zz q))
        · exact q
      · rcases Yj z with q | ⟨q,_⟩
        · exact q
        · cases q
    exact Jb ⟨_,Zz hfree,rfl,rfl⟩
  · cases z
  · -- exf
    obtain⟨f0,f1,f2,f3,f4,f5⟩:=hf b hb
    refine⟨?_,fun x c e=>f4 x c (lk x c e)⟩
    rintro rfl
    exact absurd (Nat.lt_of_lt_of_le (hfs _ hb) hC) (Nat.lt_irrefl _)
  · obtain⟨f0,f1,f2,f3,f4,f5⟩:=hf b hb
    rcases f3 with z | z
    · exact I.ok.noex b o e z
    · exact absurd (Nat.lt_of_lt_of_le (Heap.lt_size e) (Nat.le_trans I.ok.bsz z)) (Nat.lt_irrefl _)
  · obtain⟨f0,f1,f2,f3,f4,f5⟩:=hf b hb
    intro hb'
    rcases List.mem_cons.mp (I.stkSub b hb') with z | z
    · exact f1 z
    · exact f2 z
  · obtain⟨hfree,j,hj1,hj2⟩:=hv i x v h1 h2
    obtain⟨m0,_,hl⟩:=I.loc
    have ho:=S.free _ (Zz hfree) rfl
    obtain⟨u,r,l⟩:=hl j x v hj1 hj2 (ho.elim (fun z=>.inr (.inl z)) fun z=>.inr (.inr z))
    refine⟨u,r,.inr ⟨Jh hfree,?_⟩⟩
    rcases l with ⟨z,_⟩ | ⟨_,c,ec,hcell⟩
    · have z':X.env.scope.names.lookup x=some .local:=z
      rcases ho with q | q <;> (have q':X.env.scope.names.lookup x=_:=q;rw[z'] at q';cases q')
    · obtain⟨c',ec'⟩:=Jb (env:=X.env) ⟨_,Zz hfree,rfl,rfl⟩
      have e2:=lk x c' ec'
      rw[ec] at e2
      cases e2
      obtain⟨o,ho1,ho2⟩:=hcell
      exact⟨c,ec',o,hk _ _ ho1,ho2⟩
  · obtain⟨v,o,ho1,ho2⟩:=I.cell x c (lk x c e)
    exact⟨v,o,hk _ _ ho1,ho2⟩
end
section
variable {X:Cx}{pins:List (Addr × Obj)}{σ σ':St}{H H':Hp}{s s':Shared}{N:List Str}{scope:Scope}{C:Addr}{fp:List Addr}
theorem Inv.leave {h'':Heap}(I:Inv X pins σ H s)(J:Inv (X.blk N scope C fp s H) [] σ' H' s')(hf:∀b∈fp,FpOk X pins H b)(hsb:Heap.SameBut C s'.heap h''):Inv X pins σ H' { s' with heap:=h'' }:=by
  have hC:s.heap.objs.size≤C:=J.ok.above
  have nC:∀b o,s.heap.get? b=some o→b≠C:=fun b o e=>Nat.ne_of_lt (Nat.lt_of_lt_of_le (Heap.lt_size e) hC)
  have u:Un (frs X.stack) fp H H' s.heap s'.heap:=J.base
  have u2:Un (frs X.stack) fp H H' s.heap h'' :=
    ⟨fun b o e n hb hx=>(hsb.2 b (nC b o e)).trans (u.keep b o e n hb hx),
     fun b o e n hb hx=>by obtain⟨sl,q⟩:=u.slot b o e n hb hx;exact⟨sl,(hsb.2 b (nC b o e)).trans q⟩,
     u.free,fun b o e hx=>by obtain⟨o',q⟩:=u.there b o e hx;exact⟨o',(hsb.2 b (nC b o e)).trans q⟩,u.tups,u.frzs,u.tbls⟩
  refine I.call' (s':={ s' with heap:=h'' }) (ch:=fp) J.os u2 (fun b ob e=>?_) J.bare fun b hb=>?_
  · refine(J.hok b ob e).stay (fun c v hc q=>(hsb.2 c ?_).trans q) (fun _ q=>q) fun _ _ q=>q
    have hfr:H' C=none:=J.free
    rintro rfl
    rcases hc with z | z
    · subst z;rw[hfr] at e;cases e
    · rw[hfr] at z;cases z
  · obtain⟨f0,f1,f2,f3,f4,f5⟩:=hf b hb
    exact⟨f3,f1,f4,f5⟩
theorem FpOk.blk {H1:Hp}(I:Inv X pins σ H s)(hf:∀b∈fp,FpOk X pins H b)(hfs:∀b∈fp,b<s.heap.objs.size)(hC:s.heap.objs.size≤C)(S:BlkScope N scope X.env.scope)(hn:∀b∈fp,H1 b=none) :
    ∀b∈fp,FpOk (X.blk N scope C fp s H) [] H1 b:=fun b hb=>by
  obtain⟨f0,f1,f2,f3,f4,f5⟩:=hf b hb
  refine⟨hn b hb,?_,?_,.inl hb,fun x c e=>f4 x c (Yo (S.cells I.ok) e),fun p hp=>absurd (show p∈([]:List (Addr × Obj)) from hp) (by simp)⟩
  · show b≠C
    exact Nat.ne_of_lt (Nat.lt_of_lt_of_le (hfs b hb) hC)
  · show b∉frs X.stack
    intro z
    rcases List.mem_cons.mp (I.stkSub b z) with q | q
    · exact f1 q
    · exact f2 q
end
theorem Z0X {prog:Program}{w:World}{A:Around}{R:Result→Shared→Prop}{s:Shared}{elt tg iter:Expr}{ifs:List Expr}{scope:Scope}{pos:Pos}{it acc:Value}{env:Env}(J:Nat→Shared→Prop)
    (turn:∀n s,J n s→wpAny (model prog w) A (pyNext it) (fun r s1=>match r with
      | none=>R (.ok .next) s1
      | some v=>wpAny (model prog w) A (letOwnedTupleGo tg it v) (fun _ s2=>wpAny (model prog w) A (assign tg env v) (fun _ s3 =>
          wpAny (model prog w) A (forIn ifs true fun c r=>if r=true then do let ok ←isTrue c env (eval c env);pure (ForInStep.yield ok) else pure (ForInStep.yield r)) (fun ok s4 =>
            if ok=true then
              wpAny (model prog w) A (eval elt env) (fun x s5=>wpAny (model prog w) A (call (.builtin "list.append") [acc,x]) (fun _ s6=>∃m,m<n∧J m s6) (fun _ _=>False) s5) (fun _ _=>False) s4
            else ∃m,m<n∧J m s4) (fun _ _=>False) s3) (fun _ _=>False) s2) (fun _ _=>False) s1) (fun _ _=>False) s)
    (n:Nat) (h:J n s):codeAny (model prog w) A (.compLoop (.ListComp elt [⟨tg,iter,ifs,0⟩] scope pos) 0 it acc env) R s:=by
  refine codeAny_loop rfl J (fun n s hI=>?_) n h
  show wpAny (model prog w) A ((compTurn (.ListComp elt [⟨tg,iter,ifs,0⟩] scope pos) 0 it acc env).onRaise (fun x=>do noteFrame x env;theTreesLotGoes x)) _ _ s
  refine wpAny_noted ?_
  rw[compTurn_list]
  refine wpAny_bind (wpAny_standAt (wpAny_bind (wpAny_mono (turn n s hI) (fun r s1 h1=>?_) fun _ _ z=>z.elim)))
  cases r with
  | none=>exact wpAny_pure h1
  | some v =>
    refine wpAny_bind (wpAny_mono h1 (fun _ s2 h2=>?_) fun _ _ z=>z.elim)
    refine wpAny_bind (wpAny_mono h2 (fun _ s3 h3=>?_) fun _ _ z=>z.elim)
    refine wpAny_bind (wpAny_mono h3 (fun ok s4 h4=>?_) fun _ _ z=>z.elim)
    cases ok with
    | false=>exact wpAny_pure ⟨rfl,h4⟩
    | true =>
      exact wpAny_bind (wpAny_bind (wpAny_mono h4 (fun x s5 h5=>wpAny_bind (wpAny_mono h5 (fun _ s6 h6=>wpAny_pure (wpAny_pure ⟨rfl,h6⟩)) fun _ _ z=>z.elim)) fun _ _ z=>z.elim))
def PTs (X:Cx)(ifs:List Expr)(t:TT):Prop :=
  ∀(pins:List (Addr × Obj)) (s:Shared) (σ:St) (H:Hp) (Q:Bool→Hp→Prop),Inv X pins σ H s→t σ H Q →
    wpAny (model X.prog X.w) X.A (forIn ifs true fun c r=>if r=true then do let ok ←isTrue c X.env (eval c X.env);pure (ForInStep.yield ok) else pure (ForInStep.yield r)) (TP X pins σ Q) X.xe s
def tYes:TT:=fun _ H Q=>Q true H
theorem Z2m {X:Cx}:PTs X [] tYes:=fun _ _ _ H _ I h=>wpAny_tests_nil ⟨H,I,h⟩
theorem Z2l {X:Cx}{c:Expr}{t:TT}(h:PT X c t):PTs X [c] t:=fun pins s σ H Q I hw=>wpAny_tests_one (h pins s σ H Q I hw)
def LCW (J:It)(g:TG)(tt:TT)(te:TE)(D:Addr)(σ0:St)(H0:Hp)(Q:Hp→Prop):Prop :=
  ∃W:Nat→List V→St→Hp→Nat→Prop,(∃m,W 0 [] σ0 H0 m)∧∀i ys σ2 H2 m,W i ys σ2 H2 m→H2 D=some (.lst ys) ∧
    ((J.stop i H2∧Q H2)∨(J.go i H2∧∃N:List V→St→Hp→Prop,(∀zs σ' H',N zs σ' H'→∃m',m'<m∧W (i+1) zs σ' H' m')∧∀x H3,J.yld i H2 x H3→g x σ2 H3 fun σ4 H4=>tt σ4 H4 fun b H5 =>
      if b=true then te σ4 H5 fun y H6=>H6 D=some (.lst ys)∧ys.length<sizeLine∧N (ys++[y]) σ4 (upd H6 D (.lst (ys++[y])))
      else N ys σ4 H5))
def tLC (σb:St→St)(wi:TI)(g:TG)(tt:TT)(te:TE):TE:=fun σ H Q=>wi σ H fun J H1=>∀D,H1 D=none→LCW J g tt te D (σb σ) (upd H1 D (.lst [])) fun H2=>Q (.ref D) H2
structure Slots (N N':List Str)(scope:Scope)(σb:St→St):Prop where
  len:∀σ:St,σ.length=N.length→(σb σ).length=N'.length
  get:∀(σ:St) (i:Nat) (x:Str) (v:V),N'[i]? = some x→(σb σ)[i]? = some (some v)→scope.names.lookup x=some .free∧∃j:Nat,N[j]? = some x∧σ[j]? = some (some v)
section
variable {X:Cx}{elt tg iter:Expr}{ifs:List Expr}{scope:Scope}{pos:Pos}{N:List Str}{σb:St→St}{wi:TI}{g:TG}{tt:TT}{te:TE}
theorem yZ {pins:List (Addr × Obj)}{σ:St}{H:Hp}{s:Shared}{Q:VK}{use:Option (Value→Sem Unit)}{QQ:Value→Shared→Prop}{J:It}{fp:List Addr}{it:Addr}{tn:Nat→Heap→Prop}(hc:X.calm=true)(S:BlkScope N scope X.env.scope)(Z:Slots X.N N scope σb)
    (hg:∀C fp s H,PG (X.blk N scope C fp s H) tg g) (ht:∀C fp s H,PTs (X.blk N scope C fp s H) ifs tt) (he:∀C fp s H,PE (X.blk N scope C fp s H) elt te)
    (I:Inv X pins σ H s) (T:Turn X.prog X.w X.K tg J fp it tn) (st:tn 0 s.heap) (f:∀b∈fp,FpOk X pins H b)
    (h:∀D,H D=none→LCW J g tt te D (σb σ) (upd H D (.lst [])) fun H2=>Q (.ref D) H2)
    (hend:∀D C s1 H2 s' σ',Inv X pins σ (upd H D (.lst [])) s1→Inv (X.blk N scope C fp s1 (upd H D (.lst []))) [] σ' H2 s'→(∀b∈fp,FpOk X pins (upd H D (.lst [])) b)→Q (.ref D) H2 →
      compPost (model X.prog X.w) X.A X.xe use QQ (.ref D) C (.ok .next) s') :
    wpAny (model X.prog X.w) X.A (newList []) (fun acc s3=>wpAny (model X.prog X.w) X.A (newFunctionEnv scope X.env.globals (clOf scope X.env) [] X.env.qual none .none (some X.env)) (fun cenv s4 =>
      codeAny (model X.prog X.w) X.A (.compStart (.ListComp elt [⟨tg,iter,ifs,0⟩] scope pos) 0 (.ref it) acc { cenv with scope:=relabel scope X.env }) (compPost (model X.prog X.w) X.A X.xe use QQ acc cenv.locals) s4) X.xe s3) X.xe s:=by
  refine wpAny_newObj_type (wpAny_newFunctionEnv S.nocell (by intro y hy;simp at hy) (fun h1 hns hsb=>?_) S.kind)
  have hD:H s.heap.objs.size=none:=I.fresh
  obtain⟨W,⟨m0,w0⟩,turn⟩:=h _ hD
  have I1:=I.lnew (ys:=[]) (its:=[]) (t':=s.toks) .nil (Nat.zero_le _)
  generalize hD':s.heap.objs.size=D at *
  generalize hs1:({ s with heap:=s.heap.push { cls:=.type "list",data:=.seq ([]:List Value).toArray },toks:=s.toks }:Shared)=s1 at *
  have es1:s1.heap=s.heap.push { cls:=.type "list",data:=.seq ([]:List Value).toArray }:=by rw[←hs1]
  have fneD:∀b∈fp,b≠D:=fun b hb z=>by
    obtain⟨o,ho,_⟩:=T.obj 0 _ st b hb
    have:=Heap.lt_size ho
    rw[z,←hD'] at this
    exact absurd this (Nat.lt_irrefl _)
  have f1:∀b∈fp,FpOk X pins (upd H D (.lst [])) b:=fun b hb=>by
    obtain⟨f0,fr⟩:=f b hb
    exact⟨by rw[upd_ne (fneD b hb)];exact f0,fr⟩
  have st1:tn 0 s1.heap:=T.keep 0 _ _ st fun b hb o e=>by rw[es1];exact Heap.get?_push_of_some _ e
  have fs1:∀b∈fp,b<s1.heap.objs.size:=fun b hb=>by
    obtain⟨o,ho,_⟩:=T.obj 0 _ st1 b hb
    exact Heap.lt_size ho
  have hk:∀b o,s1.heap.get? b=some o→h1.get? b=some o:=fun b o e=>(hsb.2 b (Nat.ne_of_lt (Heap.lt_size e))).trans (Heap.get?_push_of_some _ e)
  have hCle:s1.heap.objs.size≤s1.heap.objs.size:=Nat.le_refl _
  have J4:Inv (X.blk N scope s1.heap.objs.size fp s1 (upd H D (.lst []))) [] (σb σ) (upd H D (.lst [])) { s1 with heap:=h1,toks:=s1.toks+([]:List (Str × Value)).length } :=
    I1.enter S f1 fs1 hCle hk hns (Z.len σ I1.len) fun i x v e1 e2=>Z.get σ i x v e1 e2
  have st4:tn 0 h1:=T.keep 0 _ _ st1 fun b hb o e=>hk b o e
  have stat:∀ {H':Hp},(∀b∈fp,H' b=none)→∀b∈fp,FpOk (X.blk N scope s1.heap.objs.size fp s1 (upd H D (.lst []))) [] H' b:=fun hn=>FpOk.blk I1 f1 fs1 hCle S hn
  have loop:∀s4:Shared,s4={ s1 with heap:=h1,toks:=s1.toks+([]:List (Str × Value)).length } →
      codeAny (model X.prog X.w) X.A (.compLoop (.ListComp elt [⟨tg,iter,ifs,0⟩] scope pos) 0 (.ref it) (.ref D) (compEnvC scope (clOf scope X.env) s1.heap.objs.size X.env))
        (compPost (model X.prog X.w) X.A X.xe use QQ (.ref D) s1.heap.objs.size) s4:=by
    rintro s4 rfl
    refine Z0X (fun n s'=>∃i ys σ' H',Inv (X.blk N scope s1.heap.objs.size fp s1 (upd H D (.lst []))) [] σ' H' s'∧tn i s'.heap∧(∀b∈fp,H' b=none)∧W i ys σ' H' n) ?_ m0
      ⟨0,[],σb σ,_,J4,st4,fun b hb=>(f1 b hb).1,w0⟩
    rintro n s5 ⟨i,ys,σ5,H5,I5,st5,fr5,w5⟩
    obtain⟨hD5,q5⟩:=turn i ys σ5 H5 n w5
    rcases q5 with ⟨stop,q5⟩ | ⟨go,NN,hNN,step⟩
    · refine thn (T.done (X.blk N scope s1.heap.objs.size fp s1 (upd H D (.lst []))) rfl rfl rfl hc i [] s5 σ5 H5 _ I5 (stat fr5) st5 stop) fun r s6 ⟨hr,I6⟩=>?_
      subst hr
      exact hend D _ s1 H5 s6 σ5 I1 I6 f1 q5
    · refine thn (T.item (X.blk N scope s1.heap.objs.size fp s1 (upd H D (.lst []))) rfl rfl rfl hc i [] s5 σ5 H5 _ I5 (stat fr5) st5 go) fun r s6 ⟨u,hr,h6⟩=>?_
      subst hr
      refine thn h6 fun _ s7 ⟨x,H7,I7,r7,y7,st7,fr7⟩=>?_
      have I7':=I7.pinned (stat fr7) (T.obj _ _ st7)
      have q7:=step x H7 y7
      refine thn (hg _ _ _ _ _ s7 σ5 H7 x u _ I7' r7 q7) fun _ s8 ⟨σ8,H8,I8,q8⟩=>?_
      have again:∀ {s9:Shared} {H9:Hp} {zs:List V},Inv (X.blk N scope s1.heap.objs.size fp s1 (upd H D (.lst []))) ([]++pinsAt fp s7.heap) σ8 H9 s9→NN zs σ8 H9 →
          ∃m,m<n∧∃i ys σ' H',Inv (X.blk N scope s1.heap.objs.size fp s1 (upd H D (.lst []))) [] σ' H' s9∧tn i s9.heap∧(∀b∈fp,H' b=none)∧W i ys σ' H' m:=fun {s9 H9 zs} I9 w9=>by
        obtain⟨m',hm,w9⟩:=hNN _ _ _ w9
        refine⟨m',hm,i+1,zs,σ8,H9,I9.unpinned,T.keep _ _ _ st7 fun b hb o e=>(I9.pin (b,o) (List.mem_append_right _ (List.mem_append_right _ (mem_pinsAt hb e)))).1,fun b hb=>?_,w9⟩
        obtain⟨o,e,d⟩:=T.obj _ _ st7 b hb
        exact(I9.pin (b,o) (List.mem_append_right _ (List.mem_append_right _ (mem_pinsAt hb e)))).2.1
      refine thn (ht _ _ _ _ _ s8 σ8 H8 _ I8 q8) fun b s9 ⟨H9,I9,q9⟩=>?_
      cases b with
      | false =>
        rw[if_neg Bool.false_ne_true] at q9 ⊢
        exact again I9 q9
      | true =>
        rw[if_pos rfl] at q9 ⊢
        refine thn (he _ _ _ _ _ s9 σ8 H9 _ I9 q9) fun y s10 ⟨yv,H10,I10,r10,hD10,hl10,w10⟩=>?_
        refine thn (mt_append _ s10 σ8 H10 (.ref D) [yv] (.ref D) [y] (fun _ H11=>NN (ys++[yv]) σ8 H11) I10 rfl (.cons r10 .nil) ⟨D,ys,yv,rfl,rfl,hD10,hl10,w10⟩) fun _ s11 ⟨_,H11,I11,_,w11⟩=>?_
        exact again I11 w11
  exact codeAny_compStart_list (loop _ rfl) (T.self _ 0 _ _ _ st4 (loop _ rfl))
theorem JC (hc:X.calm=true)(S:BlkScope N scope X.env.scope)(Z:Slots X.N N scope σb)(hi:PI X tg iter wi)
    (hg:∀C fp s H,PG (X.blk N scope C fp s H) tg g) (ht:∀C fp s H,PTs (X.blk N scope C fp s H) ifs tt) (he:∀C fp s H,PE (X.blk N scope C fp s H) elt te)
    (hs:∀x,foldedSetIterable iter X.env x=pure x:=by intro _;rfl):PE X (.ListComp elt [⟨tg,iter,ifs,0⟩] scope pos) (tLC σb wi g tt te):=by
  intro pins s σ H Q I h
  rw[eval_ListComp]
  refine wpAny_comprehension_free (use:=none) rfl hs (Ja (S.cells I.ok)) S.kind S.names ?_
  refine thn (hi pins s σ H _ I h) fun xv s1 h1=>thn h1 fun itv s2 h2=>?_
  obtain⟨it,fp,tn,J,H2,e,I2,T,st2,f2,q2⟩:=h2
  subst e
  refine yZ (Q:=Q) hc S Z hg ht he I2 T st2 f2 q2 fun D C s1 H3 s' σ' I3 J3 f3 q3=>?_
  obtain⟨m,hn,_⟩:=J3.loc
  exact⟨m,hn,fun h' hsb=>⟨.ref D,H3,I3.leave J3 f3 hsb,rfl,q3⟩⟩
def tSetLC (i:Nat)(t:TE):TS:=fun D σ H=>t σ H fun x H1=>D.nx (σ.set i (some x)) H1
end
section
variable {X:Cx}{elt tg iter:Expr}{ifs:List Expr}{scope:Scope}{pos py spos:Pos}{N:List Str}{σb:St→St}{wi:TI}{g:TG}{tt:TT}{te:TE}{y:Str}{i:Nat}
theorem yK (hN:X.N.Nodup)(hi':X.N[i]? = some y)(hy:Loc X.env.scope y)(hc:X.calm=true)(S:BlkScope N scope X.env.scope)(Z:Slots X.N N scope σb)(hi:PI X tg iter wi)
    (hg:∀C fp s H,PG (X.blk N scope C fp s H) tg g) (ht:∀C fp s H,PTs (X.blk N scope C fp s H) ifs tt) (he:∀C fp s H,PE (X.blk N scope C fp s H) elt te)
    (hsw:swapsWith (.ListComp elt [⟨tg,iter,ifs,0⟩] scope pos) (some (.Name y py)) spos.line X.env=pure true:=by rfl)
    (hs:∀x,foldedSetIterable iter X.env x=pure x:=by intro _;rfl)
    (hf:X.fn y=true∨X.env.scope.names.lookup y=some .local:=by first | exact .inl rfl | exact .inr rfl | assumption):PS X (.Assign [.Name y py] (.ListComp elt [⟨tg,iter,ifs,0⟩] scope pos) spos) (tSetLC i (tLC σb wi g tt te)):=by
  intro pins s σ H D I h
  rw[exec_Assign_Name_used _ _ _ _ hsw]
  refine wpAny_bind (wpAny_standAt (wpAny_bind ?_))
  show wpAny _ X.A (do let _ ←comprehension (.ListComp elt [⟨tg,iter,ifs,0⟩] scope pos) scope X.env _ (newList []) false (eval iter X.env) (some (assign (.Name y py) X.env))) _ _ s
  refine wpAny_bind (wpAny_mono (wpAny_comprehension_free (use:=some (assign (.Name y py) X.env)) (Q:=fun _ s'=>SP X pins D .next s') rfl hs (Ja (S.cells I.ok)) S.kind S.names ?_) (fun _ s' hq=>wpAny_pure (wpAny_pure hq)) fun _ _ e=>e)
  refine thn (hi pins s σ H _ I h) fun xv s1 h1=>thn h1 fun itv s2 h2=>?_
  obtain⟨it,fp,tn,J,H2,e,I2,T,st2,f2,q2⟩:=h2
  subst e
  refine yZ (Q:=fun x H1=>D.nx (σ.set i (some x)) H1) hc S Z hg ht he I2 T st2 f2 q2 fun D' C s1 H3 s' σ' I3 J3 f3 q3=>?_
  show wpAny _ X.A (assign (.Name y py) X.env (.ref D')) _ _ _
  obtain⟨m,hn,_⟩:=J3.loc
  have hCle:s1.heap.objs.size≤C:=J3.ok.above
  have fC:FpOk X pins H3 C:=I3.fpOk hCle J3.free
  obtain⟨g0,g1,g2,g3,g4,g5⟩:=fC
  have I4:Inv X pins σ H3 { s' with heap:=s'.heap }:=I3.leave J3 f3 (Heap.SameBut.refl ..)
  refine wpAny_assign_Name (store_ok2 (v:=.ref D') I4 hN hi' hy rfl (fun s5 I5 ⟨a,hsb,ha⟩=>?_) hf)
  have hCa:C≠a:=by
    rcases ha with z | z
    · rw[z];exact g1
    · exact fun q=>g4 y a z q.symm
  refine⟨m,hn.sameBut hsb hCa,fun h' hsb'=>?_⟩
  refine⟨_,H3,?_,q3⟩
  exact I5.turned (t':=s5.toks) (fun b o hb e=>(hsb'.2 b hb).trans e) g0 g1 g3 g4 g5
end
section
variable {K:PySem.W.Frag}{a D:Addr}{xs:List V}{g:TG}{tt:TT}{te:TE}{σ0:St}{H0:Hp}{Q:Hp→Prop}
theorem JF (Pv:Nat→List V→St→Hp→Prop)(h0:Pv 0 [] σ0 H0)(hl:∀i ys σ H,i≤xs.length→Pv i ys σ H→SqL K H a xs∧H D=some (.lst ys))
    (hs:∀i x ys σ H,xs[i]? = some x→Pv i ys σ H→g x σ H fun σ4 H4=>tt σ4 H4 fun b H5 =>
      if b=true then te σ4 H5 fun y H6=>H6 D=some (.lst ys)∧ys.length<sizeLine∧Pv (i+1) (ys++[y]) σ4 (upd H6 D (.lst (ys++[y]))) else Pv (i+1) ys σ4 H5)
    (hd:∀ys σ H,Pv xs.length ys σ H→Q H):LCW (Itl K a) g tt te D σ0 H0 Q:=by
  refine⟨fun i ys σ H m=>m=xs.length-i∧i≤xs.length∧Pv i ys σ H,⟨xs.length,by simp,Nat.zero_le _,h0⟩,?_⟩
  rintro i ys σ H m ⟨rfl,hi,p⟩
  obtain⟨q,qD⟩:=hl i ys σ H hi p
  refine⟨qD,?_⟩
  by_cases hlt:i<xs.length
  · refine .inr ⟨⟨xs,xs[i],q,by simp[hlt]⟩,Pv (i+1),fun zs σ' H' p'=>⟨xs.length-(i+1),by omega,rfl,hlt,p'⟩,fun x H3 y=>?_⟩
    obtain⟨e,y⟩:=y
    subst e
    exact hs i x ys σ _ (y xs q) p
  · have e:i=xs.length:=by omega
    subst e
    exact .inl ⟨⟨xs,q,Nat.le_refl _⟩,hd ys σ H p⟩
theorem Z1x {lo:Int}{n:Nat}(Pv:Nat→List V→St→Hp→Prop)(h0:Pv 0 [] σ0 H0)(hl:∀i ys σ H,i≤n→Pv i ys σ H→H D=some (.lst ys))
    (hs:∀i ys σ H,i<n→Pv i ys σ H→g (.int (lo+i)) σ H fun σ4 H4=>tt σ4 H4 fun b H5 =>
      if b=true then te σ4 H5 fun y H6=>H6 D=some (.lst ys)∧ys.length<sizeLine∧Pv (i+1) (ys++[y]) σ4 (upd H6 D (.lst (ys++[y]))) else Pv (i+1) ys σ4 H5)
    (hd:∀ys σ H,Pv n ys σ H→Q H):LCW (Itr lo n) g tt te D σ0 H0 Q:=by
  refine⟨fun i ys σ H m=>m=n-i∧i≤n∧Pv i ys σ H,⟨n,by simp,Nat.zero_le _,h0⟩,?_⟩
  rintro i ys σ H m ⟨rfl,hi,p⟩
  refine⟨hl i ys σ H hi p,?_⟩
  by_cases hlt:i<n
  · refine .inr ⟨hlt,Pv (i+1),fun zs σ' H' p'=>⟨n-(i+1),by omega,rfl,hlt,p'⟩,fun x H3 y=>?_⟩
    obtain⟨e,y⟩:=y
    subst e y
    exact hs i ys σ _ hlt p
  · have e:i=n:=by omega
    subst e
    exact .inl ⟨Nat.le_refl _,hd ys σ H p⟩
end
def excO (a C:Addr):HO:=HO.ext fun h=>∃o vs,h.get? a=some o∧o.cls=.ref C∧o.data=.fields vs
inductive D where
  | non | bl (b:Bool) | int (i:Int) | str (x:Str) | tup (ds:List D) | lst (ds:List D)
  | exn (C:Addr) | obj (C:Addr) (ns:List Str) (ds:List D) | dct (ks:List Key) (ds:List D) | dtp (ks:List (List Key)) (ds:List D) | fn (f:Addr) (ds:List D)
mutual
def Is (K:PySem.W.Frag)(H:Hp):D→V→Prop
  | .non,v=>v=.non
  | .bl b,v=>v=.bl b
  | .int i,v=>v=.int i
  | .str x,v=>v=.str x
  | .tup ds,v=>∃a xs,v=.ref a∧H a=some (.tup xs)∧IsL K H ds xs
  | .lst ds,v=>∃a xs,v=.ref a∧SqL K H a xs∧IsL K H ds xs
  | .exn C,v=>∃a,v=.ref a∧H a=some (excO a C)
  | .obj C ns ds,v=>∃a dx fs,v=.ref a∧H a=some (.ins C dx fs)∧fs.map (·.1)=ns∧IsL K H ds (fs.map (·.2))
  | .dct ks ds,v=>∃a kvs,v=.ref a∧H a=some (.dK kvs)∧kvs.map (·.1)=ks∧IsL K H ds (kvs.map (·.2))
  | .dtp ks ds,v=>∃a kvs,v=.ref a∧H a=some (.dT kvs)∧kvs.map (·.1)=ks∧IsL K H ds (kvs.map (·.2))
  | .fn f ds,v=>v=.ref f∧∃(o:Obj) (p q:Value) (us:List Value) (vs:List V),H f=some (.frz o (.tbl (p::q::us).toArray))∧Vals vs us∧IsL K H ds vs
def IsL (K:PySem.W.Frag)(H:Hp):List D→List V→Prop
  | [],xs=>xs=[]
  | d::ds,xs=>∃x r,xs=x::r∧Is K H d x∧IsL K H ds r
end
mutual
def eqD:D→D→Bool
  | .non,.non=>true
  | .bl a,.bl b=>a==b
  | .bl a,.int b=>(if a then 1 else 0)==b
  | .int a,.bl b=>a==(if b then 1 else 0)
  | .int a,.int b=>a==b
  | .str a,.str b=>a==b
  | .tup as,.tup bs=>eqDs as bs
  | .lst as,.lst bs=>eqDs as bs
  | .exn a,.exn b=>a==b
  | .obj a ns as,.obj b ms bs=>a==b&&(ns==ms&&eqDs as bs)
  | .dct ks as,.dct ls bs=>decide (ks=ls)&&eqDs as bs
  | .dtp ks as,.dtp ls bs=>decide (ks=ls)&&eqDs as bs
  | .fn _ as,.fn _ bs=>eqDs as bs
  | _,_=>false
def eqDs:List D→List D→Bool
  | [],[]=>true
  | a::as,b::bs=>eqD a b&&eqDs as bs
  | _,_=>false
end
mutual
def dep:D→Nat
  | .tup ds=>depL ds+1
  | .lst ds=>depL ds+1
  | .exn _=>1000
  | .obj _ _ _=>1000
  | .dct _ _=>1000
  | .dtp _ _=>1000
  | .fn _ _=>1000
  | _=>0
def depL:List D→Nat
  | []=>0
  | d::ds=>max (dep d) (depL ds)
end
theorem YS {d:D}:∀ {ds:List D},d∈ds→dep d≤depL ds
  | e::ds,h=>by
    unfold depL
    rcases List.mem_cons.mp h with rfl | h
    · exact Nat.le_max_left _ _
    · exact Nat.le_trans (YS h) (Nat.le_max_right _ _)
section
variable {K:PySem.W.Frag}{H H':Hp}
theorem IsL.len:∀ {ds:List D} {xs:List V},IsL K H ds xs→xs.length=ds.length
  | [],xs,h=>by unfold IsL at h;rw[h];rfl
  | d::ds,xs,h=>by
    unfold IsL at h
    obtain⟨x,r,rfl,_,h2⟩:=h
    simp[IsL.len h2]
theorem IsL.get:∀ {ds:List D} {xs:List V} {i:Nat} {d:D},IsL K H ds xs→ds[i]? = some d→∃x,xs[i]? = some x∧Is K H d x
  | [],_,_,_,_,e=>by simp at e
  | d::ds,xs,i,d',h,e=>by
    unfold IsL at h
    obtain⟨x,r,rfl,h1,h2⟩:=h
    cases i with
    | zero=>simp at e;subst e;exact⟨x,rfl,h1⟩
    | succ i=>simp at e;obtain⟨y,e1,e2⟩:=IsL.get h2 e;exact⟨y,by simpa using e1,e2⟩
theorem IsL.got:∀ {ds:List D} {xs:List V} {i:Nat} {x:V},IsL K H ds xs→xs[i]? = some x→∃d,ds[i]? = some d∧Is K H d x
  | [],xs,i,x,h,e=>by unfold IsL at h;subst h;simp at e
  | d::ds,xs,i,x',h,e=>by
    unfold IsL at h
    obtain⟨x,r,rfl,h1,h2⟩:=h
    cases i with
    | zero=>simp at e;subst e;exact⟨d,rfl,h1⟩
    | succ i=>simp at e;obtain⟨y,e1,e2⟩:=IsL.got h2 e;exact⟨y,by simpa using e1,e2⟩
theorem IsL.append:∀ {ds es:List D} {xs ys:List V},IsL K H ds xs→IsL K H es ys→IsL K H (ds++es) (xs++ys)
  | [],_,xs,ys,h,g=>by unfold IsL at h;subst h;exact g
  | d::ds,es,xs,ys,h,g=>by
    unfold IsL at h
    obtain⟨x,r,rfl,h1,h2⟩:=h
    show IsL K H (d::(ds++es)) (x::(r++ys))
    unfold IsL
    exact⟨x,r++ys,rfl,h1,IsL.append h2 g⟩
theorem IsL.one {d:D}{x:V}(h:Is K H d x):IsL K H [d] [x]:=by
  unfold IsL
  exact⟨x,[],rfl,h,by unfold IsL;rfl⟩
theorem IsL.snoc {ds:List D}{xs:List V}{d:D}{x:V}(h:IsL K H ds xs)(h':Is K H d x):IsL K H (ds++[d]) (xs++[x]):=h.append (.one h')
theorem IsL.nil:IsL K H [] []:=by unfold IsL;rfl
theorem IsL.cons {d:D}{ds:List D}{x:V}{xs:List V}(h:Is K H d x)(g:IsL K H ds xs):IsL K H (d::ds) (x::xs):=by
  unfold IsL;exact⟨x,xs,rfl,h,g⟩
theorem IsL.ints:∀(ns:List Int),IsL K H (ns.map D.int) (ns.map V.int)
  | []=>.nil
  | n::ns=>.cons (by unfold Is;rfl) (IsL.ints ns)
theorem IsL.ints':∀ {ns:List Int} {xs:List V},IsL K H (ns.map D.int) xs→xs=ns.map V.int
  | [],xs,h=>by simpa [IsL] using h
  | n::ns,xs,h=>by
    rw[List.map_cons] at h
    unfold IsL at h
    obtain⟨x,r,rfl,h1,h2⟩:=h
    unfold Is at h1
    rw[h1,IsL.ints' h2];rfl
structure Keeps2 (K:PySem.W.Frag)(H H':Hp):Prop where
  l:∀a xs,SqL K H a xs→SqL K H' a xs
  t:∀a xs,SqT K H a xs→SqT K H' a xs
  o:∀a u,H a=some u→H' a=some u
mutual
theorem Is.keep (k:Keeps2 K H H'):∀ {d:D} {v:V},Is K H d v→Is K H' d v
  | .non,v,h=>by unfold Is at h ⊢;exact h
  | .bl b,v,h=>by unfold Is at h ⊢;exact h
  | .int i,v,h=>by unfold Is at h ⊢;exact h
  | .str x,v,h=>by unfold Is at h ⊢;exact h
  | .tup ds,v,h=>by
    unfold Is at h ⊢
    obtain⟨a,xs,e,h1,h2⟩:=h
    exact⟨a,xs,e,k.o _ _ h1,IsL.keep k h2⟩
  | .lst ds,v,h=>by
    unfold Is at h ⊢
    obtain⟨a,xs,e,h1,h2⟩:=h
    exact⟨a,xs,e,k.l _ _ h1,IsL.keep k h2⟩
  | .exn C,v,h=>by
    unfold Is at h ⊢
    obtain⟨a,e,h1⟩:=h
    exact⟨a,e,k.o _ _ h1⟩
  | .obj C ns ds,v,h=>by
    unfold Is at h ⊢
    obtain⟨a,dx,fs,e,h1,h2,h3⟩:=h
    exact⟨a,dx,fs,e,k.o _ _ h1,h2,IsL.keep k h3⟩
  | .dct ks ds,v,h=>by
    unfold Is at h ⊢
    obtain⟨a,kvs,e,h1,h2,h3⟩:=h
    exact⟨a,kvs,e,k.o _ _ h1,h2,IsL.keep k h3⟩
  | .dtp ks ds,v,h=>by
    unfold Is at h ⊢
    obtain⟨a,kvs,e,h1,h2,h3⟩:=h
    exact⟨a,kvs,e,k.o _ _ h1,h2,IsL.keep k h3⟩
  | .fn f ds,v,h=>by
    unfold Is at h ⊢
    obtain⟨e,o,p,q,us,vs,h1,h2,h3⟩:=h
    exact⟨e,o,p,q,us,vs,k.o _ _ h1,h2,IsL.keep k h3⟩
theorem IsL.keep (k:Keeps2 K H H'):∀ {ds:List D} {xs:List V},IsL K H ds xs→IsL K H' ds xs
  | [],xs,h=>by unfold IsL at h ⊢;exact h
  | d::ds,xs,h=>by
    unfold IsL at h ⊢
    obtain⟨x,r,e,h1,h2⟩:=h
    exact⟨x,r,e,Is.keep k h1,IsL.keep k h2⟩
end
theorem Same.tuple {a:Addr}{xs:List V}(e:Same H H')(h:SqT K H a xs):SqT K H' a xs:=by
  rcases h with (h | ⟨o,h⟩) | h
  · exact .inl (.inl (e _ _ h))
  · exact .inl (.inr ⟨o,e _ _ h⟩)
  · exact .inr h
theorem Same.keeps (e:Same H H'):Keeps2 K H H':=⟨fun _ _ h=>e.seq h,fun _ _ h=>e.tuple h,fun _ _ h=>e _ _ h⟩
theorem Same.new {a:Addr}{o:HO}(h:H a=none):Same H (upd H a o):=fun b u e=>by rw[upd_ne (ne_of_none e h)];exact e
mutual
def flatD:D→Bool
  | .lst _=>false
  | .exn _=>false
  | .obj _ _ _=>false
  | .dct _ _=>false
  | .dtp _ _=>false
  | .fn _ _=>false
  | .tup ds=>flatDs ds
  | _=>true
def flatDs:List D→Bool
  | []=>true
  | d::ds=>flatD d&&flatDs ds
end
def TupsK (H H':Hp):Prop:=(∀b xs,H b=some (.tup xs)→H' b=some (.tup xs))∧∀b o u,H b=some (.frz o u)→H' b=some (.frz o u)
theorem TupsK.lst {a:Addr}{xs:List V}{o:HO}(h:H a=some (.lst xs)):TupsK H (upd H a o) :=
  ⟨fun b ys e=>by rw[upd_ne (ne_of e h (by intro z;cases z))];exact e,fun b o u e=>by rw[upd_ne (ne_of e h (by intro z;cases z))];exact e⟩
mutual
theorem Is.flat (k:TupsK H H'):∀ {d:D} {v:V},flatD d=true→Is K H d v→Is K H' d v
  | .non,v,_,h=>by unfold Is at h ⊢;exact h
  | .bl b,v,_,h=>by unfold Is at h ⊢;exact h
  | .int i,v,_,h=>by unfold Is at h ⊢;exact h
  | .str x,v,_,h=>by unfold Is at h ⊢;exact h
  | .tup ds,v,f,h=>by
    unfold Is at h ⊢
    unfold flatD at f
    obtain⟨a,xs,e,h1,h2⟩:=h
    exact⟨a,xs,e,k.1 _ _ h1,IsL.flat k f h2⟩
  | .lst ds,v,f,h=>by unfold flatD at f;cases f
  | .exn C,v,f,h=>by unfold flatD at f;cases f
  | .obj C ns ds,v,f,h=>by unfold flatD at f;cases f
  | .dct ks ds,v,f,h=>by unfold flatD at f;cases f
  | .dtp ks ds,v,f,h=>by unfold flatD at f;cases f
  | .fn _ _,v,f,h=>by unfold flatD at f;cases f
theorem IsL.flat (k:TupsK H H'):∀ {ds:List D} {xs:List V},flatDs ds=true→IsL K H ds xs→IsL K H' ds xs
  | [],xs,_,h=>by unfold IsL at h ⊢;exact h
  | d::ds,xs,f,h=>by
    unfold flatDs at f
    rw[Bool.and_eq_true] at f
    unfold IsL at h ⊢
    obtain⟨x,r,e,h1,h2⟩:=h
    exact⟨x,r,e,Is.flat k f.1 h1,IsL.flat k f.2 h2⟩
end
end
def eqAtI (ds es:List D)(j:Nat):Bool:=match ds[j]?,es[j]? with
  | some a,some b=>eqD a b
  | _,_=>true
theorem J9:∀(ds es:List D),ds.length=es.length→(List.range ds.length).all (eqAtI ds es)=eqDs ds es
  | [],[],_=>by simp[eqDs]
  | [],_::_,h=>by simp at h
  | _::_,[],h=>by simp at h
  | a::ds,b::es,h=>by
    have ih:=J9 ds es (by simpa using h)
    rw[eqDs,←ih]
    show (List.range (ds.length+1)).all (eqAtI (a::ds) (b::es))=_
    rw[List.range_succ_eq_map,List.all_cons,List.all_map]
    have e0:eqAtI (a::ds) (b::es) 0=eqD a b:=rfl
    have e1:(eqAtI (a::ds) (b::es)∘Nat.succ)=eqAtI ds es:=by
      funext j
      simp[eqAtI,Function.comp]
    rw[e0,e1]
theorem JU:∀(ds es:List D),ds.length≠es.length→eqDs ds es=false
  | [],[],h=>absurd rfl h
  | [],_::_,_=>rfl
  | _::_,[],_=>rfl
  | a::ds,b::es,h=>by
    rw[eqDs,JU ds es (by simpa using h),Bool.and_false]
theorem Inv.isT {X:Cx}{pins:List (Addr × Obj)}{σ:St}{H:Hp}{s:Shared}{ds:List D}{v:V}{u:Value}(I:Inv X pins σ H s)(h:Is X.K H (.tup ds) v)(r:RelV v u) :
    ∃(a:Addr) (xs:List V) (its:List Value),u=.ref a∧SqT X.K H a xs∧IsL X.K H ds xs∧Vals xs its∧s.heap.IsTuple a its.toArray:=by
  unfold Is at h
  obtain⟨a,xs,rfl,h1,h2⟩:=h
  replace h1:=SqT.of (K:=X.K) h1
  obtain⟨its,q,p,_⟩:=I.tuple h1
  exact⟨a,xs,its,r,h1,h2,q,p⟩
theorem Inv.isLst {X:Cx}{pins:List (Addr × Obj)}{σ:St}{H:Hp}{s:Shared}{ds:List D}{v:V}{u:Value}(I:Inv X pins σ H s)(h:Is X.K H (.lst ds) v)(r:RelV v u) :
    ∃(a:Addr) (xs:List V) (its:List Value),u=.ref a∧SqL X.K H a xs∧IsL X.K H ds xs∧Vals xs its∧s.heap.IsList a its.toArray:=by
  unfold Is at h
  obtain⟨a,xs,rfl,h1,h2⟩:=h
  obtain⟨its,q,p,_⟩:=I.list h1
  exact⟨a,xs,its,r,h1,h2,q,p.isList⟩
theorem Z0Q {A:Around}:A.in1.units=A.units+1:=rfl
section
variable {X:Cx}{pins:List (Addr × Obj)}{σ:St}{H:Hp}{s:Shared}
theorem j7 {A:Around}{ds es:List D}{xs ys:List V}{its jts:List Value}(I:Inv X pins σ H s)
    (ih:∀d∈ds,∀(A:Around) (e:D) (x y:V) (u v:Value),dep e<1000→Is X.K H d x→Is X.K H e y→RelV x u→RelV y v→A.units+dep d<cLine→SeqAt.EqAt A s u v (eqD d e))
    (h1:IsL X.K H ds xs) (h2:IsL X.K H es ys) (v1:Vals xs its) (v2:Vals ys jts) (hu:A.units+depL ds<cLine) (he:depL es<1000) :
    ∀j (g1:j<its.toArray.size) (g2:j<jts.toArray.size),SeqAt.EqAt A s its.toArray[j] jts.toArray[j] (eqAtI ds es j):=fun j g1 g2=>by
  have l1:=v1.length;have l2:=v2.length;have l3:=h1.len;have l4:=h2.len
  rw[List.size_toArray] at g1 g2
  have e1:ds[j]? = some ds[j]:=List.getElem?_eq_getElem (by omega)
  have e2:es[j]? = some es[j]:=List.getElem?_eq_getElem (by omega)
  obtain⟨x,ex,ix⟩:=h1.get e1
  obtain⟨y,ey,iy⟩:=h2.get e2
  obtain⟨u,eu,ru⟩:=v1.get ex
  obtain⟨v,ev,rv⟩:=v2.get ey
  have q1:its.toArray[j]=u:=by
    have:=List.getElem?_eq_getElem g1
    rw[eu] at this
    simpa using (Option.some.inj this).symm
  have q2:jts.toArray[j]=v:=by
    have:=List.getElem?_eq_getElem g2
    rw[ev] at this
    simpa using (Option.some.inj this).symm
  rw[q1,q2]
  have q3:eqAtI ds es j=eqD ds[j] es[j]:=by unfold eqAtI;rw[e1,e2]
  rw[q3]
  have hm:ds[j]∈ds:=List.getElem_mem _
  have hm2:es[j]∈es:=List.getElem_mem _
  exact ih _ hm A _ x y u v (by have:=YS hm2;omega) ix iy ru rv (by have:=YS hm;omega)
theorem yE {A:Around}{ds es:List D}{x y:V}{u v:Value}{c1 c2:Bool}(I:Inv X pins σ H s)
    (ih:∀d∈ds,∀(A:Around) (e:D) (x y:V) (u v:Value),dep e<1000→Is X.K H d x→Is X.K H e y→RelV x u→RelV y v→A.units+dep d<cLine→SeqAt.EqAt A s u v (eqD d e))
    (h1:Is X.K H (if c1 then .tup ds else .lst ds) x) (h2:Is X.K H (if c2 then .tup es else .lst es) y) (r1:RelV x u) (r2:RelV y v) (hu:A.units+(depL ds+1)<cLine) (he:depL es<1000) :
    SeqAt.RcAt A s u v (eqD (if c1 then .tup ds else .lst ds) (if c2 then .tup es else .lst es))∧SeqAt.RcNeAt A s u v (!eqD (if c1 then .tup ds else .lst ds) (if c2 then .tup es else .lst es)):=by
  have hu0:A.units<cLine:=by omega
  have hu1:A.in1.units+depL ds<cLine:=by rw[Z0Q];omega
  cases c1 with
  | true =>
    obtain⟨a,xs,its,rfl,q1,i1,v1,t1⟩:=I.isT h1 r1
    cases c2 with
    | true =>
      obtain⟨b,ys,jts,rfl,q2,i2,v2,t2⟩:=I.isT h2 r2
      have it:=j7 (A:=A.in1) I ih i1 i2 v1 v2 hu1 he
      have l1:=v1.length;have l2:=v2.length;have l3:=i1.len;have l4:=i2.len
      have e1:((List.range (min its.toArray.size jts.toArray.size)).all (eqAtI ds es)&&its.toArray.size==jts.toArray.size)=eqDs ds es:=by
        rw[List.size_toArray,List.size_toArray,←l1,←l2,l3,l4]
        by_cases hl:ds.length=es.length
        · rw[←hl,Nat.min_self,J9 ds es hl];simp
        · rw[JU ds es hl];simp[hl]
      have g1:=SeqAt.RcAt.tuples t1 t2 hu0 it
      have g2:=SeqAt.RcNeAt.tuples t1 t2 hu0 it
      rw[e1] at g1 g2
      exact⟨g1,g2⟩
    | false =>
      obtain⟨b,ys,jts,rfl,q2,i2,v2,t2⟩:=I.isLst h2 r2
      exact⟨SeqAt.RcAt.tuple_list t1 t2 hu0,SeqAt.RcNeAt.tuple_list t1 t2 hu0⟩
  | false =>
    obtain⟨a,xs,its,rfl,q1,i1,v1,t1⟩:=I.isLst h1 r1
    cases c2 with
    | true =>
      obtain⟨b,ys,jts,rfl,q2,i2,v2,t2⟩:=I.isT h2 r2
      exact⟨SeqAt.RcAt.list_tuple t1 t2 hu0,SeqAt.RcNeAt.list_tuple t1 t2 hu0⟩
    | false =>
      obtain⟨b,ys,jts,rfl,q2,i2,v2,t2⟩:=I.isLst h2 r2
      have it:=j7 (A:=A.in1) I ih i1 i2 v1 v2 hu1 he
      have l1:=v1.length;have l2:=v2.length;have l3:=i1.len;have l4:=i2.len
      by_cases hl:ds.length=es.length
      · have hsz:its.toArray.size=jts.toArray.size:=by rw[List.size_toArray,List.size_toArray];omega
        have e1:(List.range its.toArray.size).all (eqAtI ds es)=eqDs ds es:=by
          rw[List.size_toArray,←l1,l3,J9 ds es hl]
        have g1:=SeqAt.RcAt.lists t1 t2 hsz hu0 it
        have g2:=SeqAt.RcNeAt.lists t1 t2 hsz hu0 it
        rw[e1] at g1 g2
        exact⟨g1,g2⟩
      · have hsz:(its.toArray.size != jts.toArray.size)=true:=by
          rw[List.size_toArray,List.size_toArray,bne_iff_ne];omega
        have e1:eqDs ds es=false:=JU ds es hl
        have g1:=SeqAt.RcAt.lists_lengths t1 t2 hsz hu0
        have g2:=SeqAt.RcNeAt.lists_lengths t1 t2 hsz hu0
        show SeqAt.RcAt A s (.ref a) (.ref b) (eqDs ds es)∧SeqAt.RcNeAt A s (.ref a) (.ref b) (!eqDs ds es)
        rw[e1]
        exact⟨g1,g2⟩
end
mutual
theorem Yy:∀d:D,eqD d d=true
  | .non=>rfl
  | .bl b=>by simp[eqD]
  | .int i=>by simp[eqD]
  | .str x=>by simp[eqD]
  | .tup ds=>by rw[eqD];exact ZY ds
  | .lst ds=>by rw[eqD];exact ZY ds
  | .exn C=>by simp[eqD]
  | .obj C ns ds=>by rw[eqD,ZY ds];simp
  | .dct ks ds=>by rw[eqD,ZY ds];simp
  | .dtp ks ds=>by rw[eqD,ZY ds];simp
  | .fn f ds=>by rw[eqD];exact ZY ds
theorem ZY:∀ds:List D,eqDs ds ds=true
  | []=>rfl
  | d::ds=>by rw[eqDs,Yy d,ZY ds];rfl
end
section
variable {X:Cx}{pins:List (Addr × Obj)}{σ:St}{H:Hp}{s:Shared}
mutual
theorem Is.inj (I:Inv X pins σ H s):∀ {d e:D} {v:V},dep d<1000→dep e<1000→Is X.K H d v→Is X.K H e v→d=e
  | d,e,v,pd,pe,h,g=>by
    cases d with
    | exn C=>unfold dep at pd;omega
    | obj C ns ds=>unfold dep at pd;omega
    | dct ks ds=>unfold dep at pd;omega
    | dtp ks ds=>unfold dep at pd;omega
    | fn f ds=>unfold dep at pd;omega
    | tup ds =>
      unfold Is at h
      obtain⟨a,xs,rfl,h1,h2⟩:=h
      unfold dep at pd
      cases e with
      | tup es =>
        unfold dep at pe
        unfold Is at g
        obtain⟨b,ys,z,g1,g2⟩:=g
        cases z
        have:=I.tuple_inj (SqT.of h1) (SqT.of g1)
        subst this
        rw[IsL.inj I (by omega) (by omega) h2 g2]
      | lst es =>
        unfold Is at g
        obtain⟨b,ys,z,g1,g2⟩:=g
        cases z
        obtain⟨_,_,⟨o,ho,hc,_⟩,_⟩:=I.tuple (SqT.of h1)
        obtain⟨_,_,⟨o',n',ho',hc',_⟩,_⟩:=I.list g1
        rw[ho] at ho';cases ho'
        rw[hc] at hc';injection hc' with z;exact absurd z (by decide)
      | exn C=>unfold dep at pe;omega
      | obj C ns ds=>unfold dep at pe;omega
      | dct ks ds=>unfold dep at pe;omega
      | dtp ks ds=>unfold dep at pe;omega
      | fn f ds=>unfold dep at pe;omega
      | _=>unfold Is at g;cases g
    | lst ds =>
      unfold Is at h
      obtain⟨a,xs,rfl,h1,h2⟩:=h
      unfold dep at pd
      cases e with
      | lst es =>
        unfold dep at pe
        unfold Is at g
        obtain⟨b,ys,z,g1,g2⟩:=g
        cases z
        have:=I.list_inj h1 g1
        subst this
        rw[IsL.inj I (by omega) (by omega) h2 g2]
      | tup es =>
        unfold Is at g
        obtain⟨b,ys,z,g1,g2⟩:=g
        cases z
        obtain⟨_,_,⟨o,ho,hc,_⟩,_⟩:=I.tuple (SqT.of g1)
        obtain⟨_,_,⟨o',n',ho',hc',_⟩,_⟩:=I.list h1
        rw[ho] at ho';cases ho'
        rw[hc] at hc';injection hc' with z;exact absurd z (by decide)
      | exn C=>unfold dep at pe;omega
      | obj C ns ds=>unfold dep at pe;omega
      | dct ks ds=>unfold dep at pe;omega
      | dtp ks ds=>unfold dep at pe;omega
      | fn f ds=>unfold dep at pe;omega
      | _=>unfold Is at g;cases g
    | _ =>
      unfold Is at h
      subst h
      cases e with
      | exn C=>unfold dep at pe;omega
      | obj C ns ds=>unfold dep at pe;omega
      | dct ks ds=>unfold dep at pe;omega
      | dtp ks ds=>unfold dep at pe;omega
      | fn f ds=>unfold dep at pe;omega
      | tup es=>unfold Is at g;obtain⟨_,_,z,_⟩:=g;cases z
      | lst es=>unfold Is at g;obtain⟨_,_,z,_⟩:=g;cases z
      | _=>unfold Is at g;first | rfl | (cases g;rfl) | cases g
termination_by d e=>sizeOf d
theorem IsL.inj (I:Inv X pins σ H s):∀ {ds es:List D} {xs:List V},depL ds<1000→depL es<1000→IsL X.K H ds xs→IsL X.K H es xs→ds=es
  | [],[],_,_,_,_,_=>rfl
  | [],e::es,xs,_,_,h,g=>by unfold IsL at h g;subst h;obtain⟨_,_,z,_⟩:=g;cases z
  | d::ds,[],xs,_,_,h,g=>by unfold IsL at h g;subst g;obtain⟨_,_,z,_⟩:=h;cases z
  | d::ds,e::es,xs,pd,pe,h,g=>by
    unfold IsL at h g
    unfold depL at pd pe
    obtain⟨x,r,rfl,h1,h2⟩:=h
    obtain⟨y,q,z,g1,g2⟩:=g
    cases z
    rw[Is.inj I (by omega) (by omega) h1 g1,IsL.inj I (by omega) (by omega) h2 g2]
termination_by ds es=>sizeOf ds
end
def isSeq:D→Bool
  | .tup _=>true
  | .lst _=>true
  | _=>false
theorem Is.scal {K:PySem.W.Frag}{d:D}{v:V}(h:Is K H d v)(f:isSeq d=false)(pd:dep d<1000):flatV v=true∧∀e w,Is K H e w→isSeq e=false→dep e<1000→eqV v w=eqD d e:=by
  cases d with
  | tup ds=>cases f
  | lst ds=>cases f
  | exn C=>unfold dep at pd;omega
  | obj C ns ds=>unfold dep at pd;omega
  | dct ks ds=>unfold dep at pd;omega
  | dtp ks ds=>unfold dep at pd;omega
  | fn f ds=>unfold dep at pd;omega
  | _ =>
    unfold Is at h
    subst h
    refine⟨rfl,fun e w g f' pe=>?_⟩
    cases e with
    | tup ds=>cases f'
    | lst ds=>cases f'
    | exn C=>unfold dep at pe;omega
    | obj C ns ds=>unfold dep at pe;omega
    | dct ks ds=>unfold dep at pe;omega
    | dtp ks ds=>unfold dep at pe;omega
    | fn f ds=>unfold dep at pe;omega
    | _=>unfold Is at g;subst g;simp only[eqV,eqD]
theorem Yi {d:D}(h:isSeq d=true):∃(c:Bool) (ds:List D),d=(if c then .tup ds else .lst ds):=by
  cases d with
  | tup ds=>exact⟨true,ds,rfl⟩
  | lst ds=>exact⟨false,ds,rfl⟩
  | _=>cases h
theorem YI {c:Bool}{ds:List D}:dep (if c then .tup ds else .lst ds)=depL ds+1:=by cases c <;> (simp only[if_true,Bool.false_eq_true,if_false,dep])
theorem jf (I:Inv X pins σ H s):∀(n:Nat),n<1000→∀(d:D),dep d≤n→∀(A:Around) (e:D) (x y:V) (u v:Value),dep e<1000→Is X.K H d x→Is X.K H e y→RelV x u→RelV y v→A.units+dep d<cLine→SeqAt.EqAt A s u v (eqD d e):=by
  intro n
  induction n with
  | zero =>
    intro hn d hd A e x y u v pe h g r q hu
    have f:isSeq d=false:=by
      cases d with
      | tup ds=>unfold dep at hd;omega
      | lst ds=>unfold dep at hd;omega
      | _=>rfl
    exact scalar I A d e x y u v h g r q f (by omega) (by omega) pe
  | succ n ih =>
    intro hn d hd A e x y u v pe h g r q hu
    cases f:isSeq d with
    | false=>exact scalar I A d e x y u v h g r q f (by omega) (by omega) pe
    | true =>
      cases f':isSeq e with
      | false=>exact scalar' I A d e x y u v h g r q f f' (by omega) pe
      | true =>
        obtain⟨c1,ds,rfl⟩:=Yi f
        obtain⟨c2,es,rfl⟩:=Yi f'
        rw[YI] at hd hu pe
        have rc:=(yE I (fun d' hm=>ih (by omega) d' (by have:=YS hm;omega)) h g r q hu (by omega)).1
        have ru:∃a,x=.ref a:=by cases c1 <;> (simp only[if_true,Bool.false_eq_true,if_false,Is] at h;obtain⟨a,_,z,_⟩:=h;exact⟨a,z⟩)
        have rv:∃a,y=.ref a:=by cases c2 <;> (simp only[if_true,Bool.false_eq_true,if_false,Is] at g;obtain⟨a,_,z,_⟩:=g;exact⟨a,z⟩)
        obtain⟨a,rfl⟩:=ru
        obtain⟨b,rfl⟩:=rv
        cases r;cases q
        by_cases hab:a=b
        · subst hab
          rw[Is.inj I (by rw[YI];omega) (by rw[YI];omega) h g,Yy]
          exact SeqAt.EqAt.same _
        · exact SeqAt.EqAt.of_refs hab rc
where
  scalar (I:Inv X pins σ H s) (A:Around) (d e:D) (x y:V) (u v:Value) (h:Is X.K H d x) (g:Is X.K H e y) (r:RelV x u) (q:RelV y v) (f:isSeq d=false) (hu:A.units<cLine) (pd:dep d<1000) (pe:dep e<1000):SeqAt.EqAt A s u v (eqD d e):=by
    cases f':isSeq e with
    | false =>
      rw[←(h.scal f pd).2 e y g f' pe]
      exact eqAt_V r q (h.scal f pd).1 (g.scal f' pe).1
    | true =>
      cases e with
      | tup es =>
        obtain⟨a,xs,its,rfl,_,_,_,t⟩:=I.isT g q
        cases d with
        | non=>unfold Is at h;subst h;cases r;exact SeqAt.EqAt.none_tuple t hu
        | bl b=>unfold Is at h;subst h;cases r;exact SeqAt.EqAt.bool_tuple b t hu
        | int b=>unfold Is at h;subst h;obtain⟨k,rfl⟩:=r;exact SeqAt.EqAt.int_tuple b k t hu
        | str b=>unfold Is at h;subst h;obtain⟨k,rfl⟩:=r;exact SeqAt.EqAt.str_tuple b k t hu
        | exn C=>unfold dep at pd;omega
        | obj C ns ds=>unfold dep at pd;omega
        | dct ks ds=>unfold dep at pd;omega
        | dtp ks ds=>unfold dep at pd;omega
        | fn f ds=>unfold dep at pd;omega
        | _=>cases f
      | lst es =>
        obtain⟨a,xs,its,rfl,_,_,_,t⟩:=I.isLst g q
        cases d with
        | non=>unfold Is at h;subst h;cases r;exact SeqAt.EqAt.none_list t hu
        | bl b=>unfold Is at h;subst h;cases r;exact SeqAt.EqAt.bool_list b t hu
        | int b=>unfold Is at h;subst h;obtain⟨k,rfl⟩:=r;exact SeqAt.EqAt.int_list b k t hu
        | str b=>unfold Is at h;subst h;obtain⟨k,rfl⟩:=r;exact SeqAt.EqAt.str_list b k t hu
        | exn C=>unfold dep at pd;omega
        | obj C ns ds=>unfold dep at pd;omega
        | dct ks ds=>unfold dep at pd;omega
        | dtp ks ds=>unfold dep at pd;omega
        | fn f ds=>unfold dep at pd;omega
        | _=>cases f
      | _=>cases f'
  scalar' (I:Inv X pins σ H s) (A:Around) (d e:D) (x y:V) (u v:Value) (h:Is X.K H d x) (g:Is X.K H e y) (r:RelV x u) (q:RelV y v) (f:isSeq d=true) (f':isSeq e=false) (hu:A.units<cLine) (pe:dep e<1000):SeqAt.EqAt A s u v (eqD d e):=by
    cases d with
    | tup es =>
      obtain⟨a,xs,its,rfl,_,_,_,t⟩:=I.isT h r
      cases e with
      | non=>unfold Is at g;subst g;cases q;exact SeqAt.EqAt.tuple_none t hu
      | bl b=>unfold Is at g;subst g;cases q;exact SeqAt.EqAt.tuple_bool b t hu
      | int b=>unfold Is at g;subst g;obtain⟨k,rfl⟩:=q;exact SeqAt.EqAt.tuple_int b k t hu
      | str b=>unfold Is at g;subst g;obtain⟨k,rfl⟩:=q;exact SeqAt.EqAt.tuple_str b k t hu
      | exn C=>unfold dep at pe;omega
      | obj C ns ds=>unfold dep at pe;omega
      | dct ks ds=>unfold dep at pe;omega
      | dtp ks ds=>unfold dep at pe;omega
      | fn f ds=>unfold dep at pe;omega
      | _=>cases f'
    | lst es =>
      obtain⟨a,xs,its,rfl,_,_,_,t⟩:=I.isLst h r
      cases e with
      | non=>unfold Is at g;subst g;cases q;exact SeqAt.EqAt.list_none t hu
      | bl b=>unfold Is at g;subst g;cases q;exact SeqAt.EqAt.list_bool b t hu
      | int b=>unfold Is at g;subst g;obtain⟨k,rfl⟩:=q;exact SeqAt.EqAt.list_int b k t hu
      | str b=>unfold Is at g;subst g;obtain⟨k,rfl⟩:=q;exact SeqAt.EqAt.list_str b k t hu
      | exn C=>unfold dep at pe;omega
      | obj C ns ds=>unfold dep at pe;omega
      | dct ks ds=>unfold dep at pe;omega
      | dtp ks ds=>unfold dep at pe;omega
      | fn f ds=>unfold dep at pe;omega
      | _=>cases f'
    | _=>cases f
def rEqD (K:PySem.W.Frag)(neg:Bool):R2:=fun x y H Q=>∃d e,Is K H d x∧Is K H e y∧isSeq d=true∧isSeq e=true∧dep d≤30∧dep e<1000∧Q (.bl (if neg then !eqD d e else eqD d e)) H
theorem Z3c (hu:X.A.units+64<cLine):OpR X (compareOp .Eq) (rEqD X.K false):=by
  intro pins s σ H x y v u Q I rx ry h
  obtain⟨d,e,h1,h2,f1,f2,hd,pe,q⟩:=h
  obtain⟨c1,ds,rfl⟩:=Yi f1
  obtain⟨c2,es,rfl⟩:=Yi f2
  rw[YI] at hd pe
  exact(yE I (fun d' hm=>jf I 30 (by decide) d' (by have:=YS hm;omega)) h1 h2 rx ry (by omega) (by omega)).1 X.prog X.w X.xe _ ⟨.bl _,H,I,rfl,q⟩
theorem yN (hu:X.A.units+64<cLine):OpR X (compareOp .NotEq) (rEqD X.K true):=by
  intro pins s σ H x y v u Q I rx ry h
  obtain⟨d,e,h1,h2,f1,f2,hd,pe,q⟩:=h
  obtain⟨c1,ds,rfl⟩:=Yi f1
  obtain⟨c2,es,rfl⟩:=Yi f2
  rw[YI] at hd pe
  exact(yE I (fun d' hm=>jf I 30 (by decide) d' (by have:=YS hm;omega)) h1 h2 rx ry (by omega) (by omega)).2 X.prog X.w X.xe _ ⟨.bl _,H,I,rfl,q⟩
end
structure Callee (P:Program)(w:World)(K:PySem.W.Frag)(mg:Str→Option Value)(base:Heap)(CX:CXT)(k:Nat)(x:Str)(ps:List Str)(sp:Sp):Prop where
  ex:∃f fd,FnOk P w K mg base CX k f fd ps sp∧mg x=some (.ref f)∧PySem.W.keepIn K (.ref f)=true∧Binds K fd ps []
section
variable {X:Cx}{k:Nat}{x:Str}{ps:List Str}{sp:Sp}{p pos:Pos}{e:Expr}{es:List Expr}{t:TA}
theorem Z1M (c:Callee X.prog X.w X.K X.mg X.base CX0 k x ps sp)(hr:Room k X.A)(ha:PA X (e::es) t)(hg:Gl X x:=by rfl)(hdb:(x==("__debug__" : Str))=false:=by decide)
    (he:starEach (e::es) X.env=(false,eval e X.env)::starEach es X.env:=by rfl) (hpl:(backTo pos (starEach es X.env)).any (·.1)=false:=by rfl):PE X (.Call (.Name x p) (e::es) [] pos) (tCall sp [] E0 t):=by
  obtain⟨f,fd,F,hm,hk,hb⟩:=c.ex
  exact pe_call F hr hg hm hk hb .nil pass0 ha hdb he hpl
end
structure Def (K:PySem.W.Frag)(mg:Str→Option Value)(x:Str)(st:Stmt):Prop where
  ex:∃f fd,Fun K x x st f fd∧mg x=some (.ref f)
theorem Def.callee {P:Program}{w:World}{K:PySem.W.Frag}{mg:Str→Option Value}{base:Heap}{x:Str}{st:Stmt}{N ps:List Str}{k:Nat}{sp:Sp}(d:Def K mg x st)(S:FnScope N ps (defScope st))
    (hb:∀(kV doc pm:Value) (an:Option Addr) (cdv ct:Value) (us:List Value),us.length=ps.length→bindArgs (PySem.W.fnOf x x (defArgs st) (defBody st) (defScope st) .none kV doc pm an cdv ct) ⟨us,[]⟩=pure (ps.zip us))
    (len:∀vs H Q E,sp vs H Q E→vs.length=ps.length)
    (hbody:∀(f:Addr) (cdv:Value) (A:Around) (outer:List Env) (s:Shared) (H:Hp) (vs:List V) (Q:VK) (E:XK),Room k (A.deeper (envOfC x (defScope st) s.heap.objs.size f cdv))→sp vs H Q E →
      ∃t,PSs (cxOf CX0 P w K mg base N x (defScope st) f cdv A outer s H E).nox (defBody st) t∧t { nx:=fun _ H'=>Q .non H',rt:=Q } (start N vs) H):Callee P w K mg base CX0 (k+1) x ps sp:=by
  obtain⟨f,fd,F,hm⟩:=d.ex
  exact⟨f,fd,F.ok S len fun cdv A outer s H vs Q E hr h=>hbody f cdv A outer s H vs Q E hr h,hm,F.kp,F.binds hb⟩
def sbOf (js:List (Option Nat))(σ:St):St:=js.map fun o=>o.bind fun j=>(σ[j]?).join
def slotsOk (N N':List Str)(scope:Scope):List (Option Nat)→Nat→Bool
  | [],i=>i==N'.length
  | none::r,i=>slotsOk N N' scope r (i+1)
  | some j::r,i=>(match N'[i]?,N[j]? with | some x,some y=>x==y&&(scope.names.lookup x==some .free) | _,_=>false)&&slotsOk N N' scope r (i+1)
theorem YG {N N':List Str}{scope:Scope}:∀ {js:List (Option Nat)} {i:Nat},slotsOk N N' scope js i=true→js.length+i=N'.length
  | [],i,h=>by simpa [slotsOk] using h
  | none::r,i,h=>by have:=YG (js:=r) (i:=i+1) (by simpa [slotsOk] using h);simp;omega
  | some j::r,i,h=>by
    simp only[slotsOk,Bool.and_eq_true] at h
    have:=YG (js:=r) (i:=i+1) h.2;simp;omega
theorem JI {N N':List Str}{scope:Scope}{σ:St}{x:Str}{v:V}:∀ {js:List (Option Nat)} {i k:Nat},slotsOk N N' scope js i=true→N'[i+k]? = some x→(sbOf js σ)[k]? = some (some v) →
    scope.names.lookup x=some .free∧∃j:Nat,N[j]? = some x∧σ[j]? = some (some v)
  | [],i,k,_,_,e=>by simp[sbOf] at e
  | o::r,i,0,h,hx,e=>by
    cases o with
    | none=>simp[sbOf] at e
    | some j =>
      simp only[slotsOk,Bool.and_eq_true] at h
      rw[Nat.add_zero] at hx
      rw[hx] at h
      cases hj:N[j]? with
      | none=>rw[hj] at h;simp at h
      | some y =>
        rw[hj] at h
        simp only[Bool.and_eq_true,beq_iff_eq] at h
        obtain⟨⟨h1,h2⟩,_⟩:=h
        subst h1
        refine⟨h2,j,hj,?_⟩
        have e':(σ[j]?).join=some v:=by simpa [sbOf] using e
        cases q:σ[j]? with
        | none=>rw[q] at e';cases e'
        | some z=>rw[q] at e';rw[show z=some v from e']
  | o::r,i,k+1,h,hx,e=>by
    have h':slotsOk N N' scope r (i+1)=true:=by
      cases o with
      | none=>simpa [slotsOk] using h
      | some j=>simp only[slotsOk,Bool.and_eq_true] at h;exact h.2
    exact JI (js:=r) (i:=i+1) (k:=k) h' (by rw[show i+1+k=i+(k+1) by omega];exact hx) (by simpa [sbOf] using e)
theorem ZH {N N':List Str}{scope:Scope}{js:List (Option Nat)}(h:slotsOk N N' scope js 0=true):Slots N N' scope (sbOf js) where
  len:=fun σ _=>by have:=YG h;simp[sbOf];omega
  get:=fun σ i x v h1 h2=>JI h (by rw[Nat.zero_add];exact h1) h2
theorem ZZ {N:List Str}{scope out out':Scope}(e:out=out')(h:BlkScope N scope out'):BlkScope N scope out:=e▸h
theorem ZI {N N0 N':List Str}{scope:Scope}{σb:St→St}(e:N=N0)(h:Slots N0 N' scope σb):Slots N N' scope σb:=e▸h
section
variable {K:PySem.W.Frag}{H H':Hp}
theorem Is.lstI {ns:List Int}{v:V}(h:Is K H (.lst (ns.map D.int)) v):∃a,v=.ref a∧SqL K H a (ns.map V.int):=by
  unfold Is at h
  obtain⟨a,xs,e,h1,h2⟩:=h
  rw[IsL.ints' h2] at h1
  exact⟨a,e,h1⟩
theorem Is.ofLstI {ns:List Int}{a:Addr}(h:SqL K H a (ns.map V.int)):Is K H (.lst (ns.map D.int)) (.ref a):=by
  unfold Is
  exact⟨a,_,rfl,h,IsL.ints ns⟩
theorem Is.ofLst {ds:List D}{xs:List V}{a:Addr}(h:SqL K H a xs)(g:IsL K H ds xs):Is K H (.lst ds) (.ref a):=by
  unfold Is
  exact⟨a,xs,rfl,h,g⟩
end
theorem yf:∀(ns:List Int),depL (ns.map D.int)=0
  | []=>rfl
  | n::ns=>by rw[List.map_cons,depL,yf ns];rfl
theorem ObjOk.ob {P:Program}{w:World}{H:Hp}{h:Heap}{a:Addr}{o:HO}(x:ObjOk P w H h a o):∃ob,h.get? a=some ob:=by
  cases o with
  | lst xs=>obtain⟨_,_,_,_,e⟩:=x;exact⟨_,e⟩
  | tup xs=>obtain⟨_,_,_,ob,e,_⟩:=x;exact⟨_,e⟩
  | dK kvs=>obtain⟨_,_,_,_,o,_,_,e,_⟩:=x;exact⟨_,e⟩
  | dT kvs=>obtain⟨_,_,_,_,o,_,_,e,_⟩:=x;exact⟨_,e⟩
  | set S n=>obtain⟨o,_,_,_,e,_⟩:=x;exact⟨_,e⟩
  | ins C dx fs=>obtain⟨_,_,_,e,_⟩:=x;exact⟨_,e⟩
  | own y=>obtain⟨_,e⟩:=x;exact⟨_,e⟩
  | xd fs=>obtain⟨_,⟨_,_,_,e,_⟩,_⟩:=x;exact⟨_,e⟩
  | rng lo hi=>obtain⟨_,_,_,e⟩:=x;exact⟨_,e⟩
  | frz ob u=>obtain⟨e,_⟩:=x;exact⟨_,e⟩
  | tbl ps =>
    rcases x with ⟨_,_,_,_,e,_⟩ | ⟨⟨_,e⟩,_⟩
    · exact⟨_,e⟩
    · exact⟨_,e⟩
  | met f y=>exact⟨_,(show h.get? a=some _ from x)⟩
  | ext φ=>obtain⟨_,⟨_,e⟩,_⟩:=x;exact⟨_,e⟩
theorem HOk.hide {P:Program}{w:World}{H:Hp}{h:Heap}{as:List Addr}(x:HOk P w H h)(hf:∀b∈as,H b=none):HOk P w H (PySem.W.hideAll h as):=fun a o e =>
  (x a o e).stay (fun b u hb q=>PySem.W.hideAll_get _ q fun hm=>by
    have z:=hf b hm
    rcases hb with rfl | hb
    · rw[e] at z;cases z
    · rw[hb] at z;cases z) (fun _ q=>q) fun _ _ q=>q
def CXx (P:Program)(w:World):CXT:=fun outer H s E e s'=>∃(ea C:Addr) (a0:Value) (B:Heap) (H':Hp),e=.ref ea∧Heap.FlyingW B outer ea (.ref C) a0 s'.heap∧HOk P w H' B∧s'.os=s.os∧AllBare s'.gens ∧
  Un (frs outer) [] H H' s.heap s'.heap∧(∀b o,s.heap.get? b=some o→H b=none→b∉frs outer→B.get? b=some o)∧(∀b o,s.heap.get? b=some o→b∉frs outer→∃o',B.get? b=some o') ∧
  s.heap.get? ea=none∧H' ea=none∧E (.ref C) none H'
theorem Un.fly {fs:List Addr}{H H':Hp}{h h1 h2 B:Heap}(u:Un fs [] H H' h h1)(kB:∀b o,h.get? b=some o→H b=none→b∉fs→B.get? b=some o)(tB:∀b o,h.get? b=some o→b∉fs→∃o',B.get? b=some o')
    (st:B.StaysIn h2) (up:h1.UpToSlots h2) (hf:∀b∈fs,H b=none∧∀o,h.get? b=some o→∀vs,o.data ≠ .fields vs):Un fs [] H H' h h2 where
  keep:=fun b o e n hb _=>st b o (kB b o e n hb)
  slot:=fun b o e n hb hx=>by
    obtain⟨sl,e1⟩:=u.slot b o e n hb hx
    obtain⟨sl2,e2⟩:=up b _ e1 ((hf b hb).2 o e)
    exact⟨sl2,e2⟩
  free:=u.free
  there:=fun b o e hx=>by
    by_cases hb:b∈fs
    · obtain⟨sl,e1⟩:=u.slot b o e (hf b hb).1 hb hx
      obtain⟨sl2,e2⟩:=up b _ e1 ((hf b hb).2 o e)
      exact⟨_,e2⟩
    · obtain⟨o',e1⟩:=tB b o e hb
      exact⟨o',st b o' e1⟩
  tups:=u.tups
  frzs:=u.frzs
  tbls:=u.tbls
theorem Un.drop {L:Addr}{fs:List Addr}{H H':Hp}{h h1:Heap}(u:Un (L::fs) [] H H' h h1)(hL:h.get? L=none):Un fs [] H H' h h1 where
  keep:=fun b o e n hb hx=>u.keep b o e n (fun z=>(List.mem_cons.mp z).elim (fun z=>by rw[z,hL] at e;cases e) hb) hx
  slot:=fun b o e n hb hx=>u.slot b o e n (List.mem_cons_of_mem _ hb) hx
  free:=u.free
  there:=u.there
  tups:=u.tups
  frzs:=u.frzs
  tbls:=u.tbls
section
variable {X:Cx}{pins:List (Addr × Obj)}{σ:St}{H:Hp}{s:Shared}
structure Top (X:Cx):Prop where
  stk:X.stack=X.env::X.outer
  fr:X.env.frame=some X.env.locals
theorem Top.frs (t:Top X):frs X.stack=X.env.locals::X.fs:=by
  rw[t.stk];show List.filterMap _ _=_;rw[List.filterMap_cons,t.fr];rfl
theorem Inv.frf (I:Inv X pins σ H s):∀b∈L2.frs X.stack,H b=none∧∀o,s.heap.get? b=some o→∀vs,o.data ≠ .fields vs:=fun b hb=>by
  refine⟨I.stkFree b hb,fun o e vs q=>?_⟩
  obtain⟨_,o',ho,hd⟩:=I.stack.mem hb
  rw[e] at ho;cases ho
  exact hd vs q
theorem Inv.hin (X:Cx):∀env∈X.stack,∀a,env.frame=some a→a∈L2.frs X.stack:=fun env he a ha=>List.mem_filterMap.mpr ⟨env,he,ha⟩
theorem Z1s {h':Heap}{ea:Addr}{c:Value}{vs:List Value}(I:Inv X pins σ H s)(hx:Heap.MadeExcOf s.heap h' ea c vs):H ea=none:=by
  cases q:H ea with
  | none=>rfl
  | some o =>
    obtain⟨ob,e⟩:=(I.hok ea o q).ob
    rw[hx.new] at e;cases e
theorem Z2D {P:Program}{w:World}{K:PySem.W.Frag}{mg:Str→Option Value}{base:Heap}{N:List Str}{qual:Str}{scope:Scope}{f:Addr}{cd:Value}{A:Around}{outer:List Env}{s0:Shared}{H0:Hp}{E:XK}
    {h':Heap} {ea C:Addr} {vs:List Value} (I:Inv (cxOf (CXx P w) P w K mg base N qual scope f cd A outer s0 H0 E) pins σ H s) (hx:Heap.MadeExcOf s.heap h' ea (.ref C) vs) (q:E (.ref C) none H) :
    (cxOf (CXx P w) P w K mg base N qual scope f cd A outer s0 H0 E).xe (.ref ea) { s with heap:=h' }:=by
  have T:Top (cxOf (CXx P w) P w K mg base N qual scope f cd A outer s0 H0 E):=⟨rfl,rfl⟩
  have hL:s0.heap.get? s0.heap.objs.size=none:=Heap.get?_none_of_le (Nat.le_refl _)
  have nF:∀b o,s0.heap.get? b=some o→b∉frs outer→b∉frs (cxOf (CXx P w) P w K mg base N qual scope f cd A outer s0 H0 E).stack:=fun b o e hb z=>by
    rw[T.frs] at z
    rcases List.mem_cons.mp z with z | z
    · have:b=s0.heap.objs.size:=z
      rw[this,hL] at e;cases e
    · exact hb z
  refine wpAny_leaves_madeW (base:=PySem.W.hideAll s.heap (frs (cxOf (CXx P w) P w K mg base N qual scope f cd A outer s0 H0 E).stack)) (h:=s.heap) (outer:=outer) (L:=s0.heap.objs.size) I.ok.frames rfl (fun b o q=>PySem.W.of_hideAll _ q)
    (PySem.W.funFrames_hide I.stack (Inv.hin (cxOf (CXx P w) P w K mg base N qual scope f cd A outer s0 H0 E))) hx fun h2 t fl _ _ up=>?_
  have kB:∀b o,s0.heap.get? b=some o→H0 b=none→b∉frs outer→(PySem.W.hideAll s.heap (frs (cxOf (CXx P w) P w K mg base N qual scope f cd A outer s0 H0 E).stack)).get? b=some o:=fun b o e n hb =>
    PySem.W.hideAll_get _ (I.base.keep b o e n hb (fun z=>nomatch z)) (nF b o e hb)
  have tB:∀b o,s0.heap.get? b=some o→b∉frs outer→∃o',(PySem.W.hideAll s.heap (frs (cxOf (CXx P w) P w K mg base N qual scope f cd A outer s0 H0 E).stack)).get? b=some o':=fun b o e hb=>by
    obtain⟨o',e1⟩:=I.base.there b o e (fun z=>nomatch z)
    exact⟨o',PySem.W.hideAll_get _ e1 (nF b o e hb)⟩
  refine⟨ea,C,.ref t,_,H,rfl,fl,I.hok.hide I.stkFree,I.os,I.bare,?_,kB,tB,?_,Z1s I hx,q⟩
  · have u1:Un (frs outer) [] H0 H s0.heap h':=⟨fun b o e n hb hx'=>hx.keeps _ _ (I.base.keep b o e n hb hx'),fun b o e n hb hx'=>by
      obtain⟨sl,e1⟩:=I.base.slot b o e n hb hx'
      exact⟨sl,hx.keeps _ _ e1⟩,I.base.free,fun b o e hx'=>by
      obtain⟨o',e1⟩:=I.base.there b o e hx'
      exact⟨o',hx.keeps _ _ e1⟩,I.base.tups,I.base.frzs,I.base.tbls⟩
    refine u1.fly kB tB fl.1 up fun b hb=>⟨I.ok.frf b hb,fun o e vs z=>?_⟩
    obtain⟨_,o',ho,hd⟩:=I.ok.funs.mem hb
    have ho:s0.heap.get? b=some o':=ho
    rw[show s0.heap.get? b=some o from e] at ho;cases ho
    exact hd vs z
  · cases z:s0.heap.get? ea with
    | none=>rfl
    | some o =>
      obtain⟨o',e1⟩:=I.base.there ea o z (fun z=>nomatch z)
      rw[hx.new] at e1;cases e1
theorem Z3w {P:Program}{w:World}{K:PySem.W.Frag}{mg:Str→Option Value}{base:Heap}{N:List Str}{qual:Str}{scope:Scope}{f:Addr}{cd:Value}{A:Around}{outer:List Env}{s0:Shared}{H0:Hp}{E E2:XK}
    {e:Value} {s':Shared} (I:Inv (cxOf (CXx P w) P w K mg base N qual scope f cd A outer s0 H0 E) pins σ H s) (h:CXx P w (cxOf (CXx P w) P w K mg base N qual scope f cd A outer s0 H0 E).stack H s E2 e s')
    (hE:∀C H',E2 (.ref C) none H'→E (.ref C) none H'):(cxOf (CXx P w) P w K mg base N qual scope f cd A outer s0 H0 E).xe e s':=by
  have T:Top (cxOf (CXx P w) P w K mg base N qual scope f cd A outer s0 H0 E):=⟨rfl,rfl⟩
  have hL:s0.heap.get? s0.heap.objs.size=none:=Heap.get?_none_of_le (Nat.le_refl _)
  have nF:∀b o,s0.heap.get? b=some o→b∉frs outer→b∉frs (cxOf (CXx P w) P w K mg base N qual scope f cd A outer s0 H0 E).stack:=fun b o e hb z=>by
    rw[T.frs] at z
    rcases List.mem_cons.mp z with z | z
    · have:b=s0.heap.objs.size:=z
      rw[this,hL] at e;cases e
    · exact hb z
  obtain⟨ea,C,a0,B,H',rfl,fl,hok,os,bare,un,kB,tB,nw,fr,q⟩:=h
  refine wpAny_leaves_onW (L:=s0.heap.objs.size) (outer:=outer) I.ok.frames rfl fl fun h2 fl2 up=>?_
  have kB0:∀b o,s0.heap.get? b=some o→H0 b=none→b∉frs outer→B.get? b=some o:=fun b o e n hb =>
    kB b o (I.base.keep b o e n hb (fun z=>nomatch z)) (I.base.free b o e n (fun z=>nomatch z)) (nF b o e hb)
  have tB0:∀b o,s0.heap.get? b=some o→b∉frs outer→∃o',B.get? b=some o':=fun b o e hb=>by
    obtain⟨o',e1⟩:=I.base.there b o e (fun z=>nomatch z)
    exact tB b o' e1 (nF b o e hb)
  refine⟨ea,C,a0,B,H',rfl,fl2,hok,os.trans I.os,bare,?_,kB0,tB0,?_,fr,hE C H' q⟩
  · have u0:Un (s0.heap.objs.size::frs outer) [] H0 H s0.heap s.heap:=I.base.mono (fun b hb=>List.mem_cons_of_mem _ hb) fun _ z=>nomatch z
    have u1:Un (s0.heap.objs.size::frs outer) [] H H' s.heap s'.heap:=by
      have:=un;rw[T.frs] at this;exact this
    refine((u0.trans u1).drop hL).fly kB0 tB0 fl2.1 up fun b hb=>⟨I.ok.frf b hb,fun o e vs z=>?_⟩
    obtain⟨_,o',ho,hd⟩:=I.ok.funs.mem hb
    have ho:s0.heap.get? b=some o':=ho
    rw[show s0.heap.get? b=some o from e] at ho;cases ho
    exact hd vs z
  · cases z:s0.heap.get? ea with
    | none=>rfl
    | some o =>
      obtain⟨o',e1⟩:=I.base.there ea o z (fun z=>nomatch z)
      rw[nw] at e1;cases e1
structure XMade (X:Cx)(E:Addr→St→Hp→Prop):Prop where
  u:∀(pins:List (Addr × Obj)) (σ:St) (H:Hp) (s:Shared) (h':Heap) (ea C:Addr) (vs:List Value),Inv X pins σ H s→Heap.MadeExcOf s.heap h' ea (.ref C) vs→E C σ H→X.xe (.ref ea) { s with heap:=h' }
structure XFly (X:Cx)(E:Addr→St→Hp→Prop):Prop where
  u:∀(pins:List (Addr × Obj)) (σ:St) (H:Hp) (s:Shared) (e:Value) (s':Shared) (E2:XK),Inv X pins σ H s→CXx X.prog X.w X.stack H s E2 e s'→(∀C H',E2 (.ref C) none H'→E C σ H')→X.xe e s'
section
variable {P:Program}{w:World}{K:PySem.W.Frag}{mg:Str→Option Value}{base:Heap}{N:List Str}{qual:Str}{scope:Scope}{f:Addr}{cd:Value}{A:Around}{outer:List Env}{s0:Shared}{H0:Hp}{E:XK}
theorem JK:XMade (cxOf (CXx P w) P w K mg base N qual scope f cd A outer s0 H0 E) (fun C _ H=>E (.ref C) none H):=⟨fun pins σ H s h' ea C vs I hx q=>Z2D I hx q⟩
theorem zu:XFly (cxOf (CXx P w) P w K mg base N qual scope f cd A outer s0 H0 E) (fun C _ H=>E (.ref C) none H):=⟨fun pins σ H s e s' E2 I h hE=>Z3w I h hE⟩
end
theorem Z1R {X:Cx}:XFly X fun _ _ _=>False:=⟨fun _ _ _ _ _ _ _ _ ⟨_,C,_,_,H',_,_,_,_,_,_,_,_,_,_,q⟩ hE=>(hE C H' q).elim⟩
theorem zZ {X:Cx}{E:Addr→St→Hp→Prop}{σ:St}(x:XFly X E){pins:List (Addr × Obj)}{H:Hp}{s:Shared}(I:Inv X pins σ H s){e:Value}{s':Shared}(h:CXx X.prog X.w X.stack H s (fun c _ H'=>∃C,c=.ref C∧E C σ H') e s'):X.xe e s' :=
  x.u pins σ H s e s' _ I h fun C H' ⟨C',e,q⟩=>by cases e;exact q
end
abbrev bmV:List Value:=[.type "ValueError",.type "Exception",.type "BaseException",.type "object"]
abbrev XCls (K:PySem.W.Frag)(C:Addr):Prop:=PySem.W.excIn K C bmV "ValueError.__new__" = true
theorem Z2z {K:PySem.W.Frag}{h:Heap}{C:Addr}{bmB:List Value}{newId:String}(X:K.In h)(y:PySem.W.excIn K C bmB newId=true) :
    ∃bm N nm q bs hdct sn sub ab col dd k0 k1 k2 k3 k5 mN,h.get? C=some (excClassObj nm q C N bs bm hdct sn sub ab col dd k0 k1 k2 k3 k5 newId)∧h.Ns N mN∧mN "__init__" = none∧OwnTail h bmB bm:=by
  revert y
  unfold PySem.W.excIn
  cases lk:K.lookup C with
  | none=>intro y;cases y
  | some o =>
    obtain⟨cl,dd,data,⟨sl⟩⟩:=o
    split
    · rename_i d2 cd s2 z
      cases z
      split
      · rename_i C2 tl j0 j1 j2 j3 id j5 z1 z2
        intro y
        rw[Bool.and_eq_true,Bool.and_eq_true,Bool.and_eq_true,Bool.and_eq_true,Bool.and_eq_true,beq_iff_eq,beq_iff_eq,beq_iff_eq] at y
        obtain⟨⟨⟨⟨⟨y1,y2⟩,y3⟩,y4⟩,y5⟩,y6⟩:=y
        obtain⟨c1,c2,c3,c4,c5,c6,c7,c8,c9,c10,c11⟩:=cd
        have z2:sl=[j0,j1,j2,j3,some (.builtin id),j5]:=z2
        have w3:c11=false:=by cases c11 with | true=>cases y3 | false=>rfl
        have z1:c3=.ref C2::tl:=z1
        clear y3
        subst z1 z2 w3 y1 y2
        exact⟨tl,c4,c1,c5,c2,c6,c7,c8,c9,c10,dd,j0,j1,j2,j3,j5,_,X _ _ lk,.of_isNs (PySem.W.isNs_of_in X y5),PySem.W.nsMap_none_of_in X y5 y6,PySem.W.tail_of_in X y4⟩
      · intro y;cases y
    · intro y;cases y
section
variable {X:Cx}{x:Str}{C:Addr}{np cpos pos:Pos}{e:Expr}{es:List Expr}{t:TA}{E:Addr→St→Hp→Prop}
def tRaise (C:Addr)(E:Addr→St→Hp→Prop)(t:TA):TS:=fun _ σ H=>t σ H fun vs H1=>vs.length≤sizeLine∧E C σ H1
theorem Z1k (xo:XMade X E)(hc:X.calm=true)(xc:XCls X.K C)(hg:Gl X x)(hm:X.mg x=some (.ref C))(ha:PA X (e::es) t)(hd:(x==("__debug__" : Str))=false:=by decide)
    (he:starEach (e::es) X.env=(false,eval e X.env)::starEach es X.env:=by rfl) (hpl:(backTo cpos (starEach es X.env)).any (·.1)=false:=by rfl) :
    PS X (.Raise (some (.Call (.Name x np) (e::es) [] cpos)) none pos) (tRaise C E t):=by
  intro pins s σ H D I h
  obtain⟨bm,N,nm,q,bs,hdct,sn,sub,ab,col,dd,k0,k1,k2,k3,k5,mN,hC,hN,hni,T⟩:=Z2z I.ok.mod.kin xc
  have FB:=PySem.F.excBase_ValueError
  refine wpAny_Raise_call_subT (C:=C) (nm:=nm) (q:=q) (N:=N) (bs:=bs) (bm:=bm) (hdct:=hdct) (sn:=sn) (sub:=sub) (ab:=ab) (col:=col) (dd:=dd) (k0:=k0) (k1:=k1) (k2:=k2) (k3:=k3) (k5:=k5) (mN:=mN) FB
    (T.hasType FB.hasBase) (I.ok.hd hc) (by rw[he];show (false || (backTo cpos (starEach es X.env)).any (·.1))=false;rw[hpl];rfl) hni (ld_glob I hg hm ⟨rfl,?_⟩ hd)
  have hh:=ha cpos pins s σ H _ I h
  rw[he] at hh ⊢
  refine Calls.evalArgs_plain (wpAny_mono hh (fun us s2 ⟨vs,H2,I2,r,z,q2⟩=>?_) fun _ _ y=>y)
  exact⟨rfl,by rw[←r.length];exact z,I2.bk _ _ hC,hN.keeps I2.bk,T.keeps I2.bk,fun h' ea mx=>xo.u pins σ H2 s2 h' ea C us I2 mx q2⟩
end
theorem Z2A {P:Program}{w:World}{H:Hp}{h:Heap}{a C:Addr}{o:Obj}{vs:Array Value}(e:h.get? a=some o)(c:o.cls=.ref C)(d:o.data=.fields vs):ObjOk P w H h a (excO a C) :=
  ⟨⟨o,vs,e,c,d⟩,⟨o,e⟩,fun _ _ ⟨o,vs,e,c,d⟩ k=>⟨o,vs,k o e,c,d⟩⟩
abbrev Cx.wishP (X:Cx)(E:Value→Shared→Prop)(pn:List (Addr × Obj)):Cx:={ X with xe:=E,pn:=pn }
abbrev Cx.mrk (X:Cx)(ea:Addr):Cx:={ X with A:=X.A.mark (some (.ref ea)),calm:=false,xe:=fun _ _=>False }
section
variable {X:Cx}{pins pins':List (Addr × Obj)}{σ:St}{H H':Hp}{s:Shared}{E:Value→Shared→Prop}{ea:Addr}
theorem Cx.Ok.wishP (ok:X.Ok){pn:List (Addr × Obj)}:(X.wishP E pn).Ok :=
  ⟨ok.mod,ok.kind,ok.glob,ok.blt,ok.above,ok.inj,ok.has,ok.cab,ok.hd,ok.frames,ok.stk,ok.exf,ok.bs,ok.bsz,ok.noex,ok.exfs,ok.funs,ok.frf,ok.tabs⟩
theorem Cx.Ok.unwishP {pn:List (Addr × Obj)}(ok:(X.wishP E pn).Ok):X.Ok :=
  ⟨ok.mod,ok.kind,ok.glob,ok.blt,ok.above,ok.inj,ok.has,ok.cab,ok.hd,ok.frames,ok.stk,ok.exf,ok.bs,ok.bsz,ok.noex,ok.exfs,ok.funs,ok.frf,ok.tabs⟩
theorem Inv.wishP (I:Inv X pins σ H s)(E:Value→Shared→Prop):Inv (X.wishP E (X.pn++pins)) [] σ H s :=
  ⟨I.ok.wishP,I.os,I.bare,I.base,I.loc,I.cell,I.free,I.freeC,fun p hp=>I.pin p (by rw[List.append_nil] at hp;exact hp),I.hok,I.len⟩
theorem Inv.unwishP (I:Inv (X.wishP E (X.pn++pins)) pins' σ H s):Inv X pins σ H s :=
  ⟨I.ok.unwishP,I.os,I.bare,I.base,I.loc,I.cell,I.free,I.freeC,fun p hp=>I.pin p (List.mem_append_left _ hp),I.hok,I.len⟩
theorem Inv.mrk (I:Inv X pins σ H s)(ea:Addr):Inv (X.mrk ea) pins σ H s :=
  ⟨⟨I.ok.mod,I.ok.kind,I.ok.glob,I.ok.blt,I.ok.above,I.ok.inj,I.ok.has,I.ok.cab,(fun z=>nomatch z),I.ok.frames,I.ok.stk,I.ok.exf,I.ok.bs,I.ok.bsz,I.ok.noex,I.ok.exfs,I.ok.funs,I.ok.frf,I.ok.tabs⟩,
    I.os,I.bare,I.base,I.loc,I.cell,I.free,I.freeC,I.pin,I.hok,I.len⟩
theorem Inv.unmrk (ok:X.Ok)(I:Inv (X.mrk ea) pins σ H s):Inv X pins σ H s:=⟨ok,I.os,I.bare,I.base,I.loc,I.cell,I.free,I.freeC,I.pin,I.hok,I.len⟩
theorem land {C:Addr}{a0:Value}{B h5:Heap}{s':Shared}(I:Inv X pins σ H s)(fl:Heap.FlyingW B X.stack ea (.ref C) a0 h5)(hok:HOk X.prog X.w H' B)(os:s'.os=s.os)(bare:AllBare s'.gens)(un:Un (frs X.stack) [] H H' s.heap s'.heap)
    (kB:∀b o,s.heap.get? b=some o→H b=none→b∉frs X.stack→B.get? b=some o) (tB:∀b o,s.heap.get? b=some o→b∉frs X.stack→∃o',B.get? b=some o') (nw:s.heap.get? ea=none) (fr:H' ea=none)
    (up:s'.heap.UpToSlots h5):Inv X pins σ (upd H' ea (excO ea C)) { s' with heap:=h5 }:=by
  have u:=un.fly kB tB fl.1 up I.frf
  have ne:∀b o,H' b=some o→b≠ea:=fun b o e z=>by rw[z,fr] at e;cases e
  refine I.call' (s':={ s' with heap:=h5 }) (ch:=[]) os ⟨u.keep,u.slot,fun b o e n hx=>?_,u.there,fun b xs e=>?_,fun b o v e=>?_,fun b ps e=>?_⟩ (fun b o e=>?_) bare fun _ z=>nomatch z
  · rw[upd_ne (fun z=>by rw[z,nw] at e;cases e)];exact u.free b o e n hx
  · have:=u.tups b xs e
    rw[upd_ne (ne _ _ this)];exact this
  · have:=u.frzs b o v e
    rw[upd_ne (ne _ _ this)];exact this
  · have:=u.tbls b ps e
    rw[upd_ne (ne _ _ this)];exact this
  · by_cases z:b=ea
    · subst z
      rw[upd_same] at e
      cases e
      obtain⟨oe,vs,e1,e2,e3,_⟩:=fl.first
      exact Z2A e1 e2 e3
    · rw[upd_ne z] at e
      exact(hok b o e).stay (fun c v _ q=>fl.1 c v q) (fun c q=>by rw[upd_ne (ne _ _ q)];exact q) (fun c xs q=>by rw[upd_ne (ne _ _ q)];exact q) fun c ob u q=>by rw[upd_ne (ne _ _ q)];exact q
theorem JG {M:Model}{A:Around}{i:Nat}{n:Str}{pos:Pos}{Q:Unit→Shared→Prop}(I:Inv X pins σ H s)(hN:X.N.Nodup)(hi:X.N[i]? = some n)(hk:X.env.scope.names.lookup n=some .local)
    (h:∀s',Inv X pins (σ.set i none) H s'→Q () s'):wpAny M A (do bindName X.env n .none;unbindBehindTheSuite X.env n pos) Q E s:=by
  obtain⟨m,hn,hl⟩:=id I.loc
  have hcls:(X.env.scope.kind == .class || (X.env.scope.kind == .module&&X.env.locals != X.env.globals))=false:=by rw[I.ok.kind];rfl
  have hiσ:i<σ.length:=by rw[I.len];exact(List.getElem?_eq_some_iff.mp hi).1
  refine wpAny_nameGoes_keeps hk hn hcls fun h' v hn' hs=>h _ ?_
  obtain⟨oL,_,_,hoL,_⟩:=id hn
  have tr:HOk X.prog X.w H h':=fun b ob e=>by
    refine(I.hok b ob e).stay (fun c w' hc q=>(hs.2 c ?_).trans q) (fun _ q=>q) fun _ _ q=>q
    rintro rfl
    have fr:=I.free
    rcases hc with rfl | hc
    · rw[fr] at e;cases e
    · rw[fr] at hc;cases hc
  have nL:∀b o,X.s₀.heap.get? b=some o→h'.get? b=s.heap.get? b:=fun b o e=>hs.2 b (Nat.ne_of_lt (Nat.lt_of_lt_of_le (Heap.lt_size e) I.ok.above))
  refine⟨I.ok,I.os,I.bare,⟨fun b o e n hb hx=>(nL b o e).trans (I.base.keep b o e n hb hx),fun b o e n hb hx=>?_,I.base.free,fun b o e hx=>?_,I.base.tups,I.base.frzs,I.base.tbls⟩,⟨_,hn',fun j y v' e1 e2 e3=>?_⟩,fun y c e=>?_,I.free,I.freeC,fun p hp=>?_,tr,by simpa using I.len⟩
  · obtain⟨sl,q⟩:=I.base.slot b o e n hb hx
    exact⟨sl,(nL b o e).trans q⟩
  · obtain⟨o',q⟩:=I.base.there b o e hx
    exact⟨o',(nL b o e).trans q⟩
  · have hj:j≠i:=fun z=>by
      subst z
      rw[List.getElem?_set_self hiσ] at e2
      cases e2
    rw[List.getElem?_set_ne (Ne.symm hj)] at e2
    obtain⟨u',r',q⟩:=hl j y v' e1 e2 e3
    refine⟨u',r',?_⟩
    rcases q with ⟨k,e⟩ | ⟨k,c,e,z⟩
    · refine .inl ⟨k,?_⟩
      have:y≠n:=fun e=>hj (nodup_ix hN e1 (e▸hi))
      simp[this,e]
    · exact .inr ⟨k,c,e,z.sameBut hs (I.cne y c e)⟩
  · obtain⟨w',z⟩:=I.cell y c e
    exact⟨w',z.sameBut hs (I.cne y c e)⟩
  · obtain⟨e,n,ne,nf,d⟩:=I.pin p hp
    exact⟨(hs.2 p.1 ne).trans e,n,ne,nf,d⟩
end
def NameIs (X:Cx)(y:Str)(c:Value):Prop:=X.mg y=some c∨(X.mg y=none∧bootBuiltins y=some c∧y ≠ "__name__")
def Ends.gone (D:Ends)(i:Nat):Ends:={ nx:=fun σ H=>D.nx (σ.set i none) H,rt:=D.rt,bk:=fun σ H=>D.bk (σ.set i none) H,ct:=fun σ H=>D.ct (σ.set i none) H }
section
variable {X:Cx}{y n:Str}{c:Value}{np hp pos:Pos}{b₀:Stmt}{suite body:List Stmt}{tb:(Addr→St→Hp→Prop)→TS}{ts:TS}{i:Nat}
theorem Z3H {E:Value→Shared→Prop}{pins:List (Addr × Obj)}{s:Shared}{σ:St}{H:Hp}{Q:Value→Shared→Prop}(I:Inv X pins σ H s)(hg:Gl X y)(hm:NameIs X y c)(h:Q c s)
    (hd:(y==("__debug__" : Str))=false):wpAny (model X.prog X.w) X.A (eval (.Name y np) X.env) Q E s:=by
  rcases hm with hm | ⟨hm,hv,hn⟩
  · exact ld_glob I hg hm h hd
  · exact ld_blt I hg hm hv h hn hd
def tTryAs (K:PySem.W.Frag)(c:Value)(i:Nat)(ts:TS)(tb:(Addr→St→Hp→Prop)→TS):TS:=fun D σ H =>
  tb (fun C σ' H'=>PySem.W.exmOne K (.ref C) c=some true∧∀ea,H' ea=none→ts (D.gone i) (σ'.set i (some (.ref ea))) (upd H' ea (excO ea C))) D σ H
theorem Z1j (T:Top X)(hb:∀xe pn E,XFly (X.wishP xe pn) E→PSs (X.wishP xe pn) body (tb E))(hs:∀ea,PSs (X.mrk ea) (b₀::suite) ts)(hg:Gl X y)(hm:NameIs X y c)(hN:X.N.Nodup)(hi:X.N[i]? = some n)
    (hk:X.env.scope.names.lookup n=some .local) (hd:(y==("__debug__" : Str))=false:=by decide) :
    PS X (.Try body [.ExceptHandler (some (.Name y np)) (some n) (b₀::suite) hp] [] [] pos) (tTryAs X.K c i ts tb):=by
  intro pins s σ H D I h
  refine wpAny_Try_except ?_
  refine wpAny_mono (hb (fun e s₁=>wpAny (model X.prog X.w) X.A (noteFrame e X.env) (fun _ s₂=>wpAny (model X.prog X.w) X.A (setFlight e none) (fun _ s₃ =>
    wpAny (model X.prog X.w) X.A (handleBy e X.env [.ExceptHandler (some (.Name y np)) (some n) (b₀::suite) hp]) (SP X pins D) X.xe s₃) X.xe s₂) X.xe s₁) (X.pn++pins) _ ⟨?_⟩ [] s σ H D (I.wishP _) h) (fun f s₁ q=>?_) fun e s₁ q=>q
  · intro pins' σ' H' s0 e s' E2 I' hcx hE
    obtain⟨ea,C,a0,B,H2,rfl,fl,hok,os,bare,un,kB,tB,nw,fr,q⟩:=hcx
    obtain⟨ex,hsuite⟩:=hE C H2 q
    have I0:Inv X pins σ' H' s0:=I'.unwishP
    have hfr:X.A.frames=some (X.env::X.outer):=by rw[←T.stk];exact I.ok.frames
    have fl:Heap.FlyingW B (X.env::X.outer) ea (.ref C) a0 s'.heap:=by rw[←T.stk];exact fl
    refine wpAny_looks_onW hfr T.fr fl fun h4 held up4=>?_
    refine wpAny_landsW held fun h5 fl5 up5=>?_
    have I5:=land (s':=s') I0 (by rw[T.stk];exact fl5) hok os bare un kB tB nw fr (up4.trans up5)
    have LT:PySem.W.Looks (model X.prog X.w) h5 (typeOf (.ref ea)) (.ref C):=by
      obtain⟨oe,vs,e1,e2,_⟩:=fl5.first
      rw[←e2]
      exact(PySem.W.Looks.ld e1).andThen .now
    refine wpAny_handleBy_cons (codeAny_handlers_test ?_) (by intro q;cases q)
    refine Z3H (X:=X.mrk ea) (I5.mrk ea) hg hm ?_ hd
    refine(PySem.W.exm_one I5.kIn LT ex).here ?_
    refine codeAny_handlers_suite_as ?_
    refine lands_againW fl5 fun h6 fl6 up6=>?_
    have I6:=land (s':=s') I0 (by rw[T.stk];exact fl6) hok os bare un kB tB nw fr ((up4.trans up5).trans up6)
    refine store_ok (X:=X.mrk ea) (v:=.ref ea) (I6.mrk ea) hN hi (Or.inl hk) rfl (fun s7 I7=>?_) (.inr hk)
    refine wpAny_mono (hs ea pins s7 _ _ (D.gone i) I7 (hsuite ea fr)) (fun f s8 q8=>?_) fun _ _ z=>z.elim
    cases f with
    | next =>
      obtain⟨σ8,H8,I8,q8⟩:=q8
      exact JG (I8.unmrk I.ok) hN hi hk fun s9 I9=>⟨_,_,I9,q8⟩
    | brk =>
      obtain⟨σ8,H8,I8,q8⟩:=q8
      exact JG (I8.unmrk I.ok) hN hi hk fun s9 I9=>⟨_,_,I9,q8⟩
    | cont =>
      obtain⟨σ8,H8,I8,q8⟩:=q8
      exact JG (I8.unmrk I.ok) hN hi hk fun s9 I9=>⟨_,_,I9,q8⟩
    | ret u =>
      obtain⟨v,σ8,H8,I8,r8,q8⟩:=q8
      exact JG (I8.unmrk I.ok) hN hi hk fun s9 I9=>⟨v,_,_,I9,r8,q8⟩
  · cases f with
    | next =>
      obtain⟨σ8,H8,I8,q8⟩:=q
      exact wpAny_execs_nil ⟨σ8,H8,I8.unwishP,q8⟩
    | brk =>
      obtain⟨σ8,H8,I8,q8⟩:=q
      exact⟨σ8,H8,I8.unwishP,q8⟩
    | cont =>
      obtain⟨σ8,H8,I8,q8⟩:=q
      exact⟨σ8,H8,I8.unwishP,q8⟩
    | ret u =>
      obtain⟨v,σ8,H8,I8,r8,q8⟩:=q
      exact⟨v,σ8,H8,I8.unwishP,r8,q8⟩
end
open PySem.W PySem.Calls Builtin Builtin.ObjectAttr Builtin.Getset_descriptor
structure XKit (K:PySem.W.Frag)(C:Addr):Prop where
  ga:findIn K (.ref C) "__getattribute__" = some (some (.builtin "BaseException.__getattribute__"))
  gn:findIn K (.ref C) "__getattr__" = some none
  cl:findIn K (.ref C) "__class__" = some (some (.builtin "object.__class__"))
  mo:mroIn K C (.type "object")=some true
  mb:mroIn K C (.type "BaseException")=some true
  cd:(clsIn K C).isSome=true
def AtX (x C:Addr)(h:Heap):Prop:=∃o vs,h.get? x=some o∧o.cls=.ref C∧o.data=.fields vs
section
variable {prog:Program}{w:World}{A:Around}{E:Value→Shared→Prop}{s:Shared}{K:PySem.W.Frag}{x C:Addr}{R:Result→Shared→Prop}
theorem AtX.type {M:Model}{h:Heap}(p:AtX x C h):Looks M h (typeOf (.ref x)) (.ref C):=by
  obtain⟨o,vs,e,c,_⟩:=p
  rw[←c]
  exact(Looks.ld e).andThen .now
theorem jl {tp:Value}(X:K.In s.heap)(p:AtX x C s.heap)(k:XKit K C)(h:R (.ok (.ret (.ref C))) s):codeAny (model prog w) A (.call (.builtin "getset_descriptor.__get__") ⟨[.builtin "object.__class__",.ref x,tp],[]⟩) R s:=by
  obtain⟨h0,g,dr,t,os⟩:=s
  have T0:Looks (model prog w) h0 (typeOf (.ref x)) (.ref C):=p.type
  have T1:=looks_mroIn (M:=model prog w) X k.mo
  refine codeAny_call_builtin KF.slot_gs.plain KF.entry_gs (KF.slot_gs.check _ _ _ _ _ _ _ _ KF.type_class (KF.args_gs _ _ _) ?gs)
  case gs =>
    unfold Builtin.«getset_descriptor.__get__» descrGet
    rw[dga_obj];refine wpAny_bind (wpAny_pure ?_)
    unfold descrGetter descrCheckInstance descrNameAndClass isInstance
    simp only[KF.owner_class];repeat lk
    refine⟨Code.quiet_builtin _ (by decide +kernel),codeAny_builtin KF.entry_class ?_⟩
    unfold Builtin.«object.__class__» shownTypeOf;repeat lk
    exact h
theorem Z1T {M:Model}{nv:Value}{Q:Unit→Shared→Prop}(X:K.In s.heap)(p:AtX x C s.heap)(k:XKit K C)(hq:Q () s):wpAny M A (checkBuiltinCall "BaseException.__getattribute__" ⟨[.ref x,nv],[]⟩) Q E s:=by
  obtain⟨h0,g,dr,t,os⟩:=s
  have T0:Looks M h0 (typeOf (.ref x)) (.ref C):=p.type
  have T1:=looks_mroIn (M:=M) X k.mb
  have b1:builtinKind "BaseException.__getattribute__" = some .slot:=by decide +kernel
  have b2:splitId "BaseException.__getattribute__" = some ("BaseException", "__getattribute__"):=by decide +kernel
  have b3:=F.args_bexc_ga (.ref x) nv
  simp only[checkBuiltinCall,b1,b2]
  unfold isInstance
  refine wpAny_bind (wpAny_bind (T0.at (T1.at ?_)))
  repeat (any_goals (first | assumption | wp_step))
theorem Z1S {tk:Tok}{Q:Fin→Shared→Prop}(X:K.In s.heap)(p:AtX x C s.heap)(k:XKit K C)(h:Q (.done (.ret (.ref C))) s):wpAny (model prog w) A (Builtin.«object.__getattribute__» ⟨[.ref x,.str "__class__" tk],[]⟩) Q E s:=by
  obtain⟨h0,g,dr,t,os⟩:=s
  have T0:Looks (model prog w) h0 (typeOf (.ref x)) (.ref C):=p.type
  have T1:=looks_findIn (M:=model prog w) X k.cl
  have f5:=KF.type_class
  have f6:=F.slot_gs_get.lookup
  have f7:=F.slot_gs_set.lookup
  repeat (any_goals (first | assumption | with_reducible refine T0.at ?_ | with_reducible refine T1.at ?_ | wp_step))
  exact jl X p k (wpAny_pure h)
theorem Z2J {tk:Tok}(X:K.In s.heap)(p:AtX x C s.heap)(k:XKit K C)(h:R (.ok (.ret (.ref C))) s):codeAny (model prog w) A (.call (.builtin "BaseException.__getattribute__") ⟨[.ref x,.str "__class__" tk],[]⟩) R s :=
  codeAny_call_builtin F.attr_ValueError.ga.plain F.entry_bexc_ga (Z1T X p k (Z1S X p k h))
theorem Z3J {tk:Tok}{fill expr:Bool}{Q:Value→Shared→Prop}(X:K.In s.heap)(p:AtX x C s.heap)(k:XKit K C)(h:Q (.ref C) s):wpAny (model prog w) A (getAttrBy (.ref x) (.str "__class__" tk) fill expr) Q E s:=by
  obtain⟨h0,g,dr,t,os⟩:=s
  have T0:Looks (model prog w) h0 (typeOf (.ref x)) (.ref C):=p.type
  have T1:=looks_findIn (M:=model prog w) X k.ga
  have T2:=looks_findIn (M:=model prog w) X k.gn
  have f3:=F.attr_ValueError.ga.bind (.ref x)
  have y0:(expr&&onTheHeap (Value.builtin "BaseException.__getattribute__"))=false:=by cases expr <;> rfl
  have y2:(Value.builtin "BaseException.__getattribute__" == Value.builtin "object.__getattribute__")=false:=by decide +kernel
  have y1:(onTheHeap (Value.ref C)&&Value.builtin "BaseException.__getattribute__" == Value.builtin "object.__getattribute__")=false:=by rw[y2];rfl
  repeat (any_goals (first | assumption | with_reducible refine T0.at ?_ | with_reducible refine T1.at ?_ | with_reducible refine T2.at ?_ | wp_step))
  refine Z2J X p k ?_
  show wpAny _ _ (handedOut (.ref C)) _ _ _
  exact handed_on rfl h
theorem Z2K {Q:Option Value→Shared→Prop}(X:K.In s.heap)(p:AtX x C s.heap)(k:XKit K C)(h:Q (some (.ref C)) { s with toks:=s.toks+1 }):wpAny (model prog w) A (getAttr? (.ref x) "__class__") Q E s:=by
  obtain⟨h0,g,dr,t,os⟩:=s
  unfold getAttr? getAttrBy?
  refine wpAny_bind (wpAny_mkText (wpAny_bind (wpAny_attempt (Z3J (s:=⟨h0,g,dr,t+1,os⟩) X p k (wpAny_pure h)))))
theorem j6 (k:XKit K C):KitX K (.ref x) (.ref C) (AtX x C) where
  ty:=fun _ _ _ p=>p.type
  it:=fun _ _ X _=>by
    obtain⟨c,hc⟩:=Option.isSome_iff_exists.mp k.cd
    unfold clsIn at hc
    split at hc
    · rename_i ho
      intro A' Q' E' s' kk q
      unfold isType loadHead;exact wpAny_bind (wpAny_loadPart (kk _ _ (X _ _ ho)) (wpAny_pure q))
    · cases hc
  ne:=fun h tp dd its n sl X htp=>by
    obtain⟨c,hc⟩:=Option.isSome_iff_exists.mp k.cd
    refine Bool.eq_false_iff.mpr fun q=>?_
    cases Value.ref.inj (beq_iff_eq.mp q)
    unfold clsIn at hc
    split at hc
    · rename_i ho
      cases (X _ _ ho).symm.trans htp
    · cases hc
  ca:=fun X p q=>Z2K X p k q
end
end L2
namespace L2.L3
open PySem PySem.Spec PyProof.Rows
structure Grow (G H G' H':Hp):Prop where
 same:Same H H'
 old:∀b,H b≠none→G' b=G b
 sub:Same G' H'
theorem Grow.refl {G H:Hp}(h:Same G H):Grow G H G H:=⟨Same.refl H,fun _ _=>rfl,h⟩
theorem Y4 {H:Hp}{b:Addr}{o:HO}(h:H b=some o):H b≠none:=by rw[h];exact fun z=>nomatch z
theorem Same.live {H H':Hp}(s:Same H H'){b:Addr}(h:H b≠none):H' b≠none:=by
 cases e:H b with
 | none=>exact absurd e h
 | some o=>rw[s b o e];exact fun z=>nomatch z
theorem Same.dead {H H':Hp}(s:Same H H'){b:Addr}(h:H' b=none):H b=none:=s.free h
theorem Grow.trans {G H G1 H1 G2 H2:Hp}(a:Grow G H G1 H1)(b:Grow G1 H1 G2 H2):Grow G H G2 H2 :=
 ⟨a.same.trans b.same,fun c h=>(b.old c (Same.live a.same h)).trans (a.old c h),b.sub⟩
theorem Grow.gg {G H G' H':Hp}(g:Grow G H G' H')(s:Same G H):Same G G':=fun b o e=>by rw[g.old b (Y4 (s b o e))];exact e
theorem Grow.new {G H:Hp}{p:Addr}{o:HO}(s:Same G H)(h:H p=none):Grow G H (upd G p o) (upd H p o):=by
 have hg:G p=none:=Same.dead s h
 refine⟨Same.new h,fun b hb=>upd_ne (fun z=>hb (by rw[z];exact h)),fun b u e=>?_⟩
 by_cases z:b=p
 · subst z;rw[upd_same] at e ⊢;exact e
 · rw[upd_ne z] at e ⊢;exact s b u e
theorem Grow.newOwn {G H:Hp}{p:Addr}{o:HO}(s:Same G H)(h:H p=none):Grow G H G (upd H p o) :=
 ⟨Same.new h,fun b _=>rfl,s.trans (Same.new h)⟩
inductive Slot where
 | un | dat (d:D) | own (ds:List D) | dk (kvs:List (Key × D)) | dt (kvs:List (List Key × D))
abbrev Ro:=List Slot
abbrev Ents {κ:Type}(K:PySem.W.Frag)(G:Hp):List (κ × D)→List (κ × V)→Prop:=Paired fun p q=>p.1=q.1∧Is K G p.2 q.2
def DicO (K:PySem.W.Frag)(G:Hp):Slot→HO→Prop
 | .dk kvs,o=>∃es,o=.dK es∧Ents K G kvs es
 | .dt kvs,o=>∃es,o=.dT es∧Ents K G kvs es
 | _,_=>False
theorem Ents.keep {κ:Type}{K:PySem.W.Frag}{G G':Hp}(k:Keeps2 K G G'):∀ {kvs:List (κ × D)} {es:List (κ × V)},Ents K G kvs es→Ents K G' kvs es
 | _,_,.nil=>.nil
 | _,_,.cons r t=>.cons ⟨r.1,r.2.keep k⟩ (Ents.keep k t)
theorem DicO.keep {K:PySem.W.Frag}{G G':Hp}(k:Keeps2 K G G'){s:Slot}{o:HO}(h:DicO K G s o):DicO K G' s o:=by
 cases s with
 | dk kvs=>obtain⟨es,e,r⟩:=h;exact⟨es,e,r.keep k⟩
 | dt kvs=>obtain⟨es,e,r⟩:=h;exact⟨es,e,r.keep k⟩
 | un=>exact h.elim
 | dat d=>exact h.elim
 | own ds=>exact h.elim
theorem DicO.no {K:PySem.W.Frag}{G:Hp}{s:Slot}{xs:List V}(h:DicO K G s (.lst xs)):False:=by
 cases s with
 | dk kvs=>obtain⟨es,e,r⟩:=h;cases e
 | dt kvs=>obtain⟨es,e,r⟩:=h;cases e
 | un=>exact h
 | dat d=>exact h
 | own ds=>exact h
def Slot.isD:Slot→Bool
 | .dk _=>true
 | .dt _=>true
 | _=>false
structure Conf (K:PySem.W.Frag)(G0 H0:Hp)(ρ:Ro)(G:Hp)(σ:St)(H:Hp):Prop where
 grow:Grow G0 H0 G H
 len:σ.length=ρ.length
 dat:∀(i:Nat) d,ρ[i]? = some (.dat d)→∃v,σ[i]? = some (some v)∧Is K G d v
 own:∀(i:Nat) ds,ρ[i]? = some (.own ds)→∃a xs,σ[i]? = some (some (.ref a))∧G a=none∧H0 a=none∧H a=some (.lst xs)∧IsL K G ds xs
 sep:∀(i j:Nat) ds es a,i≠j→ρ[i]? = some (.own ds)→ρ[j]? = some (.own es)→σ[i]? = some (some (.ref a))→σ[j]? ≠ some (some (.ref a))
 dic:∀(i:Nat) t,t.isD=true→ρ[i]? = some t→∃a o,σ[i]? = some (some (.ref a))∧G a=none∧H0 a=none∧H a=some o∧DicO K G t o
 sepd:∀(i j:Nat) t u a,i≠j→t.isD=true→u.isD=true→ρ[i]? = some t→ρ[j]? = some u→σ[i]? = some (some (.ref a))→σ[j]? ≠ some (some (.ref a))
section
variable {K:PySem.W.Frag}{G0 H0:Hp}{ρ:Ro}{G G':Hp}{σ:St}{H H':Hp}
theorem Conf.sub (c:Conf K G0 H0 ρ G σ H):Same G H:=c.grow.sub
theorem Conf.up (c:Conf K G0 H0 ρ G σ H)(g:Grow G H G' H'):Conf K G0 H0 ρ G' σ H' where
 grow:=c.grow.trans g
 len:=c.len
 dat:=fun i d e=>by
  obtain⟨v,h1,h2⟩:=c.dat i d e
  exact⟨v,h1,h2.keep (g.gg c.sub).keeps⟩
 own:=fun i ds e=>by
  obtain⟨a,xs,h1,h2,h3,h4,h5⟩:=c.own i ds e
  exact⟨a,xs,h1,(g.old a (Y4 h4)).trans h2,h3,g.same _ _ h4,h5.keep (g.gg c.sub).keeps⟩
 sep:=c.sep
 dic:=fun i t ht e=>by
  obtain⟨a,o,h1,h2,h3,h4,h5⟩:=c.dic i t ht e
  exact⟨a,o,h1,(g.old a (Y4 h4)).trans h2,h3,g.same _ _ h4,h5.keep (g.gg c.sub).keeps⟩
 sepd:=c.sepd
theorem Zn {ρ:Ro}{i j:Nat}{s t:Slot}(hs:s.isD=false)(ht:t.isD=true)(e:(ρ.set i s)[j]? = some t):i≠j∧ρ[j]? = some t:=by
 have nj:i≠j:=fun z=>by
  subst z
  rw[List.getElem?_set_self'] at e
  cases q:ρ[i]? with
  | none=>rw[q] at e;cases e
  | some s'=>rw[q] at e;injection e with e;rw[←e] at ht;rw[show s.isD=true from ht] at hs;cases hs
 exact⟨nj,by rw[List.getElem?_set_ne nj] at e;exact e⟩
theorem Conf.put {i:Nat}{v:V}{d:D}(c:Conf K G0 H0 ρ G σ H)(h:Is K G d v):Conf K G0 H0 (ρ.set i (.dat d)) G (σ.set i (some v)) H where
 grow:=c.grow
 len:=by rw[List.length_set,List.length_set];exact c.len
 dat:=fun j d' e=>by
  by_cases z:i=j
  · subst z
    rw[List.getElem?_set_self'] at e
    cases q:ρ[i]? with
    | none=>rw[q] at e;cases e
    | some s =>
     rw[q] at e
     have e':d=d':=by injection e with e;injection e
     subst e'
     have hl:i<σ.length:=by rw[c.len];exact(List.getElem?_eq_some_iff.mp q).1
     exact⟨v,by rw[List.getElem?_set_self hl],h⟩
  · rw[List.getElem?_set_ne z] at e
    obtain⟨u,h1,h2⟩:=c.dat j d' e
    exact⟨u,by rw[List.getElem?_set_ne z];exact h1,h2⟩
 own:=fun j ds e=>by
  by_cases z:i=j
  · subst z
    rw[List.getElem?_set_self'] at e
    cases q:ρ[i]? with
    | none=>rw[q] at e;cases e
    | some s=>rw[q] at e;injection e with e;injection e
  · rw[List.getElem?_set_ne z] at e
    obtain⟨a,xs,h1,r⟩:=c.own j ds e
    exact⟨a,xs,by rw[List.getElem?_set_ne z];exact h1,r⟩
 sep:=fun j k ds es a ne e1 e2 h1=>by
  have nj:i≠j:=fun z=>by
   subst z
   rw[List.getElem?_set_self'] at e1
   cases q:ρ[i]? with
   | none=>rw[q] at e1;cases e1
   | some s=>rw[q] at e1;injection e1 with e1;injection e1
  have nk:i≠k:=fun z=>by
   subst z
   rw[List.getElem?_set_self'] at e2
   cases q:ρ[i]? with
   | none=>rw[q] at e2;cases e2
   | some s=>rw[q] at e2;injection e2 with e2;injection e2
  rw[List.getElem?_set_ne nj] at e1 h1
  rw[List.getElem?_set_ne nk] at e2 ⊢
  exact c.sep j k ds es a ne e1 e2 h1
 dic:=fun j t ht e=>by
  obtain⟨nj,e⟩:=Zn rfl ht e
  rw[List.getElem?_set_ne nj]
  exact c.dic j t ht e
 sepd:=fun j k t u a ne ht hu e1 e2 h1=>by
  obtain⟨nj,e1⟩:=Zn rfl ht e1
  obtain⟨nk,e2⟩:=Zn rfl hu e2
  rw[List.getElem?_set_ne nj] at h1
  rw[List.getElem?_set_ne nk]
  exact c.sepd j k t u a ne ht hu e1 e2 h1
theorem Conf.putOwn {i:Nat}{a:Addr}{ds:List D}{xs:List V}(c:Conf K G0 H0 ρ G σ H)(hg:G a=none)(h0:H0 a=none)(ha:H a=some (.lst xs))(h:IsL K G ds xs)
 (hs:∀(j:Nat) es,j≠i→ρ[j]? = some (.own es)→σ[j]? ≠ some (some (.ref a))):Conf K G0 H0 (ρ.set i (.own ds)) G (σ.set i (some (.ref a))) H where
 grow:=c.grow
 len:=by rw[List.length_set,List.length_set];exact c.len
 dat:=fun j d' e=>by
  by_cases z:i=j
  · subst z
    rw[List.getElem?_set_self'] at e
    cases q:ρ[i]? with
    | none=>rw[q] at e;cases e
    | some s=>rw[q] at e;injection e with e;injection e
  · rw[List.getElem?_set_ne z] at e
    obtain⟨u,h1,h2⟩:=c.dat j d' e
    exact⟨u,by rw[List.getElem?_set_ne z];exact h1,h2⟩
 own:=fun j ds' e=>by
  by_cases z:i=j
  · subst z
    rw[List.getElem?_set_self'] at e
    cases q:ρ[i]? with
    | none=>rw[q] at e;cases e
    | some s =>
     rw[q] at e
     have e':ds=ds':=by injection e with e;injection e
     subst e'
     have hl:i<σ.length:=by rw[c.len];exact(List.getElem?_eq_some_iff.mp q).1
     exact⟨a,xs,by rw[List.getElem?_set_self hl],hg,h0,ha,h⟩
  · rw[List.getElem?_set_ne z] at e
    obtain⟨b,ys,h1,r⟩:=c.own j ds' e
    exact⟨b,ys,by rw[List.getElem?_set_ne z];exact h1,r⟩
 sep:=fun j k es fs b ne e1 e2 h1=>by
  by_cases zj:i=j
  · subst zj
    rw[List.getElem?_set_ne ne] at e2 ⊢
    have hl:i<σ.length:=by
     rw[List.getElem?_set_self'] at e1
     cases q:ρ[i]? with
     | none=>rw[q] at e1;cases e1
     | some s=>rw[c.len];exact(List.getElem?_eq_some_iff.mp q).1
    rw[List.getElem?_set_self hl] at h1
    have hb:a=b:=by injection h1 with h1;injection h1 with h1;injection h1
    subst hb
    exact hs k fs (fun z=>ne z.symm) e2
  · rw[List.getElem?_set_ne zj] at e1 h1
    by_cases zk:i=k
    · subst zk
      have hl:i<σ.length:=by
       rw[List.getElem?_set_self'] at e2
       cases q:ρ[i]? with
       | none=>rw[q] at e2;cases e2
       | some s=>rw[c.len];exact(List.getElem?_eq_some_iff.mp q).1
      rw[List.getElem?_set_self hl]
      intro h2
      have hb:a=b:=by injection h2 with h2;injection h2 with h2;injection h2
      subst hb
      exact hs j es ne e1 h1
    · rw[List.getElem?_set_ne zk] at e2 ⊢
      exact c.sep j k es fs b ne e1 e2 h1
 dic:=fun j t ht e=>by
  obtain⟨nj,e⟩:=Zn rfl ht e
  rw[List.getElem?_set_ne nj]
  exact c.dic j t ht e
 sepd:=fun j k t u b ne ht hu e1 e2 h1=>by
  obtain⟨nj,e1⟩:=Zn rfl ht e1
  obtain⟨nk,e2⟩:=Zn rfl hu e2
  rw[List.getElem?_set_ne nj] at h1
  rw[List.getElem?_set_ne nk]
  exact c.sepd j k t u b ne ht hu e1 e2 h1
theorem Conf.frz {i:Nat}{ds:List D}(c:Conf K G0 H0 ρ G σ H)(e:ρ[i]? = some (.own ds)) :
 ∃a xs,σ[i]? = some (some (.ref a))∧G a=none∧H a=some (.lst xs)∧IsL K G ds xs∧Conf K G0 H0 (ρ.set i (.dat (.lst ds))) (upd G a (.lst xs)) σ H∧Same G (upd G a (.lst xs)):=by
 obtain⟨a,xs,h1,h2,h3,h4,h5⟩:=c.own i ds e
 have sg:Same G (upd G a (.lst xs)):=Same.new h2
 have hi:i<ρ.length:=(List.getElem?_eq_some_iff.mp e).1
 refine⟨a,xs,h1,h2,h4,h5,⟨⟨c.grow.same,fun b hb=>?_,fun b u q=>?_⟩,?_,fun j d' q=>?_,fun j es q=>?_,fun j k es fs b ne e1 e2 q1=>?_,fun j t ht q=>?_,fun j k t u b ne ht hu e1 e2 q1=>?_⟩,sg⟩
 · rw[upd_ne (fun z=>hb (by rw[z];exact h3))];exact c.grow.old b hb
 · by_cases z:b=a
   · subst z;rw[upd_same] at q;rw[←q];exact h4
   · rw[upd_ne z] at q;exact c.sub b u q
 · rw[List.length_set];exact c.len
 · by_cases z:i=j
   · subst z
     rw[List.getElem?_set_self hi] at q
     have q':D.lst ds=d':=by injection q with q;injection q
     subst q'
     exact⟨.ref a,h1,Is.ofLst (SqL.of upd_same) (h5.keep sg.keeps)⟩
   · rw[List.getElem?_set_ne z] at q
     obtain⟨u,g1,g2⟩:=c.dat j d' q
     exact⟨u,g1,g2.keep sg.keeps⟩
 · by_cases z:i=j
   · subst z
     rw[List.getElem?_set_self hi] at q
     injection q with q;injection q
   · rw[List.getElem?_set_ne z] at q
     obtain⟨b,ys,g1,g2,g3,g4,g5⟩:=c.own j es q
     have nb:b≠a:=fun w=>by subst w;exact c.sep i j ds es b z e q h1 g1
     exact⟨b,ys,g1,by rw[upd_ne nb];exact g2,g3,g4,g5.keep sg.keeps⟩
 · have nj:i≠j:=fun z=>by
    subst z
    rw[List.getElem?_set_self hi] at e1;injection e1 with e1;injection e1
   have nk:i≠k:=fun z=>by
    subst z
    rw[List.getElem?_set_self hi] at e2;injection e2 with e2;injection e2
   rw[List.getElem?_set_ne nj] at e1
   rw[List.getElem?_set_ne nk] at e2
   exact c.sep j k es fs b ne e1 e2 q1
 · obtain⟨nj,q⟩:=Zn rfl ht q
   obtain⟨b,o,g1,g2,g3,g4,g5⟩:=c.dic j t ht q
   have nb:b≠a:=fun w=>by subst w;rw[h4] at g4;cases g4;exact g5.no
   exact⟨b,o,g1,by rw[upd_ne nb];exact g2,g3,g4,g5.keep sg.keeps⟩
 · obtain⟨nj,e1⟩:=Zn rfl ht e1
   obtain⟨nk,e2⟩:=Zn rfl hu e2
   exact c.sepd j k t u b ne ht hu e1 e2 q1
def Wk:Ro→Ro→Prop
 | [],[]=>True
 | a::as,b::bs=>(a=.un∨a=b)∧Wk as bs
 | _,_=>False
theorem Wk.len:∀ {a b:Ro},Wk a b→a.length=b.length
 | [],[],_=>rfl
 | _::_,_::_,h=>by rw[List.length_cons,List.length_cons,Wk.len h.2]
theorem Wk.get:∀ {a b:Ro} {i:Nat} {s:Slot},Wk a b→a[i]? = some s→s=.un∨b[i]? = some s
 | [],[],_,_,_,e=>by simp at e
 | a::as,b::bs,0,s,h,e=>by
  simp at e
  subst e
  rcases h.1 with z | z
  · exact .inl z
  · right;simp[z]
 | a::as,b::bs,i+1,s,h,e=>by
  rcases Wk.get h.2 (show as[i]? = some s by simpa using e) with z | z
  · exact .inl z
  · right;simpa using z
theorem Conf.weak {ρ':Ro}(c:Conf K G0 H0 ρ G σ H)(w:Wk ρ' ρ):Conf K G0 H0 ρ' G σ H where
 grow:=c.grow
 len:=c.len.trans w.len.symm
 dat:=fun i d e=>by
  rcases w.get e with z | z
  · cases z
  · exact c.dat i d z
 own:=fun i ds e=>by
  rcases w.get e with z | z
  · cases z
  · exact c.own i ds z
 sep:=fun i j ds es a ne e1 e2 h1=>by
  rcases w.get e1 with z | z
  · cases z
  · rcases w.get e2 with y | y
    · cases y
    · exact c.sep i j ds es a ne z y h1
 dic:=fun i t ht e=>by
  rcases w.get e with z | z
  · subst z;cases ht
  · exact c.dic i t ht z
 sepd:=fun i j t u a ne ht hu e1 e2 h1=>by
  rcases w.get e1 with z | z
  · subst z;cases ht
  · rcases w.get e2 with y | y
    · subst y;cases hu
    · exact c.sepd i j t u a ne ht hu z y h1
theorem Conf.write {i:Nat}{ds es:List D}{a:Addr}{xs ys:List V}(c:Conf K G0 H0 ρ G σ H)(e:ρ[i]? = some (.own ds))(h1:σ[i]? = some (some (.ref a)))(h:IsL K G es ys)(ha:H a=some (.lst xs)) :
 Conf K G0 H0 (ρ.set i (.own es)) G σ (upd H a (.lst ys)):=by
 obtain⟨a',xs',g1,g2,g3,g4,g5⟩:=c.own i ds e
 have q:a'=a:=by rw[h1] at g1;injection g1 with g1;injection g1 with g1;injection g1 with g1;exact g1.symm
 subst q
 have hi:i<ρ.length:=(List.getElem?_eq_some_iff.mp e).1
 refine⟨⟨fun b o z=>?_,c.grow.old,fun b o z=>?_⟩,?_,fun j d' q=>?_,fun j fs q=>?_,fun j k fs gs b ne e1 e2 q1=>?_,fun j t ht q=>?_,fun j k t u b ne ht hu e1 e2 q1=>?_⟩
 · rw[upd_ne (ne_of_none z g3)];exact c.grow.same b o z
 · rw[upd_ne (ne_of_none z g2)];exact c.sub b o z
 · rw[List.length_set];exact c.len
 · by_cases z:i=j
   · subst z
     rw[List.getElem?_set_self hi] at q;injection q with q;injection q
   · rw[List.getElem?_set_ne z] at q
     exact c.dat j d' q
 · by_cases z:i=j
   · subst z
     rw[List.getElem?_set_self hi] at q
     have q':es=fs:=by injection q with q;injection q
     subst q'
     exact⟨a',ys,h1,g2,g3,upd_same,h⟩
   · rw[List.getElem?_set_ne z] at q
     obtain⟨b,zs,k1,k2,k3,k4,k5⟩:=c.own j fs q
     have nb:b≠a':=fun w=>by subst w;exact c.sep i j ds fs b z e q h1 k1
     exact⟨b,zs,k1,k2,k3,by rw[upd_ne nb];exact k4,k5⟩
 · have own_of:∀ {j:Nat} {fs:List D},(ρ.set i (.own es))[j]? = some (.own fs)→∃gs,ρ[j]? = some (.own gs):=fun {j fs} w=>by
    by_cases z:i=j
    · subst z;exact⟨ds,e⟩
    · rw[List.getElem?_set_ne z] at w;exact⟨fs,w⟩
   obtain⟨f1,w1⟩:=own_of e1
   obtain⟨f2,w2⟩:=own_of e2
   exact c.sep j k f1 f2 b ne w1 w2 q1
 · obtain⟨nj,q⟩:=Zn rfl ht q
   obtain⟨b,o,k1,k2,k3,k4,k5⟩:=c.dic j t ht q
   have nb:b≠a':=fun w=>by subst w;rw[g4] at k4;cases k4;exact k5.no
   exact⟨b,o,k1,k2,k3,by rw[upd_ne nb];exact k4,k5⟩
 · obtain⟨nj,e1⟩:=Zn rfl ht e1
   obtain⟨nk,e2⟩:=Zn rfl hu e2
   exact c.sepd j k t u b ne ht hu e1 e2 q1
theorem Conf.putD {i:Nat}{a:Addr}{t:Slot}{o:HO}(c:Conf K G0 H0 ρ G σ H)(ht:t.isD=true)(hn:H a=none)(h:DicO K G t o):Conf K G0 H0 (ρ.set i t) G (σ.set i (some (.ref a))) (upd H a o):=by
 have hg:G a=none:=Same.dead c.sub hn
 have h0:H0 a=none:=Same.dead c.grow.same hn
 have nd:∀ {s:Slot},s.isD=false→∀ {j:Nat},(ρ.set i t)[j]? = some s→i≠j∧ρ[j]? = some s:=fun {s} hs {j} q=>by
  have nj:i≠j:=fun z=>by
   subst z
   rw[List.getElem?_set_self'] at q
   cases r:ρ[i]? with
   | none=>rw[r] at q;cases q
   | some s'=>rw[r] at q;injection q with q;rw[show t=s from q] at ht;rw[ht] at hs;cases hs
  exact⟨nj,by rw[List.getElem?_set_ne nj] at q;exact q⟩
 have old:∀ {j:Nat} {s:Slot},s.isD=true→ρ[j]? = some s→∀b,σ[j]? = some (some (.ref b))→b≠a:=fun {j s} hs q b hb z=>by
  subst z
  obtain⟨b',ob,k1,k2,k3,k4,k5⟩:=c.dic j s hs q
  rw[hb] at k1
  have:b=b':=by injection k1 with k1;injection k1 with k1;injection k1
  subst this
  rw[hn] at k4;cases k4
 refine⟨⟨fun b o z=>?_,c.grow.old,fun b o z=>?_⟩,?_,fun j d' q=>?_,fun j fs q=>?_,fun j k fs gs b ne e1 e2 q1=>?_,fun j s hs q=>?_,fun j k s u b ne hs hu e1 e2 q1=>?_⟩
 · rw[upd_ne (ne_of_none z h0)];exact c.grow.same b o z
 · rw[upd_ne (ne_of_none z hg)];exact c.sub b o z
 · rw[List.length_set,List.length_set];exact c.len
 · obtain⟨nj,q⟩:=nd rfl q
   rw[List.getElem?_set_ne nj]
   exact c.dat j d' q
 · obtain⟨nj,q⟩:=nd rfl q
   rw[List.getElem?_set_ne nj]
   obtain⟨b,zs,k1,k2,k3,k4,k5⟩:=c.own j fs q
   exact⟨b,zs,k1,k2,k3,by rw[upd_ne (ne_of_none k4 hn)];exact k4,k5⟩
 · obtain⟨nj,e1⟩:=nd rfl e1
   obtain⟨nk,e2⟩:=nd rfl e2
   rw[List.getElem?_set_ne nj] at q1
   rw[List.getElem?_set_ne nk]
   exact c.sep j k fs gs b ne e1 e2 q1
 · by_cases z:i=j
   · subst z
     rw[List.getElem?_set_self'] at q
     cases r:ρ[i]? with
     | none=>rw[r] at q;cases q
     | some s' =>
      rw[r] at q
      have q':t=s:=by injection q
      subst q'
      have hl:i<σ.length:=by rw[c.len];exact(List.getElem?_eq_some_iff.mp r).1
      exact⟨a,o,by rw[List.getElem?_set_self hl],hg,h0,upd_same,h⟩
   · rw[List.getElem?_set_ne z] at q ⊢
     obtain⟨b,ob,k1,k2,k3,k4,k5⟩:=c.dic j s hs q
     exact⟨b,ob,k1,k2,k3,by rw[upd_ne (ne_of_none k4 hn)];exact k4,k5⟩
 · by_cases zj:i=j
   · subst zj
     rw[List.getElem?_set_ne ne] at e2 ⊢
     have hl:i<σ.length:=by
      rw[List.getElem?_set_self'] at e1
      cases r:ρ[i]? with
      | none=>rw[r] at e1;cases e1
      | some s'=>rw[c.len];exact(List.getElem?_eq_some_iff.mp r).1
     rw[List.getElem?_set_self hl] at q1
     have hb:a=b:=by injection q1 with q1;injection q1 with q1;injection q1
     subst hb
     exact fun z=>old hu e2 a z rfl
   · rw[List.getElem?_set_ne zj] at e1 q1
     by_cases zk:i=k
     · subst zk
       have hl:i<σ.length:=by
        rw[List.getElem?_set_self'] at e2
        cases r:ρ[i]? with
        | none=>rw[r] at e2;cases e2
        | some s'=>rw[c.len];exact(List.getElem?_eq_some_iff.mp r).1
       rw[List.getElem?_set_self hl]
       intro h2
       have hb:a=b:=by injection h2 with h2;injection h2 with h2;injection h2
       subst hb
       exact old hs e1 a q1 rfl
     · rw[List.getElem?_set_ne zk] at e2 ⊢
       exact c.sepd j k s u b ne hs hu e1 e2 q1
end
section
variable {κ:Type}{K:PySem.W.Frag}{G:Hp}
theorem Ents.keys:∀ {kvs:List (κ × D)} {es:List (κ × V)},Ents K G kvs es→es.map (·.1)=kvs.map (·.1)∧IsL K G (kvs.map (·.2)) (es.map (·.2))
 | _,_,.nil=>⟨rfl,by unfold IsL;rfl⟩
 | _,_,.cons r t=>by
  obtain⟨h1,h2⟩:=Ents.keys t
  exact⟨by rw[List.map_cons,List.map_cons,h1,r.1],IsL.cons r.2 h2⟩
end
def Slot.frzd:Slot→D
 | .dk kvs=>.dct (kvs.map (·.1)) (kvs.map (·.2))
 | .dt kvs=>.dtp (kvs.map (·.1)) (kvs.map (·.2))
 | _=>.non
theorem DicO.is {K:PySem.W.Frag}{G:Hp}{a:Addr}{o:HO}{t:Slot}(h2:G a=none)(h5:DicO K G t o):Is K (upd G a o) t.frzd (.ref a):=by
 have sg:Same G (upd G a o):=Same.new h2
 cases t with
 | dk kvs =>
  obtain⟨es,rfl,r⟩:=h5
  obtain⟨k1,k2⟩:=(r.keep sg.keeps).keys
  unfold Slot.frzd Is
  exact⟨a,es,rfl,upd_same,k1,k2⟩
 | dt kvs =>
  obtain⟨es,rfl,r⟩:=h5
  obtain⟨k1,k2⟩:=(r.keep sg.keeps).keys
  unfold Slot.frzd Is
  exact⟨a,es,rfl,upd_same,k1,k2⟩
 | un=>exact h5.elim
 | dat d=>exact h5.elim
 | own ds=>exact h5.elim
inductive R where
 | dat (d:D) | own (ds:List D) | od (t:Slot)
def R.slot:R→Slot
 | .dat d=>.dat d
 | .own ds=>.own ds
 | .od t=>t
def R.d:R→D
 | .dat d=>d
 | .own ds=>.lst ds
 | .od t=>t.frzd
def Got (K:PySem.W.Frag)(G' H H':Hp):R→V→Prop
 | .dat d,v=>Is K G' d v
 | .own ds,v=>∃a xs,v=.ref a∧G' a=none∧H a=none∧H' a=some (.lst xs)∧IsL K G' ds xs
 | .od t,v=>∃a o,v=.ref a∧t.isD=true∧G' a=none∧H a=none∧H' a=some o∧DicO K G' t o
theorem Got.old {K:PySem.W.Frag}{G' H H1 H':Hp}{r:R}{v:V}(g:Got K G' H1 H' r v)(s:Same H H1):Got K G' H H' r v:=by
 cases r with
 | dat d=>exact g
 | own ds =>
  obtain⟨a,xs,e,h1,h2,h3,h4⟩:=g
  exact⟨a,xs,e,h1,Same.dead s h2,h3,h4⟩
 | od t =>
  obtain⟨a,o,e,h0,h1,h2,h3,h4⟩:=g
  exact⟨a,o,e,h0,h1,Same.dead s h2,h3,h4⟩
theorem Got.share {K:PySem.W.Frag}{G H G' H':Hp}{r:R}{v:V}(g:Got K G' H H' r v)(w:Grow G H G' H'):∃G'',Grow G H G'' H'∧Is K G'' r.d v:=by
 cases r with
 | dat d=>exact⟨G',w,g⟩
 | own ds =>
  obtain⟨a,xs,e,h1,h2,h3,h4⟩:=g
  subst e
  refine⟨upd G' a (.lst xs),⟨w.same,fun b hb=>?_,fun b u q=>?_⟩,Is.ofLst (SqL.of upd_same) (h4.keep (Same.new h1).keeps)⟩
  · rw[upd_ne (fun z=>hb (by rw[z];exact h2))];exact w.old b hb
  · by_cases z:b=a
    · subst z;rw[upd_same] at q;rw[←q];exact h3
    · rw[upd_ne z] at q;exact w.sub b u q
 | od t =>
  obtain⟨a,o,e,h0,h1,h2,h3,h4⟩:=g
  subst e
  refine⟨upd G' a o,⟨w.same,fun b hb=>?_,fun b u q=>?_⟩,h4.is h1⟩
  · rw[upd_ne (fun z=>hb (by rw[z];exact h2))];exact w.old b hb
  · by_cases z:b=a
    · subst z;rw[upd_same] at q;rw[←q];exact h3
    · rw[upd_ne z] at q;exact w.sub b u q
theorem Conf.got {K:PySem.W.Frag}{G0 H0 G H G' H':Hp}{ρ:Ro}{σ:St}{r:R}{v:V}{i:Nat}(c:Conf K G0 H0 ρ G σ H)(w:Grow G H G' H')(g:Got K G' H H' r v):Conf K G0 H0 (ρ.set i r.slot) G' (σ.set i (some v)) H':=by
 have c':=c.up w
 cases r with
 | dat d=>exact c'.put g
 | own ds =>
  obtain⟨a,xs,e,h1,h2,h3,h4⟩:=g
  subst e
  refine c'.putOwn h1 (Same.dead c.grow.same h2) h3 h4 fun j es _ q z=>?_
  obtain⟨b,ys,k1,_,_,k4,_⟩:=c.own j es q
  rw[z] at k1
  have:a=b:=by injection k1 with k1;injection k1 with k1;injection k1
  subst this
  rw[h2] at k4;cases k4
 | od t =>
  obtain⟨a,o,e,h0,h1,h2,h3,h4⟩:=g
  subst e
  have w':Grow G H G' (fun b=>if b=a then none else H' b):=⟨fun b u q=>by
   show (if b=a then none else H' b)=some u
   rw[if_neg (fun z=>by rw[z,h2] at q;cases q)];exact w.same b u q,w.old,fun b u q=>by
   show (if b=a then none else H' b)=some u
   rw[if_neg (fun z=>by rw[z,h1] at q;cases q)];exact w.sub b u q⟩
  have:=(c.up w').putD (i:=i) (a:=a) h0 (if_pos rfl) h4
  have eH:upd (fun b=>if b=a then none else H' b) a o=H':=funext fun b=>by
   by_cases z:b=a
   · subst z;rw[upd_same,h3]
   · rw[upd_ne z];exact if_neg z
  rw[eH] at this
  exact this
abbrev XW:=Addr→St→Hp→Prop
inductive O where
 | nx (ρ:Ro) | bk (ρ:Ro) | ct (ρ:Ro) | lp (ρ:Ro) | rt (r:R) | ex (C:Addr) (ρ:Ro)
def Fin (K:PySem.W.Frag)(E:XW)(G0 H0 G:Hp)(D:Ends):O→Prop
 | .nx ρ'=>∀G' σ' H',Same G G'→Conf K G0 H0 ρ' G' σ' H'→D.nx σ' H'
 | .bk ρ'=>∀G' σ' H',Same G G'→Conf K G0 H0 ρ' G' σ' H'→D.bk σ' H'
 | .ct ρ'=>∀G' σ' H',Same G G'→Conf K G0 H0 ρ' G' σ' H'→D.ct σ' H'
 | .lp ρ'=>(∀G' σ' H',Same G G'→Conf K G0 H0 ρ' G' σ' H'→D.nx σ' H')∧∀G' σ' H',Same G G'→Conf K G0 H0 ρ' G' σ' H'→D.ct σ' H'
 | .rt r=>∀v G' H',Same G G'→Grow G0 H0 G' H'→Got K G' H0 H' r v→D.rt v H'
 | .ex C ρ'=>∀G' σ' H',Same G G'→Conf K G0 H0 ρ' G' σ' H'→E C σ' H'
theorem Fin.up {K:PySem.W.Frag}{E:XW}{G0 H0 G G1:Hp}{D:Ends}{o:O}(f:Fin K E G0 H0 G D o)(s:Same G G1):Fin K E G0 H0 G1 D o:=by
 cases o with
 | nx ρ=>exact fun G' σ' H' s'=>f G' σ' H' (s.trans s')
 | bk ρ=>exact fun G' σ' H' s'=>f G' σ' H' (s.trans s')
 | ct ρ=>exact fun G' σ' H' s'=>f G' σ' H' (s.trans s')
 | lp ρ=>exact⟨fun G' σ' H' s'=>f.1 G' σ' H' (s.trans s'),fun G' σ' H' s'=>f.2 G' σ' H' (s.trans s')⟩
 | rt r=>exact fun v G' H' s'=>f v G' H' (s.trans s')
 | ex C ρ=>exact fun G' σ' H' s'=>f G' σ' H' (s.trans s')
def tD (K:PySem.W.Frag)(ρ:Ro)(r:R):TE:=fun σ H Q=>∃G0 H0 G,Conf K G0 H0 ρ G σ H∧∀v G' H',Grow G H G' H'→Got K G' H H' r v→Q v H'
def tDT (K:PySem.W.Frag)(ρ:Ro)(b:Bool):TT:=fun σ H Q=>∃G0 H0 G,Conf K G0 H0 ρ G σ H∧∀G' H',Grow G H G' H'→Q b H'
def tDA (K:PySem.W.Frag)(ρ:Ro)(ds:List D):TA:=fun σ H Q=>∃G0 H0 G,Conf K G0 H0 ρ G σ H∧∀vs G' H',Grow G H G' H'→IsL K G' ds vs→Q vs H'
def tDS (K:PySem.W.Frag)(E:XW)(ρ:Ro)(o:O):TS:=fun D σ H=>∃G0 H0 G,Conf K G0 H0 ρ G σ H∧Fin K E G0 H0 G D o
structure QE (X:Cx)(ρ:Ro)(e:Expr)(r:R):Prop where
 u:PE X e (tD X.K ρ r)
structure QT (X:Cx)(ρ:Ro)(e:Expr)(b:Bool):Prop where
 u:PT X e (tDT X.K ρ b)
structure QW (X:Cx)(ρ:Ro)(e:Expr)(b:Bool):Prop where
 u:PW X e (tDT X.K ρ b)
structure QA (X:Cx)(ρ:Ro)(es:List Expr)(ds:List D):Prop where
 u:PA X es (tDA X.K ρ ds)
structure QS (X:Cx)(E:XW)(ρ:Ro)(st:Stmt)(o:O):Prop where
 u:PS X st (tDS X.K E ρ o)
structure QSs (X:Cx)(E:XW)(ρ:Ro)(st:List Stmt)(o:O):Prop where
 u:PSs X st (tDS X.K E ρ o)
section
variable {X:Cx}{ρ:Ro}{r:R}{e a b:Expr}{pos:Pos}{E:XW}
theorem Zf {t:TE}(h:PE X e t)(k:∀G0 H0 G σ H Q,Conf X.K G0 H0 ρ G σ H→(∀v G' H',Grow G H G' H'→Got X.K G' H H' r v→Q v H')→t σ H Q):QE X ρ e r :=
 ⟨fun pins s σ H Q I ⟨G0,H0,G,c,q⟩=>h pins s σ H Q I (k G0 H0 G σ H Q c q)⟩
theorem yp {t:TT}{bv:Bool}(h:PT X e t)(k:∀G0 H0 G σ H Q,Conf X.K G0 H0 ρ G σ H→(∀G' H',Grow G H G' H'→Q bv H')→t σ H Q):QT X ρ e bv :=
 ⟨fun pins s σ H Q I ⟨G0,H0,G,c,q⟩=>h pins s σ H Q I (k G0 H0 G σ H Q c q)⟩
theorem Z1I {t:TT}{bv:Bool}(h:PW X e t)(k:∀G0 H0 G σ H Q,Conf X.K G0 H0 ρ G σ H→(∀G' H',Grow G H G' H'→Q bv H')→t σ H Q):QW X ρ e bv :=
 ⟨fun whole pins s σ H Q I ⟨G0,H0,G,c,q⟩=>h whole pins s σ H Q I (k G0 H0 G σ H Q c q)⟩
theorem Y2 {t:TS}{st:Stmt}{o:O}(h:PS X st t)(k:∀G0 H0 G D σ H,Conf X.K G0 H0 ρ G σ H→Fin X.K E G0 H0 G D o→t D σ H):QS X E ρ st o :=
 ⟨fun pins s σ H D I ⟨G0,H0,G,c,q⟩=>h pins s σ H D I (k G0 H0 G D σ H c q)⟩
theorem Z0 (i:Nat){d:D}{x:Str}(h:ρ[i]? = some (.dat d))(hN:X.N[i]? = some x:=by rfl)(hv:Vis X.env.scope x:=by first | exact Or.inl rfl | exact Or.inr (Or.inl rfl) | exact Or.inr (Or.inr rfl))
 (hd:(x==("__debug__" : Str))=false:=by decide) (hcd:(x==("__classdict__" : Str))=false:=by decide):QE X ρ (.Name x pos) (.dat d) :=
 Zf (pe_var hN hv hd hcd) fun G0 H0 G σ H Q c q=>by
  obtain⟨v,h1,h2⟩:=c.dat i d h
  exact⟨v,h1,q v G H (Grow.refl c.sub) h2⟩
theorem Zw (h:QE X ρ e r):QE X ρ e (.dat r.d) :=
 Zf h.u fun G0 H0 G σ H Q c q=>⟨G0,H0,G,c,fun v G' H' g o=>by
  obtain⟨G'',g2,i2⟩:=o.share g
  exact q v G'' H' g2 i2⟩
theorem Z8 {i:Int}{x:V}(h:x=V.int i):x=V.int i:=h
theorem Y9 {i:Bool}{x:V}(h:x=V.bl i):x=V.bl i:=h
theorem zo {i:Str}{x:V}(h:x=V.str i):x=V.str i:=h
theorem YN {x:V}(h:x=V.non):x=V.non:=h
theorem Zl {i:Int}:V.int i=V.int i:=rfl
theorem ZF {i:Bool}:V.bl i=V.bl i:=rfl
theorem Z0g {i:Str}:V.str i=V.str i:=rfl
theorem yP:V.non=V.non:=rfl
theorem is_tup {K:PySem.W.Frag}{G:Hp}{ds:List D}{x:V}(h:Is K G (.tup ds) x):∃a xs,x=.ref a∧SqT K G a xs∧IsL K G ds xs:=by unfold Is at h;obtain⟨a,xs,e,h1,h2⟩:=h;exact⟨a,xs,e,SqT.of h1,h2⟩
theorem ZB {K:PySem.W.Frag}{G:Hp}{ds:List D}{x:V}(h:Is K G (.lst ds) x):∃a xs,x=.ref a∧SqL K G a xs∧IsL K G ds xs:=by unfold Is at h;exact h
theorem Z2R {K:PySem.W.Frag}{G:Hp}{ds:List D}{a:Addr}{xs:List V}(h:G a=some (.tup xs))(g:IsL K G ds xs):Is K G (.tup ds) (.ref a):=by unfold Is;exact⟨a,xs,rfl,h,g⟩
theorem Z3 {i:Int}{j:Nat}:QE X ρ (.Constant (.int i) j pos) (.dat (.int i)):=Zf pe_int fun G0 H0 G σ H Q c q=>q _ G H (Grow.refl c.sub) Zl
theorem Yn {i:Bool}{j:Nat}:QE X ρ (.Constant (.bool i) j pos) (.dat (.bl i)):=Zf pe_bl fun G0 H0 G σ H Q c q=>q _ G H (Grow.refl c.sub) ZF
theorem Jj {i:Str}{j:Nat}:QE X ρ (.Constant (.str i) j pos) (.dat (.str i)):=Zf pe_str fun G0 H0 G σ H Q c q=>q _ G H (Grow.refl c.sub) Z0g
theorem Zt {j:Nat}:QE X ρ (.Constant .none j pos) (.dat .non):=Zf pe_non fun G0 H0 G σ H Q c q=>q _ G H (Grow.refl c.sub) yP
theorem YZ {x:Str}{i:Int}(hm:∃t,X.mg x=some (.int i t))(hg:Gl X x:=by rfl)(hd:(x==("__debug__" : Str))=false:=by decide):QE X ρ (.Name x pos) (.dat (.int i)):=by
 obtain⟨t,hm⟩:=hm
 exact Zf (pe_glob (v:=.int i) hg hm ⟨t,rfl⟩ hd) fun G0 H0 G σ H Q c q=>q _ G H (Grow.refl c.sub) Zl
def OpD (K:PySem.W.Frag)(rr:R2)(da db:D)(r:R):Prop :=
 ∀G H x y Q,Same G H→Is K G da x→Is K G db y→(∀v G' H',Grow G H G' H'→Got K G' H H' r v→Q v H')→rr x y H Q
theorem op2 {rr:R2}{da db:D}(hr:OpD X.K rr da db r){G0 H0 G:Hp}{σ:St}{H:Hp}{Q:VK}(c:Conf X.K G0 H0 ρ G σ H)(q:∀v G' H',Grow G H G' H'→Got X.K G' H H' r v→Q v H') :
 tOp rr (tD X.K ρ (.dat da)) (tD X.K ρ (.dat db)) σ H Q :=
 ⟨G0,H0,G,c,fun x G1 H1 g1 i1=>⟨G0,H0,G1,c.up g1,fun y G2 H2 g2 i2=>hr G2 H2 x y Q g2.sub (Is.keep (g2.gg g1.sub).keeps i1) i2 fun v G3 H3 g3 o3 =>
  q v G3 H3 ((g1.trans g2).trans g3) (o3.old (g1.same.trans g2.same))⟩⟩
theorem Z6 {op:Operator}{rr:R2}{da db:D}(ho:OpR X (binaryOp op) rr)(hr:OpD X.K rr da db r)(ha:QE X ρ a (.dat da))(hb:QE X ρ b (.dat db)):QE X ρ (.BinOp a op b pos) r :=
 Zf (pe_op ho ha.u hb.u) fun G0 H0 G σ H Q c q=>op2 hr c q
theorem ZV {op:CmpOp}{rr:R2}{da db:D}(ho:OpR X (compareOp op) rr)(hr:OpD X.K rr da db r)(ha:QE X ρ a (.dat da))(hb:QE X ρ b (.dat db))(hm:behindInMarks op b=false):QE X ρ (.Compare a [op] [b] pos) r :=
 Zf (pe_cmpR ho ha.u hb.u hm) fun G0 H0 G σ H Q c q=>op2 hr c q
theorem Zi {op:CmpOp}{rr:R2}{da db:D}{bv:Bool}(ho:OpR X (compareOp op) rr)(hr:OpD X.K rr da db (.dat (.bl bv)))(ha:QE X ρ a (.dat da))(hb:QE X ρ b (.dat db))(hm:behindInMarks op b=false):QT X ρ (.Compare a [op] [b] pos) bv :=
 yp (pt_cmpR ho ha.u hb.u hm) fun G0 H0 G σ H Q c q=>op2 (r:=.dat (.bl bv)) hr c fun v G' H' g i=>⟨bv,Y9 i,q G' H' g⟩
section
variable {K:PySem.W.Frag}{i j:Int}{da db:D}
theorem Zo {g:Int→Int→Int}:OpD K (rI0 fun i j=>.int (g i j)) (.int i) (.int j) (.dat (.int (g i j))):=fun G H x y Q s h1 h2 q=>⟨i,j,Z8 h1,Z8 h2,q _ G H (Grow.refl s) Zl⟩
theorem ZT {C:Int→Int→Prop}{g:Int→Int→Int}(hc:C i j):OpD K (rI C fun i j=>.int (g i j)) (.int i) (.int j) (.dat (.int (g i j))):=fun G H x y Q s h1 h2 q=>⟨i,j,Z8 h1,Z8 h2,hc,q _ G H (Grow.refl s) Zl⟩
theorem Y3 {g:Int→Int→Bool}:OpD K (rI0 fun i j=>.bl (g i j)) (.int i) (.int j) (.dat (.bl (g i j))):=fun G H x y Q s h1 h2 q=>⟨i,j,Z8 h1,Z8 h2,q _ G H (Grow.refl s) ZF⟩
def scD:D→Option V
 | .non=>some .non
 | .bl b=>some (.bl b)
 | .int i=>some (.int i)
 | .str x=>some (.str x)
 | _=>none
theorem sc_is {G:Hp}{d:D}{v x:V}(h:scD d=some v)(i:Is K G d x):x=v:=by
 cases d with
 | non=>cases h;exact YN i
 | bl b=>cases h;exact Y9 i
 | int b=>cases h;exact Z8 i
 | str b=>cases h;exact zo i
 | tup ds=>cases h
 | lst ds=>cases h
 | exn C=>cases h
 | obj C ns ds=>cases h
 | dct ks ds=>cases h
 | dtp ks ds=>cases h
 | fn f ds=>cases h
theorem Z1N {v w:V}(h1:scD da=some v)(h2:scD db=some w)(hs:scal v w=true):OpD K rEq da db (.dat (.bl (decide (v=w)))):=fun G H x y Q s g1 g2 q=>by
 rw[sc_is h1 g1,sc_is h2 g2];exact⟨hs,q _ G H (Grow.refl s) ZF⟩
theorem Z3v:decide (V.int i=V.int j)=decide (i=j):=by simp
theorem Yr:OpD K rEq (.int i) (.int j) (.dat (.bl (decide (i=j)))):=by rw[←Z3v];exact Z1N rfl rfl rfl
theorem Zb {G H:Hp}{d:D}{v:V}(s:Same G H)(i:Is K G d v):Is K H d v:=Is.keep s.keeps i
theorem Zk {G H:Hp}{d:List D}{v:List V}(s:Same G H)(i:IsL K G d v):IsL K H d v:=IsL.keep s.keeps i
theorem Z3g (h1:isSeq da=true)(h2:isSeq db=true)(hd:dep da≤30)(hd2:dep db<1000:=by first | decide | (have:=‹dep _≤30›;omega)):OpD K (rEqD K false) da db (.dat (.bl (eqD da db))):=fun G H x y Q s g1 g2 q =>
 ⟨da,db,Zb s g1,Zb s g2,h1,h2,hd,hd2,q _ G H (Grow.refl s) ZF⟩
theorem Z3d (h1:isSeq da=true)(h2:isSeq db=true)(hd:dep da≤30)(hd2:dep db<1000:=by first | decide | (have:=‹dep _≤30›;omega)):OpD K (rEqD K true) da db (.dat (.bl (!eqD da db))):=fun G H x y Q s g1 g2 q =>
 ⟨da,db,Zb s g1,Zb s g2,h1,h2,hd,hd2,q _ G H (Grow.refl s) ZF⟩
def nonD:D→Bool
 | .non=>true
 | _=>false
theorem jH {G:Hp}{d:D}{x:V}(i:Is K G d x):decide (x=.non)=nonD d:=by
 cases d with
 | non=>rw[YN i];rfl
 | bl b=>rw[Y9 i];rfl
 | int b=>rw[Z8 i];rfl
 | str b=>rw[zo i];rfl
 | tup ds=>obtain⟨a,_,e,_⟩:=is_tup i;rw[e];rfl
 | lst ds=>obtain⟨a,_,e,_⟩:=ZB i;rw[e];rfl
 | exn C=>unfold Is at i;obtain⟨a,e,_⟩:=i;rw[e];rfl
 | obj C ns ds=>unfold Is at i;obtain⟨a,_,_,e,_⟩:=i;rw[e];rfl
 | dct ks ds=>unfold Is at i;obtain⟨a,_,e,_⟩:=i;rw[e];rfl
 | dtp ks ds=>unfold Is at i;obtain⟨a,_,e,_⟩:=i;rw[e];rfl
 | fn f ds=>unfold Is at i;obtain⟨e,_⟩:=i;rw[e];rfl
theorem Jq:OpD K (fun x y H Q=>y=.non∧Q (.bl (decide (x=.non))) H) da .non (.dat (.bl (nonD da))):=fun G H x y Q s g1 g2 q=>⟨YN g2,by rw[jH g1];exact q _ G H (Grow.refl s) ZF⟩
theorem Yk:OpD K (fun x y H Q=>y=.non∧Q (.bl (!decide (x=.non))) H) da .non (.dat (.bl (!nonD da))):=fun G H x y Q s g1 g2 q=>⟨YN g2,by rw[jH g1];exact q _ G H (Grow.refl s) ZF⟩
def inD (d:D)(ds:List D):Bool:=ds.any fun e=>eqD e d
end
theorem Z1L {rr:R2}{da db:D}(hx:IxR X rr)(hr:OpD X.K rr da db r)(ha:QE X ρ a (.dat da))(hb:QE X ρ b (.dat db))(hs:PlainIx b):QE X ρ (.Subscript a b pos) r :=
 Zf (pe_ix hx ha.u hb.u hs) fun G0 H0 G σ H Q c q=>op2 hr c q
theorem IsL.at {K:PySem.W.Frag}{G:Hp}{ds:List D}{xs:List V}{i:Int}{d:D}(h:IsL K G ds xs)(e:atI ds i=some d):∃v,atI xs i=some v∧Is K G d v:=by
 unfold atI at e ⊢
 rw[h.len]
 cases q:ixN ds.length i with
 | none=>rw[q] at e;cases e
 | some j =>
  rw[q] at e
  obtain⟨v,e1,e2⟩:=h.get (show ds[j]? = some d from e)
  exact⟨v,e1,e2⟩
theorem Z3f {K:PySem.W.Frag}{ds:List D}{i:Int}{d:D}(h:atI ds i=some d):OpD K (rIxL K) (.lst ds) (.int i) (.dat d):=fun G H x y Q s g1 g2 q=>by
 obtain⟨a,xs,rfl,k1,k2⟩:=ZB g1
 obtain⟨v,e,iv⟩:=IsL.at k2 h
 exact⟨a,xs,i,v,rfl,Z8 g2,s.seq k1,e,q v G H (Grow.refl s) iv⟩
theorem Z3e {K:PySem.W.Frag}{ds:List D}{i:Int}{d:D}(h:atI ds i=some d):OpD K (rIxT K) (.tup ds) (.int i) (.dat d):=fun G H x y Q s g1 g2 q=>by
 obtain⟨a,xs,rfl,k1,k2⟩:=is_tup g1
 obtain⟨v,e,iv⟩:=IsL.at k2 h
 exact⟨a,xs,i,v,rfl,Z8 g2,s.tuple k1,e,q v G H (Grow.refl s) iv⟩
theorem ZL {ds:List D}{i:Int}{d:D}(ha:QE X ρ a (.dat (.lst ds)))(hb:QE X ρ b (.dat (.int i)))(h:atI ds i=some d)(hs:PlainIx b:=by exact fun _ _=>rfl):QE X ρ (.Subscript a b pos) (.dat d):=Z1L ix_list (Z3f h) ha hb hs
theorem Za {ds:List D}{i:Int}{d:D}(ha:QE X ρ a (.dat (.tup ds)))(hb:QE X ρ b (.dat (.int i)))(h:atI ds i=some d)(hs:PlainIx b:=by exact fun _ _=>rfl):QE X ρ (.Subscript a b pos) (.dat d):=Z1L ix_tup (Z3e h) ha hb hs
theorem Zg {bv:Bool}(h:QE X ρ e (.dat (.bl bv)))(he:∀whole,isTrue e X.env whole=(do let v ←whole;standAt e.pos;holding [v] (truthy v)):=by intro _;rfl):QT X ρ e bv :=
 yp (pt_val h.u he) fun G0 H0 G σ H Q c q=>⟨G0,H0,G,c,fun v G' H' g i=>⟨bv,Y9 i,q G' H' g⟩⟩
theorem Zm {bv:Bool}(h:QT X ρ e bv):QT X ρ (.UnaryOp .Not e pos) (!bv):=yp (pt_not h.u) fun G0 H0 G σ H Q c q=>⟨G0,H0,G,c,fun G' H' g=>q G' H' g⟩
theorem QW.t {bv:Bool}(h:QW X ρ e bv):QT X ρ e bv:=⟨PW.pt h.u⟩
theorem zz {bv:Bool}(h:QT X ρ a bv):QW X ρ (.BoolOp .And [a] pos) bv:=⟨pw_and1 h.u⟩
theorem ZP {bv:Bool}(h:QT X ρ a bv):QW X ρ (.BoolOp .Or [a] pos) bv:=⟨pw_or1 h.u⟩
def tWT (X:Cx)(e:Expr):TT:=fun σ H Q=>∀whole pins s,Inv X pins σ H s→wpAny (model X.prog X.w) X.A (isTrue e X.env whole) (TP X pins σ Q) X.xe s
theorem Z0z:PW X e (tWT X e):=fun whole pins s σ H Q I h=>h whole pins s I
def tWE (X:Cx)(e:Expr):TE:=fun σ H Q=>∀pins s,Inv X pins σ H s→wpAny (model X.prog X.w) X.A (eval e X.env) (EP X pins σ Q) X.xe s
theorem zi:PE X e (tWE X e):=fun pins s σ H Q I h=>h pins s I
theorem Yc {rest:List Expr}{b1 b2:Bool}(ha:QT X ρ a b1)(hb:b1=true→QW X ρ (.BoolOp .And (b::rest) pos) b2):QW X ρ (.BoolOp .And (a::b::rest) pos) (b1&&b2) :=
 Z1I (pw_and ha.u Z0z) fun G0 H0 G σ H Q c q=>⟨G0,H0,G,c,fun G' H' g=>by
  cases b1 with
  | false=>exact iteF (q G' H' g)
  | true=>exact iteT fun whole pins s I=>(hb rfl).u whole pins s σ H' Q I ⟨G0,H0,G',c.up g,fun G2 H2 g2=>q G2 H2 (g.trans g2)⟩⟩
theorem ZN {rest:List Expr}{b1 b2:Bool}(ha:QT X ρ a b1)(hb:b1=false→QW X ρ (.BoolOp .Or (b::rest) pos) b2):QW X ρ (.BoolOp .Or (a::b::rest) pos) (b1 || b2) :=
 Z1I (pw_or ha.u Z0z) fun G0 H0 G σ H Q c q=>⟨G0,H0,G,c,fun G' H' g=>by
  cases b1 with
  | true=>exact iteT (q G' H' g)
  | false=>exact iteF fun whole pins s I=>(hb rfl).u whole pins s σ H' Q I ⟨G0,H0,G',c.up g,fun G2 H2 g2=>q G2 H2 (g.trans g2)⟩⟩
theorem Yd {op}(h:QE X ρ a r):QE X ρ (.BoolOp op [a] pos) r:=⟨pe_one h.u⟩
theorem Zy {rest:List Expr}{b1 b2:Bool}(ha:QE X ρ a (.dat (.bl b1)))(hb:b1=true→QE X ρ (.BoolOp .And (b::rest) pos) (.dat (.bl b2))):QE X ρ (.BoolOp .And (a::b::rest) pos) (.dat (.bl (b1&&b2))) :=
 Zf (pe_and ha.u zi) fun G0 H0 G σ H Q c q=>⟨G0,H0,G,c,fun v G' H' g i=>⟨b1,Y9 i,by
  cases b1 with
  | false=>exact iteF (q _ G' H' g ZF)
  | true=>exact iteT fun pins s I=>(hb rfl).u pins s σ H' Q I ⟨G0,H0,G',c.up g,fun v G2 H2 g2 o2=>q v G2 H2 (g.trans g2) (o2.old g.same)⟩⟩⟩
theorem Z1K {rest:List Expr}{b1 b2:Bool}(ha:QE X ρ a (.dat (.bl b1)))(hb:b1=false→QE X ρ (.BoolOp .Or (b::rest) pos) (.dat (.bl b2))):QE X ρ (.BoolOp .Or (a::b::rest) pos) (.dat (.bl (b1 || b2))) :=
 Zf (pe_or ha.u zi) fun G0 H0 G σ H Q c q=>⟨G0,H0,G,c,fun v G' H' g i=>⟨b1,Y9 i,by
  cases b1 with
  | true=>exact iteT (q _ G' H' g ZF)
  | false=>exact iteF fun pins s I=>(hb rfl).u pins s σ H' Q I ⟨G0,H0,G',c.up g,fun v G2 H2 g2 o2=>q v G2 H2 (g.trans g2) (o2.old g.same)⟩⟩⟩
theorem zg {b1:Bool}(ha:QE X ρ a (.dat (.bl b1))):QE X ρ (.UnaryOp .Not a pos) (.dat (.bl (!b1))) :=
 Zf (pe_not ha.u) fun G0 H0 G σ H Q c q=>⟨G0,H0,G,c,fun v G' H' g i=>⟨b1,Y9 i,q _ G' H' g ZF⟩⟩
theorem Z0v {c:Expr}(hc:QT X ρ c true)(ha:QE X ρ a r):QE X ρ (.IfExp c a b pos) r :=
 Zf (pe_ifExp hc.u ha.u zi) fun G0 H0 G σ H Q c q=>⟨G0,H0,G,c,fun G' H' g=>iteT ⟨G0,H0,G',c.up g,fun v G2 H2 g2 o2=>q v G2 H2 (g.trans g2) (o2.old g.same)⟩⟩
theorem Z0w {c:Expr}(hc:QT X ρ c false)(hb:QE X ρ b r):QE X ρ (.IfExp c a b pos) r :=
 Zf (pe_ifExp hc.u zi hb.u) fun G0 H0 G σ H Q c q=>⟨G0,H0,G,c,fun G' H' g=>iteF ⟨G0,H0,G',c.up g,fun v G2 H2 g2 o2=>q v G2 H2 (g.trans g2) (o2.old g.same)⟩⟩
theorem Z3G {c:Expr}{bv:Bool}(hc:QT X ρ c bv)(ha:bv=true→QE X ρ a r)(hb:bv=false→QE X ρ b r):QE X ρ (.IfExp c a b pos) r:=by
 cases bv with
 | true=>exact Z0v hc (ha rfl)
 | false=>exact Z0w hc (hb rfl)
theorem YL {i:Int}(ha:QE X ρ a (.dat (.int i))):QE X ρ (.UnaryOp .USub a pos) (.dat (.int (-i))) :=
 Zf (pe_un un_neg ha.u) fun G0 H0 G σ H Q c q=>⟨G0,H0,G,c,fun v G' H' g i'=>⟨i,Z8 i',q _ G' H' g Zl⟩⟩
theorem Z1i {op op':CmpOp}{c:Expr}{g g':Int→Int→Bool}{i j k:Int}(ho:OpR X (compareOp op) (rI0 fun i j=>.bl (g i j)))(ho':OpR X (compareOp op') (rI0 fun i j=>.bl (g' i j)))
 (ha:QE X ρ a (.dat (.int i))) (hb:QE X ρ b (.dat (.int j))) (hc:QE X ρ c (.dat (.int k))) (hm:lastMarks [op,op'] [b,c]=false:=by with_unfolding_all rfl):QE X ρ (.Compare a [op,op'] [b,c] pos) (.dat (.bl (g i j&&g' j k))) :=
 Zf (pe_chain ho ho' ha.u hb.u hc.u hm) fun G0 H0 G σ H Q cf q=>⟨G0,H0,G,cf,fun x G1 H1 g1 i1=>⟨G0,H0,G1,cf.up g1,fun y G2 H2 g2 i2=>⟨i,j,Z8 i1,Z8 i2,_,rfl,by
  have g12:=g1.trans g2
  cases e:g i j with
  | false=>exact iteF (by rw[e] at q;exact q _ G2 H2 g12 ZF)
  | true=>exact iteT ⟨G0,H0,G2,cf.up g12,fun z G3 H3 g3 i3=>⟨j,k,Z8 i2,Z8 i3,by rw[e] at q;exact q _ G3 H3 (g12.trans g3) ZF⟩⟩⟩⟩⟩
end
section
variable {X:Cx}{ρ:Ro}{r:R}{e a b:Expr}{es:List Expr}{ds:List D}{pos:Pos}{E:XW}
theorem Z2:QA X ρ [] []:=⟨fun p pins s σ H Q I ⟨G0,H0,G,c,q⟩=>pa_nil p pins s σ H Q I (q [] G H (Grow.refl c.sub) .nil)⟩
theorem args2 {G0 H0 G:Hp}{σ:St}{H:Hp}{Q:List V→Hp→Prop}(c:Conf X.K G0 H0 ρ G σ H)(q:∀vs G' H',Grow G H G' H'→IsL X.K G' (r.d::ds) vs→Q vs H') :
 tCons (tD X.K ρ r) (tDA X.K ρ ds) σ H Q :=
 ⟨G0,H0,G,c,fun v G1 H1 g1 o1=>by
  obtain⟨G1',g1',i1⟩:=o1.share g1
  exact⟨G0,H0,G1',c.up g1',fun vs G2 H2 g2 i2=>q (v::vs) G2 H2 (g1'.trans g2) (.cons (Zb (g2.gg g1'.sub) i1) i2)⟩⟩
theorem Z1 (h:QE X ρ e r)(hr:QA X ρ es ds)(hs:starEach (e::es) X.env=(false,eval e X.env)::starEach es X.env:=by rfl):QA X ρ (e::es) (r.d::ds) :=
 ⟨fun p pins s σ H Q I ⟨G0,H0,G,c,q⟩=>pa_cons h.u hr.u hs p pins s σ H Q I (args2 c q)⟩
theorem ZA (h:QA X ρ es ds)(hl:ds.length≤sizeLine:=by exact Nat.le_of_ble_eq_true rfl):QE X ρ (.List es pos) (.own ds) :=
 Zf (pe_lst h.u) fun G0 H0 G σ H Q c q=>⟨G0,H0,G,c,fun vs G1 H1 g1 i1=>⟨by rw[i1.len];exact hl,fun p hp =>
  q (.ref p) G1 _ (g1.trans (Grow.newOwn g1.sub hp)) ⟨p,vs,rfl,Same.dead g1.sub hp,Same.dead g1.same hp,upd_same,i1⟩⟩⟩
theorem ZC {x1}(h:QA X ρ es ds)(hl:ds.length≤sizeLine:=by exact Nat.le_of_ble_eq_true rfl):QE X ρ (.Tuple es x1 pos) (.dat (.tup ds)) :=
 Zf (pe_tup h.u) fun G0 H0 G σ H Q c q=>⟨G0,H0,G,c,fun vs G1 H1 g1 i1=>⟨by rw[i1.len];exact hl,fun p hp =>
  q (.ref p) (upd G1 p (.tup vs)) _ (g1.trans (Grow.new g1.sub hp)) (Z2R upd_same (Zk (Same.new (Same.dead g1.sub hp)) i1))⟩⟩
def CallD (K:PySem.W.Frag)(rr:List V→Hp→VK→Prop)(ds:List D)(r:R):Prop :=
 ∀G H vs Q,Same G H→IsL K G ds vs→(∀v G' H',Grow G H G' H'→Got K G' H H' r v→Q v H')→rr vs H Q
theorem cb2 {rr:List V→Hp→VK→Prop}(hr:CallD X.K rr ds r){G0 H0 G:Hp}{σ:St}{H:Hp}{Q:VK}(c:Conf X.K G0 H0 ρ G σ H)(q:∀v G' H',Grow G H G' H'→Got X.K G' H H' r v→Q v H') :
 tCB rr (tDA X.K ρ ds) σ H Q :=
 ⟨G0,H0,G,c,fun vs G1 H1 g1 i1=>hr G1 H1 vs Q g1.sub i1 fun v G2 H2 g2 o2=>q v G2 H2 (g1.trans g2) (o2.old g1.same)⟩
theorem Zj {id:String}{x:Str}{p:Pos}{rr:List V→Hp→VK→Prop}(hc:CallR X (.builtin id) rr)(hr:CallD X.K rr ds r)(hm:X.mg x=none)(hv:bootBuiltins x=some (.builtin id))(ha:QA X ρ (e::es) ds)
 (hg:Gl X x:=by rfl) (hn:x ≠ "__name__" := by decide) (hdb:(x==("__debug__" : Str))=false:=by decide)
 (he:starEach (e::es) X.env=(false,eval e X.env)::starEach es X.env:=by rfl) (hpl:(backTo pos (starEach es X.env)).any (·.1)=false:=by rfl):QE X ρ (.Call (.Name x p) (e::es) [] pos) r :=
 Zf (pe_callB hc hg hm hv ha.u hn hdb he hpl) fun G0 H0 G σ H Q c q=>cb2 hr c q
theorem Z0y {T:String}{x:Str}{p:Pos}{rr:List V→Hp→VK→Prop}(hc:CallR X (.type T) rr)(hr:CallD X.K rr ds r)(hm:X.mg x=none)(hv:bootBuiltins x=some (.type T))(ha:QA X ρ (e::es) ds)
 (hg:Gl X x:=by rfl) (hn:x ≠ "__name__" := by decide) (hdb:(x==("__debug__" : Str))=false:=by decide)
 (he:starEach (e::es) X.env=(false,eval e X.env)::starEach es X.env:=by rfl) (hpl:(backTo pos (starEach es X.env)).any (·.1)=false:=by rfl):QE X ρ (.Call (.Name x p) (e::es) [] pos) r :=
 Zf (pe_callTy hc hg hm hv ha.u hn hdb he hpl) fun G0 H0 G σ H Q c q=>cb2 hr c q
section
variable {K:PySem.W.Frag}{i j:Int}{d:D}
theorem IsL.one_of {G:Hp}{d:D}{vs:List V}(h:IsL K G [d] vs):∃v,vs=[v]∧Is K G d v:=by
 unfold IsL at h
 obtain⟨x,r,rfl,h1,h2⟩:=h
 unfold IsL at h2
 subst h2
 exact⟨x,rfl,h1⟩
theorem IsL.two_of {G:Hp}{d e:D}{vs:List V}(h:IsL K G [d,e] vs):∃v w,vs=[v,w]∧Is K G d v∧Is K G e w:=by
 unfold IsL at h
 obtain⟨x,r,rfl,h1,h2⟩:=h
 obtain⟨w,rfl,h3⟩:=IsL.one_of h2
 exact⟨x,w,rfl,h1,h3⟩
def partsD:D→Option (List D)
 | .lst ds=>some ds
 | .tup ds=>some ds
 | _=>none
theorem Z1o {G:Hp}{v:V}(h:partsD d=some ds)(i:Is K G d v):∃a xs,v=.ref a∧(SqL K G a xs∨SqT K G a xs)∧IsL K G ds xs:=by
 cases d with
 | lst es=>cases h;obtain⟨a,xs,e,h1,h2⟩:=ZB i;exact⟨a,xs,e,.inl h1,h2⟩
 | tup es=>cases h;obtain⟨a,xs,e,h1,h2⟩:=is_tup i;exact⟨a,xs,e,.inr h1,h2⟩
 | _=>cases h
theorem Z3D {G H:Hp}{a:Addr}{xs:List V}(s:Same G H)(h:SqL K G a xs∨SqT K G a xs):SqL K H a xs∨SqT K H a xs:=h.imp (fun z=>s.seq z) (fun z=>s.tuple z)
theorem Zu (h:partsD d=some ds):CallD K (fun xs H Q=>∃p ys,xs=[.ref p]∧(SqL K H p ys∨SqT K H p ys)∧Q (.int ys.length) H) [d] (.dat (.int ds.length)):=fun G H vs Q s i q=>by
 obtain⟨v,rfl,i1⟩:=IsL.one_of i
 obtain⟨a,xs,rfl,h1,h2⟩:=Z1o h i1
 exact⟨a,xs,rfl,Z3D s h1,by rw[h2.len];exact q _ G H (Grow.refl s) Zl⟩
theorem Z2F {k:Bool}:CallD K (fun xs H Q=>(∃i,xs=[.int i]∧Q (.int i) H) ∨ ∃k,xs=[.bl k]∧Q (.int (if k then 1 else 0)) H) [.bl k] (.dat (.int (if k then 1 else 0))):=fun G H vs Q s h q=>by
 obtain⟨v,rfl,i1⟩:=IsL.one_of h
 rw[Y9 i1]
 exact .inr ⟨k,rfl,q _ G H (Grow.refl s) Zl⟩
end
end
section
variable {X:Cx}{ρ ρ1:Ro}{r:R}{e a b:Expr}{es:List Expr}{ds:List D}{pos:Pos}{E:XW}{x:Str}{o:O}
theorem Zh (i:Nat){p:Pos}(h:QE X ρ e r)(hN:X.N.Nodup)(hi:X.N[i]? = some x:=by rfl)(hx:Loc X.env.scope x:=by first | exact Or.inl rfl | exact Or.inr rfl)(hs:swapsWith e (some (.Name x p)) pos.line X.env=pure false:=by rfl)
 (hf:X.fn x=true∨X.env.scope.names.lookup x=some .local:=by first | exact .inl rfl | exact .inr rfl | assumption):QS X E ρ (.Assign [.Name x p] e pos) (.nx (ρ.set i r.slot)) :=
 Y2 (ps_set hN hi hx h.u hs hf) fun G0 H0 G D σ H c f=>⟨G0,H0,G,c,fun v G' H' g o=>f G' _ H' (g.gg c.sub) (c.got g o)⟩
theorem Z30 (h:QE X ρ e r):QS X E ρ (.Return (some e) pos) (.rt r) :=
 Y2 (ps_ret h.u) fun G0 H0 G D σ H c f=>⟨G0,H0,G,c,fun v G' H' g o=>f v G' H' (g.gg c.sub) (c.grow.trans g) (o.old c.grow.same)⟩
theorem Z28 (i:Nat){p:Pos}(h:ρ[i]? = some (.own ds))(hN:X.N[i]? = some x:=by rfl)(hv:Vis X.env.scope x:=by first | exact Or.inl rfl | exact Or.inr (Or.inl rfl) | exact Or.inr (Or.inr rfl))
 (hd:(x==("__debug__" : Str))=false:=by decide) (hcd:(x==("__classdict__" : Str))=false:=by decide):QS X E ρ (.Return (some (.Name x p)) pos) (.rt (.own ds)) :=
 Y2 (ps_ret (pe_var hN hv hd hcd)) fun G0 H0 G D σ H c f=>by
  obtain⟨ad,xs,h1,h2,h3,h4,h5⟩:=c.own i ds h
  exact⟨_,h1,f _ G H (Same.refl G) c.grow ⟨ad,xs,rfl,h2,h3,h4,h5⟩⟩
theorem Z2b (h:QE X ρ e r)(hs:swapsWith e none pos.line X.env=pure false:=by rfl):QS X E ρ (.Expr e pos) (.nx ρ) :=
 Y2 (ps_expr h.u hs) fun G0 H0 G D σ H c f=>⟨G0,H0,G,c,fun v G' H' g o=>f G' σ H' (g.gg c.sub) (c.up g)⟩
theorem Z0p (k:Nat){p ap cp:Pos}(h:ρ[k]? = some (.own ds))(he:QE X ρ e r)(hl:ds.length<sizeLine)(hN:X.N[k]? = some x:=by rfl)(hv:Vis X.env.scope x:=by first | exact Or.inl rfl | exact Or.inr (Or.inl rfl) | exact Or.inr (Or.inr rfl))
 (hd:(x==("__debug__" : Str))=false:=by decide) (hcd:(x==("__classdict__" : Str))=false:=by decide)
 (hbase:attributeBase (.Name x p) "append" X.env (eval (.Name x p) X.env)=eval (.Name x p) X.env:=by rfl)
 (hfew:((backTo cp (starEach [e] X.env)).all (fun x=>!x.1)&&(backToKw cp (keywordEach [] X.env)).all (fun x=>x.1.isSome)
  && decide ([e].length+([]:List Keyword).length+(if ([]:List Keyword).isEmpty then 0 else 1)<30))=true:=by rfl)
 (hline:(ap.endLine==cp.line)=true:=by rfl) (hs:starEach [e] X.env=[(false,eval e X.env)]:=by rfl)
 (hsw:swapsWith (.Call (.Attribute (.Name x p) "append" ap) [e] [] cp) none pos.line X.env=pure false:=by rfl) :
 QS X E ρ (.Expr (.Call (.Attribute (.Name x p) "append" ap) [e] [] cp) pos) (.nx (ρ.set k (.own (ds++[r.d])))) :=
 Y2 (ps_expr (pe_bm PySem.F.plainAttrs_list PySem.F.slot_list_append PySem.F.type_list_append mt_append (pe_var hN hv hd hcd) (pa_cons he.u pa_nil hs) hbase hfew hline hs rfl) hsw) fun G0 H0 G D σ H c f=>by
  obtain⟨ad,xs,h1,h2,h3,h4,h5⟩:=c.own k ds h
  refine⟨_,h1,.inl ⟨rfl,xs,SqL.of h4⟩,G0,H0,G,c,fun v G1 H1 g1 o1=>?_⟩
  obtain⟨G2,g2,i2⟩:=o1.share g1
  refine⟨ad,xs,v,rfl,rfl,g2.same _ _ h4,by rw[h5.len];exact hl,f G2 σ _ (g2.gg c.sub) ?_⟩
  exact(c.up g2).write h h1 ((Zk (g2.gg c.sub) h5).snoc i2) (g2.same _ _ h4)
def tWS (X:Cx)(st:List Stmt):TS:=fun D σ H=>∀pins s,Inv X pins σ H s→wpAny (model X.prog X.w) X.A (execs st X.env) (SP X pins D) X.xe s
theorem Z9 {st:List Stmt}:PSs X st (tWS X st):=fun pins s σ H D I h=>h pins s I
def tK (X:Cx):List (List Stmt)→TS
 | []=>tNext
 | b::ks=>tSeq (tWS X b) (tK X ks)
structure QK (X:Cx)(E:XW)(ρ:Ro)(ks:List (List Stmt))(o:O):Prop where
 u:∀D σ H,tDS X.K E ρ o D σ H→tK X ks D σ H
variable {st:Stmt}{bl:List Stmt}{ks:List (List Stmt)}
theorem QK.s (h:QK X E ρ [bl] o):QSs X E ρ bl o:=⟨fun pins s σ H D I t=>h.u D σ H t pins s I⟩
theorem ze {ρ':Ro}(w:Wk ρ' ρ):QK X E ρ [] (.nx ρ'):=⟨fun D σ H ⟨G0,H0,G,c,f⟩=>f G σ H (Same.refl G) (c.weak w)⟩
theorem Ze (h:QK X E ρ ks o):QK X E ρ ([]::ks) o:=⟨fun D σ H t pins s I=>pss_nil pins s σ H _ I (h.u D σ H t)⟩
theorem Z4 (h1:QS X E ρ st (.nx ρ1))(h2:QK X E ρ1 (bl::ks) o):QK X E ρ ((st::bl)::ks) o:=⟨fun D σ H ⟨G0,H0,G,c,f⟩ pins s I =>
 pss_cons h1.u Z9 pins s σ H _ I ⟨G0,H0,G,c,fun G' σ' H' s' c'=>h2.u D σ' H' ⟨G0,H0,G',c',f.up s'⟩⟩⟩
theorem Z1J (h1:QS X E ρ st (.rt r)):QK X E ρ ((st::bl)::ks) (.rt r):=⟨fun D σ H ⟨G0,H0,G,c,f⟩ pins s I =>
 pss_cons h1.u Z9 pins s σ H _ I ⟨G0,H0,G,c,f⟩⟩
theorem Zd {r':R}(h1:QE X ρ e r')(h:r'=r):QK X E ρ ((.Return (some e) pos::bl)::ks) (.rt r):=h▸Z1J (Z30 h1)
theorem ZK {ρ':Ro}(w:Wk ρ' ρ):QK X E ρ [] (.lp ρ'):=⟨fun D σ H ⟨G0,H0,G,c,f⟩=>f.1 G σ H (Same.refl G) (c.weak w)⟩
theorem Zr {c:Expr}{t u:List Stmt}{bv:Bool}(hc:QT X ρ c bv)(h1:bv=true→QK X E ρ (t::bl::ks) o)(h2:bv=false→QK X E ρ (u::bl::ks) o):QK X E ρ ((.If c t u pos::bl)::ks) o:=⟨fun D σ H ⟨G0,H0,G,cf,f⟩ pins s I=>by
 refine pss_cons (ps_if hc.u Z9 Z9) Z9 pins s σ H _ I ?_
 refine⟨G0,H0,G,cf,fun G' H' g=>?_⟩
 have t':tDS X.K E ρ o D σ H':=⟨G0,H0,G',cf.up g,f.up (g.gg cf.sub)⟩
 cases bv with
 | true=>exact iteT ((h1 rfl).u D σ H' t')
 | false=>exact iteF ((h2 rfl).u D σ H' t')⟩
theorem Z33 {c:Expr}{t u:List Stmt}{p:Prop}[Decidable p](hc:QT X ρ c (decide p))(h1:p→QK X E ρ (t::bl::ks) o)(h2:¬p→QK X E ρ (u::bl::ks) o):QK X E ρ ((.If c t u pos::bl)::ks) o :=
 Zr hc (fun h=>h1 (of_decide_eq_true h)) fun h=>h2 (of_decide_eq_false h)
theorem Y8 (i:Nat)(h:ρ[i]? = some (.own ds))(h2:QK X E (ρ.set i (.dat (.lst ds))) ks o):QK X E ρ ks o:=⟨fun D σ H ⟨G0,H0,G,c,f⟩=>by
 obtain⟨ad,xs,h1,_,h4,h5,c',s'⟩:=c.frz h
 exact h2.u D σ H ⟨G0,H0,_,c',f.up s'⟩⟩
theorem Z3F {ρ':Ro}(w:Wk ρ' ρ)(h:QK X E ρ' ks o):QK X E ρ ks o:=⟨fun D σ H ⟨G0,H0,G,c,f⟩=>h.u D σ H ⟨G0,H0,G,c.weak w,f⟩⟩
end
section
variable {X:Cx}{ρ ρ1:Ro}{r:R}{e it:Expr}{ds:List D}{pos:Pos}{E:XW}{x:Str}{o:O}{body:List Stmt}{D:Ends}{G0 H0 G1 G':Hp}{σ:St}{H:Hp}
theorem jI {j:Nat}{ρa ρb:Ro}{d:L2.D}{v:V}(h:QK X E (ρa.set j (.dat d)) [body] (.lp ρb))(s:Same G1 G')(c:Conf X.K G0 H0 ρa G' σ H)(i:Is X.K G' d v)(N:St→Hp→Prop)
 (hN:∀G'' σ'' H'',Same G1 G''→Conf X.K G0 H0 ρb G'' σ'' H''→N σ'' H''):tWS X body { D with nx:=N,ct:=N,bk:=D.nx } (σ.set j (some v)) H :=
 h.u { D with nx:=N,ct:=N,bk:=D.nx } _ H ⟨G0,H0,G',c.put i,fun G'' σ'' H'' s'' c''=>hN G'' σ'' H'' (s.trans s'') c'',fun G'' σ'' H'' s'' c''=>hN G'' σ'' H'' (s.trans s'') c''⟩
theorem Z2a (j:Nat)(ρs:Nat→Ro){p:Pos}(he:QE X ρ it (.dat (.lst ds)))(h0:Wk (ρs 0) ρ)(turn:∀(i:Nat) d,ds[i]? = some d→QK X E ((ρs i).set j (.dat d)) [body] (.lp (ρs (i+1))))
 (hN:X.N.Nodup) (hp:PassesOwn (model X.prog X.w) X.A X.env X.xe) (hc:X.calm=true:=by rfl) (hj:X.N[j]? = some x:=by rfl) (hx:Loc X.env.scope x:=by first | exact Or.inl rfl | exact Or.inr rfl)
 (hf:X.fn x=true∨X.env.scope.names.lookup x=some .local:=by first | exact .inl rfl | exact .inr rfl | assumption) (hs:∀x,foldedSetIterable it X.env x=pure x:=by intro _;rfl) :
 QS X E ρ (.For (.Name x p) it body [] pos) (.nx (ρs ds.length)) :=
 Y2 (ps_for hp hc (pi_list he.u) (pg_name hN hj hx hf) Z9 hs) fun G0 H0 G D σ H c f=>⟨G0,H0,G,c,fun v G1 H1 g1 i1=>by
  obtain⟨ad,xs,rfl,h1,h2⟩:=ZB i1
  refine⟨ad,rfl,⟨xs,g1.sub.seq h1⟩,for_list (xs:=xs) (fun i σ' H'=>∃G',Same G1 G'∧Conf X.K G0 H0 (ρs i) G' σ' H') ⟨G1,Same.refl _,(c.up g1).weak h0⟩ (fun i σ' H' _ ⟨G',s,c'⟩=>(s.trans c'.sub).seq h1) ?_ ?_⟩
  · rintro i y σ' H' hi ⟨G',s,c'⟩
    obtain⟨d,e1,iv⟩:=h2.got hi
    exact jI (turn i d e1) s c' (Zb s iv) _ fun G'' σ'' H'' s'' c''=>⟨G'',s'',c''⟩
  · rintro σ' H' ⟨G',s,c'⟩
    rw[h2.len] at c'
    exact f G' σ' H' ((g1.gg c.sub).trans s) c'⟩
end
section
variable {X:Cx}{ρ:Ro}{e it elt tg:Expr}{ifs:List Expr}{ds:List D}{pos:Pos}{E:XW}{x:Str}{N:List Str}{js:List (Option Nat)}{scope:Scope}{G0 H0 G:Hp}{σ:St}{H:Hp}
structure QTs (X:Cx)(ρ:Ro)(ifs:List Expr)(b:Bool):Prop where
 u:PTs X ifs (tDT X.K ρ b)
theorem YK:QTs X ρ [] true:=⟨fun pins s σ H Q I ⟨G0,H0,G,c,q⟩=>Z2m pins s σ H Q I (q G H (Grow.refl c.sub))⟩
theorem zA {c:Expr}{b:Bool}(h:QT X ρ c b):QTs X ρ [c] b:=⟨Z2l h.u⟩
def rbS (ρ:Ro):Option Nat→Slot
 | none=>.un
 | some j=>match ρ[j]? with
  | some (.dat d)=>.dat d
  | _=>.un
def rb (js:List (Option Nat))(ρ:Ro):Ro:=js.map (rbS ρ)
theorem jC {d:D}{v:V}{G':Hp}{H':Hp}{σ':St}(c:Conf X.K G0 H0 ρ G σ H)(s:Same G G')(s':Same G' H')(iv:Is X.K G' d v)(hl:σ'.length=js.length)(ht:∀k:Nat,1≤k→σ'[k]? = (sbOf js σ)[k]?) :
 Conf X.K G' H' ((rb js ρ).set 0 (.dat d)) G' (σ'.set 0 (some v)) H':=by
 have key:∀(k:Nat) (sl:Slot),(rb js ρ)[k]? = some sl→sl=.un ∨ ∃d j,sl=.dat d∧js[k]? = some (some j)∧ρ[j]? = some (.dat d):=fun k sl q=>by
  unfold rb at q
  rw[List.getElem?_map] at q
  cases hj:js[k]? with
  | none=>rw[hj] at q;cases q
  | some oj =>
   rw[hj] at q
   have q':rbS ρ oj=sl:=by simpa using q
   cases oj with
   | none=>left;rw[←q'];rfl
   | some j =>
    unfold rbS at q'
    simp only at q'
    cases hr:ρ[j]? with
    | none=>rw[hr] at q';exact .inl q'.symm
    | some sl' =>
     cases sl' with
     | un=>rw[hr] at q';exact .inl q'.symm
     | own ds=>rw[hr] at q';exact .inl q'.symm
     | dk ds=>rw[hr] at q';exact .inl q'.symm
     | dt ds=>rw[hr] at q';exact .inl q'.symm
     | dat d'=>rw[hr] at q';exact .inr ⟨d',j,q'.symm,rfl,hr⟩
 have noOwn:∀(k:Nat) (ds:List L2.D),((rb js ρ).set 0 (.dat d))[k]? = some (.own ds)→False:=fun k ds q=>by
  cases k with
  | zero =>
   rw[List.getElem?_set_self'] at q
   cases hq:(rb js ρ)[0]? with
   | none=>rw[hq] at q;cases q
   | some w=>rw[hq] at q;injection q with q;injection q
  | succ k =>
   rw[List.getElem?_set_ne (by omega)] at q
   rcases key _ _ q with z | ⟨d,j,z,_⟩ <;> cases z
 have noD:∀(k:Nat) (t:Slot),t.isD=true→((rb js ρ).set 0 (.dat d))[k]? = some t→False:=fun k t ht q=>by
  obtain⟨_,q⟩:=Zn rfl ht q
  rcases key _ _ q with z | ⟨d,j,z,_⟩ <;> (subst z;cases ht)
 refine⟨Grow.refl s',by rw[List.length_set,List.length_set,hl];simp[rb],fun k d' q=>?_,fun k ds q=>(noOwn k ds q).elim,fun k l ds es a _ q _=>(noOwn k ds q).elim,fun k t ht q=>(noD k t ht q).elim,fun k l t u a _ ht _ q _=>(noD k t ht q).elim⟩
 cases k with
 | zero =>
  rw[List.getElem?_set_self'] at q
  cases hq:(rb js ρ)[0]? with
  | none=>rw[hq] at q;cases q
  | some w =>
   rw[hq] at q
   have q':d=d':=by injection q with q;injection q
   subst q'
   have hlt:0<σ'.length:=by
    rw[hl]
    have:=(List.getElem?_eq_some_iff.mp hq).1
    simpa [rb] using this
   exact⟨v,by rw[List.getElem?_set_self hlt],iv⟩
 | succ k =>
  rw[List.getElem?_set_ne (by omega)] at q
  rcases key _ _ q with z | ⟨d2,j,z,hj,hr⟩
  · cases z
  · cases z
    obtain⟨u,h1,h2⟩:=c.dat j d' hr
    refine⟨u,?_,Zb s h2⟩
    rw[List.getElem?_set_ne (by omega),ht (k+1) (by omega)]
    unfold sbOf
    rw[List.getElem?_map,hj]
    show some ((σ[j]?).join)=_
    rw[h1];rfl
def LcT (X:Cx)(N:List Str)(scope:Scope)(ρ':Ro)(ifs:List Expr)(elt:Expr)(ys zs:List D):Prop :=
 (∃r,(∀C fp s H,QTs (X.blk N scope C fp s H) ρ' ifs true)∧(∀C fp s H,QE (X.blk N scope C fp s H) ρ' elt r)∧zs=ys++[r.d]∧ys.length<sizeLine)∨((∀C fp s H,QTs (X.blk N scope C fp s H) ρ' ifs false)∧zs=ys)
def tTc (X:Cx)(N:List Str)(scope:Scope)(ifs:List Expr):TT:=fun σ H Q=>∀C fp s0 H0 pins s,Inv (X.blk N scope C fp s0 H0) pins σ H s →
 wpAny (model X.prog X.w) X.A (forIn ifs true fun c r=>if r=true then do let ok ←isTrue c (X.blk N scope C fp s0 H0).env (eval c (X.blk N scope C fp s0 H0).env);pure (ForInStep.yield ok) else pure (ForInStep.yield r)) (TP (X.blk N scope C fp s0 H0) pins σ Q) (fun _ _=>False) s
def tEc (X:Cx)(N:List Str)(scope:Scope)(elt:Expr):TE:=fun σ H Q=>∀C fp s0 H0 pins s,Inv (X.blk N scope C fp s0 H0) pins σ H s →
 wpAny (model X.prog X.w) X.A (eval elt (X.blk N scope C fp s0 H0).env) (EP (X.blk N scope C fp s0 H0) pins σ Q) (fun _ _=>False) s
theorem YB {C:Addr}{fp:List Addr}{s:Shared}{H:Hp}:PTs (X.blk N scope C fp s H) ifs (tTc X N scope ifs):=fun pins s σ H Q I h=>h _ _ _ _ pins s I
theorem Jm {C:Addr}{fp:List Addr}{s:Shared}{H:Hp}:PE (X.blk N scope C fp s H) elt (tEc X N scope elt):=fun pins s σ H Q I h=>h _ _ _ _ pins s I
def LcI (K:PySem.W.Frag)(G1 H1:Hp)(js:List (Option Nat))(σ:St)(D:Addr)(es:List L2.D)(ys:List V)(σ':St)(H2:Hp):Prop :=
 ∃G2,Grow G1 H1 G2 H2∧G2 D=none∧H2 D=some (.lst ys)∧IsL K G2 es ys∧σ'.length=js.length∧∀k:Nat,1≤k→σ'[k]? = (sbOf js σ)[k]?
theorem zF {G1 H1 H2:Hp}{Dd:Addr}{ys:List V}{zs ws:List L2.D}{σ':St}{d:L2.D}{v:V}(c:Conf X.K G0 H0 ρ G1 σ H1)(hD:H1 Dd=none)(t:LcT X N scope ((rb js ρ).set 0 (.dat d)) ifs elt zs ws)(iv:Is X.K G1 d v)
 (h:LcI X.K G1 H1 js σ Dd zs ys σ' H2) :
 tTc X N scope ifs (σ'.set 0 (some v)) H2 fun b H5=>if b=true then tEc X N scope elt (σ'.set 0 (some v)) H5 fun y H6=>H6 Dd=some (.lst ys)∧ys.length<sizeLine∧LcI X.K G1 H1 js σ Dd ws (ys++[y]) (σ'.set 0 (some v)) (upd H6 Dd (.lst (ys++[y])))
  else LcI X.K G1 H1 js σ Dd ws ys (σ'.set 0 (some v)) H5:=by
 obtain⟨G2,g2,k1,k2,k3,k4,k5⟩:=h
 have sg:Same G1 G2:=g2.gg c.sub
 have cb:Conf X.K G2 H2 ((rb js ρ).set 0 (.dat d)) G2 (σ'.set 0 (some v)) H2:=jC c sg g2.sub (Zb sg iv) k4 k5
 have len':(σ'.set 0 (some v)).length=js.length:=by rw[List.length_set];exact k4
 have tail':∀k:Nat,1≤k→(σ'.set 0 (some v))[k]? = (sbOf js σ)[k]?:=fun k hk=>by rw[List.getElem?_set_ne (by omega)];exact k5 k hk
 rcases t with ⟨r,ht,he,rfl,hz⟩ | ⟨ht,rfl⟩
 · intro C fp s0 H0' pins s I
   refine(ht C fp s0 H0').u pins s _ H2 _ I ⟨G2,H2,G2,cb,fun G5 H5 g5=>iteT ?_⟩
   intro C fp s0 H0' pins s I
   refine(he C fp s0 H0').u pins s _ H5 _ I ⟨G2,H2,G5,cb.up g5,fun y G6 H6 g6 o6=>?_⟩
   obtain⟨G7,g7,i7⟩:=o6.share g6
   have g57:=g5.trans g7
   have hD6:H6 Dd=some (.lst ys):=g57.same _ _ k2
   have k3':IsL X.K G7 zs ys:=Zk (g57.gg g2.sub) k3
   have hG7:G7 Dd=none:=(g57.old _ (Y4 k2)).trans k1
   have g17:=g2.trans g57
   refine⟨hD6,by rw[k3.len];exact hz,G7,⟨fun b u q=>?_,g17.old,fun b u q=>?_⟩,hG7,upd_same,k3'.snoc i7,len',tail'⟩
   · rw[upd_ne (ne_of_none q hD)];exact g17.same b u q
   · rw[upd_ne (ne_of_none q hG7)];exact g17.sub b u q
 · intro C fp s0 H0' pins s I
   refine(ht C fp s0 H0').u pins s _ H2 _ I ⟨G2,H2,G2,cb,fun G5 H5 g5=>iteF ?_⟩
   exact⟨G5,g2.trans g5,(g5.old _ (Y4 k2)).trans k1,g5.same _ _ k2,Zk (g5.gg g2.sub) k3,len',tail'⟩
theorem JR {G1 H1:Hp}{Dd:Addr}(s:Same G1 H1)(hD:H1 Dd=none)(hb:(sbOf js σ).length=js.length:=by simp[sbOf]):LcI X.K G1 H1 js σ Dd [] [] (sbOf js σ) (upd H1 Dd (.lst [])) :=
 ⟨G1,Grow.newOwn s hD,Same.dead s hD,upd_same,.nil,hb,fun _ _=>rfl⟩
theorem yY {G1 H1 H2:Hp}{Dd:Addr}{ys:List V}{zs:List L2.D}{σ':St}{Q:VK}(c:Conf X.K G0 H0 ρ G σ H)(g1:Grow G H G1 H1)(hD:H1 Dd=none)(q:∀v G' H',Grow G H G' H'→Got X.K G' H H' (.own zs) v→Q v H')
 (h:LcI X.K G1 H1 js σ Dd zs ys σ' H2):Q (.ref Dd) H2:=by
 obtain⟨G2,g2,k1,k2,k3,k4,k5⟩:=h
 exact q _ G2 H2 (g1.trans g2) ⟨Dd,ys,rfl,k1,Same.dead g1.same hD,k2,k3⟩
theorem lcL {Q:VK}(es:Nat→List L2.D)(h0:es 0=[])(turn:∀(i:Nat) d,ds[i]? = some d→LcT X N scope ((rb js ρ).set 0 (.dat d)) ifs elt (es i) (es (i+1)))
 (c:Conf X.K G0 H0 ρ G σ H) (q:∀v G' H',Grow G H G' H'→Got X.K G' H H' (.own (es ds.length)) v→Q v H') :
 tLC (sbOf js) (iList X.K (tD X.K ρ (.dat (.lst ds)))) (gName 0) (tTc X N scope ifs) (tEc X N scope elt) σ H Q :=
 ⟨G0,H0,G,c,fun v G1 H1 g1 i1=>by
  obtain⟨ad,xs,rfl,h1,h2⟩:=ZB i1
  refine⟨ad,rfl,⟨xs,g1.sub.seq h1⟩,fun Dd hD=>JF (xs:=xs) (fun i ys σ' H2=>LcI X.K G1 H1 js σ Dd (es i) ys σ' H2) (by rw[h0];exact JR g1.sub hD) ?_ ?_ ?_⟩
  · rintro i ys σ' H2 _ ⟨G2,g2,k1,k2,_⟩
    exact⟨g2.same |>.seq (g1.sub.seq h1),k2⟩
  · rintro i y ys σ' H2 hi h
    obtain⟨d,e1,iv⟩:=h2.got hi
    exact zF (c.up g1) hD (turn i d e1) iv h
  · rintro ys σ' H2 h
    rw[h2.len] at h
    exact yY c g1 hD q h⟩
theorem lcR {Q:VK}{n:Nat}(es:Nat→List L2.D)(hn:(n:Int)<2 ^ 62)(h0:es 0=[])(turn:∀(i:Nat),i<n→LcT X N scope ((rb js ρ).set 0 (.dat (.int i))) ifs elt (es i) (es (i+1)))
 (c:Conf X.K G0 H0 ρ G σ H) (q:∀v G' H',Grow G H G' H'→Got X.K G' H H' (.own (es n)) v→Q v H') :
 tLC (sbOf js) (iRng1 (tCons (tD X.K ρ (.dat (.int n))) tNil)) (gName 0) (tTc X N scope ifs) (tEc X N scope elt) σ H Q :=
 ⟨G0,H0,G,c,fun v G1 H1 g1 i1=>by
  refine⟨n,by rw[Z8 i1],by omega,hn,fun Dd hD=>?_⟩
  rw[Int.toNat_natCast]
  refine Z1x (fun i ys σ' H2=>LcI X.K G1 H1 js σ Dd (es i) ys σ' H2) (by rw[h0];exact JR g1.sub hD) ?_ ?_ ?_
  · rintro i ys σ' H2 _ ⟨G2,g2,k1,k2,_⟩
    exact k2
  · rintro i ys σ' H2 hi h
    rw[Int.zero_add]
    exact zF (c.up g1) hD (turn i hi) Zl h
  · rintro ys σ' H2 h
    exact yY c g1 hD q h⟩
variable {p:Pos}
theorem Z0t (es:Nat→List L2.D)(js:List (Option Nat))(S:BlkScope N scope X.env.scope)(Z:Slots X.N N scope (sbOf js))(hi:QE X ρ it (.dat (.lst ds)))(hg:∀C fp s H,PG (X.blk N scope C fp s H) tg (gName 0))(h0:es 0=[])
 (turn:∀(i:Nat) d,ds[i]? = some d→LcT X N scope ((rb js ρ).set 0 (.dat d)) ifs elt (es i) (es (i+1))) (hc:X.calm=true:=by rfl) (hs:∀x,foldedSetIterable it X.env x=pure x:=by intro _;rfl) :
 QE X ρ (.ListComp elt [⟨tg,it,ifs,0⟩] scope pos) (.own (es ds.length)) :=
 Zf (JC hc S Z (pi_list hi.u) hg (fun _ _ _ _=>YB) (fun _ _ _ _=>Jm) hs) fun G0 H0 G σ H Q c q=>lcL es h0 turn c q
theorem Z36 {a:Expr}{n:Nat}{p2 cp:Pos}(es:Nat→List L2.D)(js:List (Option Nat))(S:BlkScope N scope X.env.scope)(Z:Slots X.N N scope (sbOf js))(ha:QE X ρ a (.dat (.int n)))(hn:(n:Int)<2 ^ 62)(hg:∀C fp s H,PG (X.blk N scope C fp s H) tg (gName 0))(h0:es 0=[])
 (turn:∀(i:Nat),i<n→LcT X N scope ((rb js ρ).set 0 (.dat (.int i))) ifs elt (es i) (es (i+1))) (hm:X.mg "range" = none) (hgl:Gl X "range" := by rfl) (hsA:starEach [a] X.env=[(false,eval a X.env)]:=by rfl)
 (hc:X.calm=true:=by rfl) (hs:∀x,foldedSetIterable (.Call (.Name "range" p2) [a] [] cp) X.env x=pure x:=by intro _;rfl) :
 QE X ρ (.ListComp elt [⟨tg,.Call (.Name "range" p2) [a] [] cp,ifs,0⟩] scope pos) (.own (es n)) :=
 Zf (JC hc S Z (pi_range1 hgl hm (pa_cons ha.u pa_nil hsA) hsA) hg (fun _ _ _ _=>YB) (fun _ _ _ _=>Jm) hs) fun G0 H0 G σ H Q c q=>lcR es hn h0 turn c q
theorem Z31 {i:Nat}{y:Str}{py:Pos}(es:Nat→List L2.D)(js:List (Option Nat))(hN:X.N.Nodup)(S:BlkScope N scope X.env.scope)(Z:Slots X.N N scope (sbOf js))(hi:QE X ρ it (.dat (.lst ds)))(hg:∀C fp s H,PG (X.blk N scope C fp s H) tg (gName 0))(h0:es 0=[])
 (turn:∀(i:Nat) d,ds[i]? = some d→LcT X N scope ((rb js ρ).set 0 (.dat d)) ifs elt (es i) (es (i+1))) (hi':X.N[i]? = some y:=by rfl) (hy:Loc X.env.scope y:=by first | exact Or.inl rfl | exact Or.inr rfl)
 (hc:X.calm=true:=by rfl) (hsw:swapsWith (.ListComp elt [⟨tg,it,ifs,0⟩] scope pos) (some (.Name y py)) p.line X.env=pure true:=by rfl) (hs:∀x,foldedSetIterable it X.env x=pure x:=by intro _;rfl)
 (hf:X.fn y=true∨X.env.scope.names.lookup y=some .local:=by first | exact .inl rfl | exact .inr rfl | assumption) :
 QS X E ρ (.Assign [.Name y py] (.ListComp elt [⟨tg,it,ifs,0⟩] scope pos) p) (.nx (ρ.set i (.own (es ds.length)))) :=
 Y2 (yK hN hi' hy hc S Z (pi_list hi.u) hg (fun _ _ _ _=>YB) (fun _ _ _ _=>Jm) hsw hs hf) fun G0 H0 G D σ H c f=>lcL es h0 turn c fun v G' H' g o=>f G' _ H' (g.gg c.sub) (c.got (r:=.own (es ds.length)) g o)
end
def dsp (K:PySem.W.Frag)(pre:List D→R→Prop):Sp:=fun vs H Q _=>∃ds G r,pre ds r∧Same G H∧IsL K G ds vs∧∀v G' H',Grow G H G' H'→Got K G' H H' r v→Q v H'
abbrev Fn (P:Program)(w:World)(K:PySem.W.Frag)(mg:Str→Option Value)(base:Heap)(k:Nat)(x:Str)(ps:List Str)(pre:List D→R→Prop):Prop:=Callee P w K mg base CX0 k x ps (dsp K pre)
def start0 (N:List Str)(ds:List D):Ro:=ds.map Slot.dat++List.replicate (N.length-ds.length) Slot.un
theorem ZE {K:PySem.W.Frag}{G H:Hp}{N:List Str}{ds:List D}{vs:List V}(i:IsL K G ds vs)(s:Same G H):Conf K G H (start0 N ds) G (start N vs) H:=by
 have hl:=i.len
 have key:∀(k:Nat) (sl:Slot),(start0 N ds)[k]? = some sl→sl=.un ∨ ∃d,sl=.dat d∧ds[k]? = some d:=fun k sl q=>by
  unfold start0 at q
  by_cases hk:k<ds.length
  · rw[List.getElem?_append_left (by rw[List.length_map];exact hk),List.getElem?_map,List.getElem?_eq_getElem hk] at q
    right
    exact⟨ds[k],by simpa using q.symm,List.getElem?_eq_getElem hk⟩
  · rw[List.getElem?_append_right (by rw[List.length_map];omega),List.getElem?_replicate] at q
    split at q
    · left;simpa using q.symm
    · cases q
 have noOwn:∀(k:Nat) (es:List D),(start0 N ds)[k]? = some (.own es)→False:=fun k es q=>by
  rcases key k _ q with z | ⟨d,z,_⟩ <;> cases z
 have noD:∀(k:Nat) (t:Slot),t.isD=true→(start0 N ds)[k]? = some t→False:=fun k t ht q=>by
  rcases key k _ q with z | ⟨d,z,_⟩ <;> (subst z;cases ht)
 refine⟨Grow.refl s,by unfold start start0;simp[hl],fun k d q=>?_,fun k es q=>(noOwn k es q).elim,fun k l es fs a _ q _=>(noOwn k es q).elim,fun k t ht q=>(noD k t ht q).elim,fun k l t u a _ ht _ q _=>(noD k t ht q).elim⟩
 rcases key k _ q with z | ⟨d',z,hk⟩
 · cases z
 · cases z
   obtain⟨v,e1,e2⟩:=i.get hk
   refine⟨v,?_,e2⟩
   have hkl:k<vs.length:=(List.getElem?_eq_some_iff.mp e1).1
   unfold start
   rw[List.getElem?_append_left (by rw[List.length_map];exact hkl),List.getElem?_map,e1];rfl
def noX:XW:=fun _ _ _=>False
theorem ZO {P:Program}{w:World}{K:PySem.W.Frag}{mg:Str→Option Value}{base:Heap}{x:Str}{st:Stmt}{N ps:List Str}{k:Nat}{pre:List D→R→Prop}(d:Def K mg x st)(S:FnScope N ps (defScope st))
 (hb:∀(kV doc pm:Value) (an:Option Addr) (cdv ct:Value) (us:List Value),us.length=ps.length→bindArgs (PySem.W.fnOf x x (defArgs st) (defBody st) (defScope st) .none kV doc pm an cdv ct) ⟨us,[]⟩=pure (ps.zip us))
 (len:∀ds r,pre ds r→ds.length=ps.length)
 (hbody:∀(X:Cx) (f:Addr) (cdv:Value) (A:Around) (outer:List Env) (s:Shared) (H:Hp) (E:XK),X=(cxOf CX0 P w K mg base N x (defScope st) f cdv A outer s H E).nox→Room k X.A→∀ds r,pre ds r→QK X noX (start0 N ds) [defBody st] (.rt r)) :
 Fn P w K mg base (k+1) x ps pre:=by
 refine d.callee S hb (fun vs H Q E h=>?_) fun f cdv A outer s H vs Q E hr h=>?_
 · obtain⟨ds,G,r,hp,_,i,_⟩:=h
   rw[i.len];exact len ds r hp
 · obtain⟨ds,G,r,hp,sg,i,q⟩:=h
   refine⟨_,(QK.s (hbody _ f cdv A outer s H E rfl hr ds r hp)).u,?_⟩
   exact⟨G,H,G,ZE i sg,fun v G' H' _ g o=>q v G' H' g o⟩
section
variable {X:Cx}{ρ:Ro}{r:R}{k:Nat}{x:Str}{ps:List Str}{pre:List D→R→Prop}{p pos:Pos}{e:Expr}{es:List Expr}{ds:List D}
theorem Zc (c:Fn X.prog X.w X.K X.mg X.base k x ps pre)(hr:Room k X.A)(ha:QA X ρ (e::es) ds)(hp:pre ds r)(hg:Gl X x:=by rfl)(hdb:(x==("__debug__" : Str))=false:=by decide)
 (he:starEach (e::es) X.env=(false,eval e X.env)::starEach es X.env:=by rfl) (hpl:(backTo pos (starEach es X.env)).any (·.1)=false:=by rfl):QE X ρ (.Call (.Name x p) (e::es) [] pos) r :=
 Zf (Z1M c hr ha.u hg hdb he hpl) fun G0 H0 G σ H Q c q=>⟨G0,H0,G,c,fun vs G1 H1 g1 i1=>by
  show dsp X.K pre (vs++[]) H1 Q E0
  rw[List.append_nil]
  exact⟨ds,G1,r,hp,g1.sub,i1,fun v G2 H2 g2 o2=>q v G2 H2 (g1.trans g2) (o2.old g1.same)⟩⟩
end
section
variable {X:Cx}{ρ ρ1:Ro}{r:R}{e a b it elt tg:Expr}{es:List Expr}{ds:List D}{pos:Pos}{E:XW}{x:Str}{o:O}
def clsD:D→Value
 | .non=>.type "NoneType"
 | .bl _=>.type "bool"
 | .int _=>.type "int"
 | .str _=>.type "str"
 | .tup _=>.type "tuple"
 | .lst _=>.type "list"
 | .exn C=>.ref C
 | .obj C _ _=>.ref C
 | .dct _ _=>.type "dict"
 | .dtp _ _=>.type "dict"
 | .fn _ _=>.type "function"
structure OKit (K:PySem.W.Frag)(C:Addr):Prop where
 pg:PySem.W.plainGet K C "__class__" = true
 hd:PySem.W.hasDictIn K C=true
 fi:PySem.W.findIn K (.ref C) "__class__" = some (some (.builtin "object.__class__"))
 sp:PySem.W.specialIn K (.builtin "object.__class__") "__get__" = some (some (.builtin "getset_descriptor.__get__"))
 tk:PySem.W.takesIn K (.builtin "object.__class__")=some true
 mo:PySem.W.mroIn K C (.type "object")=some true
def KitD (K:PySem.W.Frag):D→Prop
 | .exn C=>XKit K C
 | .obj C _ _=>OKit K C
 | .fn _ _=>False
 | _=>True
theorem Z3r {pins:List (Addr × Obj)}{σ:St}{H:Hp}{s:Shared}{Q:Value→Shared→Prop}{E:Value→Shared→Prop}{c:Value}{k:Bool}{d:D}{v:V}{u:Value}(I:Inv X pins σ H s)(rv:RelV v u)(i:Is X.K H d v)(kd:KitD X.K d)(e:PySem.W.kitOne X.K (clsD d) c=some k)
 (h:∀tk,Q (.bool k) { s with toks:=tk }):wpAny (model X.prog X.w) X.A (call (.builtin "isinstance") [u,c]) Q E s:=by
 cases d with
 | non=>rw[YN i] at rv;exact isinst_ok I rv .non e h
 | bl y=>rw[Y9 i] at rv;exact isinst_ok I rv (.bl y) e h
 | int y=>rw[Z8 i] at rv;exact isinst_ok I rv (.int y) e h
 | str y=>rw[zo i] at rv;exact isinst_ok I rv (.str y) e h
 | tup es =>
  obtain⟨ad,xs,rfl,h1,h2⟩:=is_tup i
  cases (show u=Value.ref ad from rv)
  obtain⟨its,_,p,_⟩:=I.tuple h1
  obtain⟨ob,q1,q2,_⟩:=p
  exact PySem.W.kia_one PySem.W.kitx_tuple I.kIn ⟨ob,q1,q2⟩ e (fun z=>nomatch z) h
 | lst es =>
  obtain⟨ad,xs,rfl,h1,h2⟩:=ZB i
  cases (show u=Value.ref ad from rv)
  obtain⟨its,_,p,_⟩:=I.list h1
  obtain⟨ob,q1,q2,_⟩:=p.isList
  exact PySem.W.kia_one PySem.W.kitx_list I.kIn ⟨ob,q1,q2⟩ e (fun z=>nomatch z) h
 | exn C =>
  unfold Is at i
  obtain⟨ad,rfl,h1⟩:=i
  cases (show u=Value.ref ad from rv)
  have p:AtX ad C s.heap:=(I.hok ad _ h1).1
  exact PySem.W.kia_one (j6 kd) I.kIn p e (fun z=>nomatch z) h
 | obj C ns ds =>
  unfold Is at i
  obtain⟨ad,dx,fs,rfl,h1,_⟩:=i
  cases (show u=Value.ref ad from rv)
  obtain⟨d1,_,_,e1,mA,⟨od,es,ep,e2,_⟩,_⟩:=I.hok ad _ h1
  have kd:OKit X.K C:=kd
  exact PySem.W.kia_one (PySem.W.kitx_own (x:=ad) (ox:=PySem.W.instObj C dx) (od:=od) kd.pg kd.hd kd.fi kd.sp kd.tk kd.mo) I.kIn ⟨e1,rfl,rfl,e2⟩ e (fun z=>nomatch z) h
 | dct ks ds =>
  unfold Is at i
  obtain⟨ad,kvs,rfl,h1,_⟩:=i
  cases (show u=Value.ref ad from rv)
  obtain⟨_,_,vs,_,o,es,ep,e1,ed,_⟩:=I.hok ad _ h1
  exact PySem.W.kia_one PySem.W.kitx_dict I.kIn ⟨o,e1,ed.1⟩ e (fun z=>nomatch z) h
 | dtp ks ds =>
  unfold Is at i
  obtain⟨ad,kvs,rfl,h1,_⟩:=i
  cases (show u=Value.ref ad from rv)
  obtain⟨_,_,vs,_,o,es,ep,e1,ed,_⟩:=I.hok ad _ h1
  exact PySem.W.kia_one PySem.W.kitx_dict I.kIn ⟨o,e1,ed.1⟩ e (fun z=>nomatch z) h
 | fn f ds=>exact kd.elim
def ClsV:V→Value→Prop
 | .ty n,c=>c=.type n
 | .ref a,c=>c=.ref a
 | _,_=>False
theorem ji:CallR X (.builtin "isinstance") (fun xs H Q=>∃v d n c k,xs=[v,n]∧ClsV n c∧Is X.K H d v∧KitD X.K d∧PySem.W.kitOne X.K (clsD d) c=some k∧Q (.bl k) H):=by
 intro pins s σ H xs us Q I rr h
 obtain⟨v,d,n,c,k,rfl,cv,i,kd,e,q⟩:=h
 obtain⟨u,w,rfl,rx,rc⟩:=vals2 rr
 have ew:w=c:=by
  cases n with
  | ty m=>rw[show c=_ from cv];exact rc
  | ref a=>rw[show c=_ from cv];exact rc
  | _=>exact cv.elim
 subst ew
 exact Z3r I rx i kd e fun tk=>⟨.bl k,H,I.tok tk,rfl,q⟩
theorem Jk {n:String}{y:Str}{k:Bool}{d:D}{p p2:Pos}(hm:X.mg "isinstance" = none)(hm2:X.mg y=none)(hv:bootBuiltins "isinstance" = some (.builtin "isinstance"))(hv2:bootBuiltins y=some (.type n))(ha:QE X ρ a (.dat d))
 (ek:PySem.W.kitOne X.K (clsD d) (.type n)=some k) (kd:KitD X.K d:=by first | exact trivial | assumption) (hg:Gl X "isinstance" := by rfl) (hg2:Gl X y:=by rfl) (hn:y ≠ "__name__" := by decide) (hd:(y==("__debug__" : Str))=false:=by decide)
 (hs1:starEach [a,.Name y p2] X.env=(false,eval a X.env)::starEach [.Name y p2] X.env:=by rfl) (hs2:starEach [.Name y p2] X.env=[(false,eval (.Name y p2) X.env)]:=by rfl) (hpl:(backTo pos (starEach [.Name y p2] X.env)).any (·.1)=false:=by rfl) :
 QE X ρ (.Call (.Name "isinstance" p) [a,.Name y p2] [] pos) (.dat (.bl k)) :=
 Zf (pe_callB ji hg hm hv (pa_cons ha.u (pa_cons (pe_bltn (v:=.ty n) hg2 hm2 hv2 rfl hn hd) pa_nil hs2) hs1) (by decide) (by decide) hs1 hpl) fun G0 H0 G σ H Q c q =>
  ⟨G0,H0,G,c,fun v G' H' g i=>⟨v,d,_,_,k,rfl,rfl,Zb g.sub i,kd,ek,q _ G' H' g ZF⟩⟩
theorem Z37 {C:Addr}{y:Str}{k:Bool}{d:D}{p p2:Pos}(hm:X.mg "isinstance" = none)(hm2:X.mg y=some (.ref C))(hv:bootBuiltins "isinstance" = some (.builtin "isinstance"))(ha:QE X ρ a (.dat d))
 (ek:PySem.W.kitOne X.K (clsD d) (.ref C)=some k) (kd:KitD X.K d:=by first | exact trivial | assumption) (hg:Gl X "isinstance" := by rfl) (hg2:Gl X y:=by rfl) (hd:(y==("__debug__" : Str))=false:=by decide)
 (hs1:starEach [a,.Name y p2] X.env=(false,eval a X.env)::starEach [.Name y p2] X.env:=by rfl) (hs2:starEach [.Name y p2] X.env=[(false,eval (.Name y p2) X.env)]:=by rfl) (hpl:(backTo pos (starEach [.Name y p2] X.env)).any (·.1)=false:=by rfl) :
 QE X ρ (.Call (.Name "isinstance" p) [a,.Name y p2] [] pos) (.dat (.bl k)) :=
 Zf (pe_callB ji hg hm hv (pa_cons ha.u (pa_cons (pe_glob (v:=.ref C) hg2 hm2 rfl hd) pa_nil hs2) hs1) (by decide) (by decide) hs1 hpl) fun G0 H0 G σ H Q c q =>
  ⟨G0,H0,G,c,fun v G' H' g i=>⟨v,d,_,_,k,rfl,rfl,Zb g.sub i,kd,ek,q _ G' H' g ZF⟩⟩
theorem Z1G {pins:List (Addr × Obj)}{σ:St}{H:Hp}{s:Shared}{l b:Addr}{xs zs:List V}{Q:VK}(I:Inv X pins σ H s)(h1:SqL X.K H l xs)(h2:SqL X.K H b zs)(hz:xs.length+zs.length≤sizeLine)
 (h:∀p,H p=none→Q (.ref p) (upd H p (.lst (xs++zs)))):wpAny (model X.prog X.w) X.A (binaryOp .Add (.ref l) (.ref b)) (EP X pins σ Q) X.xe s:=by
 obtain⟨its,r1,p1,_⟩:=I.list h1
 obtain⟨jts,r2,p2,_⟩:=I.list h2
 obtain⟨⟨cls,dd,data,sl⟩,ho,hc,n,hd⟩:=p1.isList
 obtain⟨⟨cls2,dd2,data2,sl2⟩,ho2,hc2,n2,hd2⟩:=p2.isList
 simp only at hc hd hc2 hd2
 subst hc hd hc2 hd2
 have l1:=r1.length
 have l2:=r2.length
 have e:its.toArray++jts.toArray=(its++jts).toArray:=by simp
 refine concat_meets ⟨_,ho,rfl⟩ ⟨_,ho2,rfl⟩ noFill_list_add seq_list_add PySem.F.slot_list_add PySem.F.entry_list_add (PySem.F.args_list_add_2 _ _) (list_addW l b its.toArray jts.toArray n n2 dd dd2 sl sl2 (by simp only[List.size_toArray];omega)) ⟨ho,ho2,?_⟩
 rw[e]
 exact⟨.ref _,_,I.lnew (t':=s.toks) (r1.append r2) (by rw[List.length_append];exact hz),rfl,h _ I.fresh⟩
def rCatR (K:PySem.W.Frag):R2:=fun x y H Q=>∃l b xs zs,x=.ref l∧y=.ref b∧SqL K H l xs∧SqL K H b zs∧xs.length+zs.length≤sizeLine∧∀p,H p=none→Q (.ref p) (upd H p (.lst (xs++zs)))
theorem Z2o:OpR X (binaryOp .Add) (rCatR X.K):=by
 intro pins s σ H x y v u Q I rx ry h
 obtain⟨l,b,xs,zs,rfl,rfl,h1,h2,hz,q⟩:=h
 cases rx
 cases ry
 exact Z1G I h1 h2 hz q
theorem Z38 {ds2:List D}(ha:QE X ρ a (.dat (.lst ds)))(hb:QE X ρ b (.dat (.lst ds2)))(hz:ds.length+ds2.length≤sizeLine):QE X ρ (.BinOp a .Add b pos) (.own (ds++ds2)) :=
 Z6 Z2o (fun G H x y Q s i1 i2 q=>by
  obtain⟨l,xs,rfl,h1,h2⟩:=ZB i1
  obtain⟨m,ys,rfl,h3,h4⟩:=ZB i2
  exact⟨l,m,xs,ys,rfl,rfl,s.seq h1,s.seq h3,by rw[h2.len,h4.len];exact hz,fun p hp=>q _ G _ (Grow.newOwn s hp) ⟨p,_,rfl,Same.dead s hp,hp,upd_same,h2.append h4⟩⟩) ha hb
end
section
variable {X:Cx}{ρ:Ro}{e it elt tg:Expr}{ifs:List Expr}{pos:Pos}{E:XW}{x:Str}{N:List Str}{js:List (Option Nat)}{scope:Scope}{α:Type}
theorem Jg {α β:Type}(f:α→β){l:List α}{i:Nat}{x:α}(h:l[i]? = some x):(l.take (i+1)).map f=(l.take i).map f++[f x]:=by
 rw[List.take_add_one,h,List.map_append];rfl
theorem Y5 {α β:Type}{f:α→β}{l:List α}{i:Nat}{y:β}(h:(l.map f)[i]? = some y):∃x,l[i]? = some x∧f x=y:=by
 rw[List.getElem?_map] at h
 cases e:l[i]? with
 | none=>rw[e] at h;cases h
 | some x=>rw[e] at h;exact⟨x,rfl,Option.some.inj h⟩
theorem jL {gl:List α}{f F:α→D}(hl:gl.length≤sizeLine)(turn:∀g,g∈gl→∀C fp s H,QE (X.blk N scope C fp s H) ((rb js ρ).set 0 (.dat (f g))) elt (.dat (F g))) :
 ∀(i:Nat) d,(gl.map f)[i]? = some d→LcT X N scope ((rb js ρ).set 0 (.dat d)) [] elt ((gl.take i).map F) ((gl.take (i+1)).map F):=fun i d h=>by
 obtain⟨g,hg,rfl⟩:=Y5 h
 have hi:i<gl.length:=(List.getElem?_eq_some_iff.mp hg).1
 exact .inl ⟨.dat (F g),fun _ _ _ _=>YK,turn g (List.mem_of_getElem? hg),Jg F hg,by rw[List.length_map,List.length_take];omega⟩
theorem Z1u {gl:List α}{f F:α→D}{p:α→Bool}{c:Expr}(hl:gl.length≤sizeLine)(test:∀g,g∈gl→∀C fp s H,QTs (X.blk N scope C fp s H) ((rb js ρ).set 0 (.dat (f g))) [c] (p g))
 (turn:∀g,g∈gl→p g=true→∀C fp s H,QE (X.blk N scope C fp s H) ((rb js ρ).set 0 (.dat (f g))) elt (.dat (F g))) :
 ∀(i:Nat) d,(gl.map f)[i]? = some d→LcT X N scope ((rb js ρ).set 0 (.dat d)) [c] elt (((gl.take i).filter p).map F) (((gl.take (i+1)).filter p).map F):=fun i d h=>by
 obtain⟨g,hg,rfl⟩:=Y5 h
 have hi:i<gl.length:=(List.getElem?_eq_some_iff.mp hg).1
 have e:gl.take (i+1)=gl.take i++[g]:=by rw[List.take_add_one,hg];rfl
 have t:=test g (List.mem_of_getElem? hg)
 cases hp:p g with
 | true =>
  rw[hp] at t
  refine .inl ⟨.dat (F g),t,turn g (List.mem_of_getElem? hg) hp,?_,?_⟩
  · rw[e,List.filter_append,List.filter_cons_of_pos hp,List.map_append];rfl
  · have:=List.length_filter_le p (gl.take i)
    rw[List.length_map];rw[List.length_take] at this;omega
 | false =>
  rw[hp] at t
  refine .inr ⟨t,?_⟩
  rw[e,List.filter_append,List.filter_cons_of_neg (by rw[hp];decide),List.filter_nil,List.append_nil]
theorem Z2s {n:Nat}{F:Nat→D}(hl:n≤sizeLine)(turn:∀i,i<n→∀C fp s H,QE (X.blk N scope C fp s H) ((rb js ρ).set 0 (.dat (.int (i:Nat)))) elt (.dat (F i))) :
 ∀(i:Nat),i<n→LcT X N scope ((rb js ρ).set 0 (.dat (.int i))) [] elt ((List.range i).map F) ((List.range (i+1)).map F):=fun i h =>
 .inl ⟨.dat (F i),fun _ _ _ _=>YK,turn i h,by rw[List.range_succ,List.map_append];rfl,by rw[List.length_map,List.length_range];omega⟩
end
def lawPre:List D→R→Prop:=fun ds r=>∃ns:List Int,ns.length≤63∧ds=[.lst (ns.map D.int)]∧r=.dat (.bl true)
theorem Z3p {P:Program}{w:World}{K:PySem.W.Frag}{mg:Str→Option Value}{base:Heap}{x:Str}{st:Stmt}{N ps:List Str}{k:Nat}{pre:List D→R→Prop}{f:Addr}{fd:FuncData}(F:Fun K x x st f fd)(S:FnScope N ps (defScope st))
 (len:∀ds r,pre ds r→ds.length=ps.length)
 (hbody:∀(X:Cx) (cdv:Value) (A:Around) (outer:List Env) (s:Shared) (H:Hp) (E:XK),X=(cxOf CX0 P w K mg base N x (defScope st) f cdv A outer s H E).nox→Room k X.A→∀ds r,pre ds r→QK X noX (start0 N ds) [defBody st] (.rt r)) :
 FnOk P w K mg base CX0 (k+1) f fd ps (dsp K pre):=by
 refine F.ok S (fun vs H Q E h=>?_) fun cdv A outer s H vs Q E hr h=>?_
 · obtain⟨ds,G,r,hp,_,i,_⟩:=h
   rw[i.len];exact len ds r hp
 · obtain⟨ds,G,r,hp,sg,i,q⟩:=h
   refine⟨_,(QK.s (hbody _ cdv A outer s H E rfl hr ds r hp)).u,?_⟩
   exact⟨G,H,G,ZE i sg,fun v G' H' _ g o=>q v G' H' g o⟩
theorem fun_bind1 {K:PySem.W.Frag}{x p:Str}{st:Stmt}{f:Addr}{fd:FuncData}(F:Fun K x x st f fd)
 (h:∀(kV doc pm:Value) (an:Option Addr) (cdv ct u:Value),bindArgs (PySem.W.fnOf x x (defArgs st) (defBody st) (defScope st) .none kV doc pm an cdv ct) ⟨[u],[]⟩=pure [(p,u)]) (s:Shared) (u:Value):BindsTo s fd ⟨[u],[]⟩ [(p,u)]:=by
 obtain⟨oc,od,kV,doc,pm,an,cdv,ct,osl,rfl,lk,hcd⟩:=F.ex
 exact .of_eq (h kV doc pm an cdv ct u)
theorem law_sp {K:PySem.W.Frag}{H:Hp}{a:Addr}{ns:List Int}{E:XK}(hl:ns.length≤63)(hS:SqL K H a (ns.map V.int)):dsp K lawPre [.ref a] H (fun v _=>v=.bl true) E :=
 ⟨[.lst (ns.map D.int)],H,.dat (.bl true),⟨ns,hl,rfl,rfl⟩,Same.refl H,.one (Is.ofLstI hS),fun v G' H' _ i=>Y9 i⟩
section
variable {X:Cx}{ρ:Ro}{a b:Expr}{rest:List Expr}{pos:Pos}
theorem Z7 {e:Expr}{b c:Bool}(h:QT X ρ e b)(q:b=c):QT X ρ e c:=q▸h
theorem Z5 {e:Expr}{r r':R}(h:QE X ρ e r)(q:r=r'):QE X ρ e r':=q▸h
end
section
variable {X:Cx}{ρ:Ro}{it elt tg:Expr}{pos:Pos}{E:XW}{N:List Str}{scope:Scope}{α:Type}
theorem zC {gl:List α}{f F:α→D}(js:List (Option Nat))(S:BlkScope N scope X.env.scope)(Z:Slots X.N N scope (sbOf js))(hi:QE X ρ it (.dat (.lst (gl.map f))))(hg:∀C fp s H,PG (X.blk N scope C fp s H) tg (gName 0))(turn:∀g,g∈gl→∀C fp s H,QE (X.blk N scope C fp s H) ((rb js ρ).set 0 (.dat (f g))) elt (.dat (F g)))(hl:gl.length≤sizeLine)(hc:X.calm=true:=by rfl)(hs:∀x,foldedSetIterable it X.env x=pure x:=by intro _;rfl) :
 QE X ρ (.ListComp elt [⟨tg,it,[],0⟩] scope pos) (.own (gl.map F)) :=
 Z5 (Z0t (fun i=>(gl.take i).map F) js S Z hi hg rfl (jL hl turn) hc hs) (by simp only[List.length_map,List.take_length])
theorem Z2f {gl:List α}{f F:α→D}{p:α→Bool}{cd:Expr}(js:List (Option Nat))(S:BlkScope N scope X.env.scope)(Z:Slots X.N N scope (sbOf js))(hi:QE X ρ it (.dat (.lst (gl.map f))))(hg:∀C fp s H,PG (X.blk N scope C fp s H) tg (gName 0))(test:∀g,g∈gl→∀C fp s H,QTs (X.blk N scope C fp s H) ((rb js ρ).set 0 (.dat (f g))) [cd] (p g))(turn:∀g,g∈gl→p g=true→∀C fp s H,QE (X.blk N scope C fp s H) ((rb js ρ).set 0 (.dat (f g))) elt (.dat (F g)))(hl:gl.length≤sizeLine)(hc:X.calm=true:=by rfl)(hs:∀x,foldedSetIterable it X.env x=pure x:=by intro _;rfl) :
 QE X ρ (.ListComp elt [⟨tg,it,[cd],0⟩] scope pos) (.own ((gl.filter p).map F)) :=
 Z5 (Z0t (fun i=>((gl.take i).filter p).map F) js S Z hi hg rfl (Z1u hl test turn) hc hs) (by simp only[List.length_map,List.take_length])
theorem Z2d {a:Expr}{n:Nat}{p2 cp:Pos}{F:Nat→D}(js:List (Option Nat))(S:BlkScope N scope X.env.scope)(Z:Slots X.N N scope (sbOf js))(ha:QE X ρ a (.dat (.int n)))(hn:(n:Int)<2 ^ 62)(hg:∀C fp s H,PG (X.blk N scope C fp s H) tg (gName 0))(turn:∀i,i<n→∀C fp s H,QE (X.blk N scope C fp s H) ((rb js ρ).set 0 (.dat (.int (i:Nat)))) elt (.dat (F i)))(hl:n≤sizeLine)(hm:X.mg "range" = none)(hgl:Gl X "range" := by rfl)(hsA:starEach [a] X.env=[(false,eval a X.env)]:=by rfl)(hc:X.calm=true:=by rfl)(hs:∀x,foldedSetIterable (.Call (.Name "range" p2) [a] [] cp) X.env x=pure x:=by intro _;rfl) :
 QE X ρ (.ListComp elt [⟨tg,(.Call (.Name "range" p2) [a] [] cp),[],0⟩] scope pos) (.own ((List.range n).map F)) :=
 Z36 (fun i=>(List.range i).map F) js S Z ha hn hg rfl (Z2s hl turn) hm hgl hsA hc hs
theorem Z29 (i:Nat){gl:List α}{f F:α→D}{y:Str}{py p0:Pos}(js:List (Option Nat))(hN:X.N.Nodup)(S:BlkScope N scope X.env.scope)(Z:Slots X.N N scope (sbOf js))(hi:QE X ρ it (.dat (.lst (gl.map f))))(hg:∀C fp s H,PG (X.blk N scope C fp s H) tg (gName 0))(turn:∀g,g∈gl→∀C fp s H,QE (X.blk N scope C fp s H) ((rb js ρ).set 0 (.dat (f g))) elt (.dat (F g)))(hl:gl.length≤sizeLine)(hi':X.N[i]? = some y:=by rfl)(hy:Loc X.env.scope y:=by first | exact Or.inl rfl | exact Or.inr rfl)(hc:X.calm=true:=by rfl)(hsw:swapsWith (.ListComp elt [⟨tg,it,[],0⟩] scope pos) (some (.Name y py)) p0.line X.env=pure true:=by rfl)(hs:∀x,foldedSetIterable it X.env x=pure x:=by intro _;rfl)
 (hf:X.fn y=true∨X.env.scope.names.lookup y=some .local:=by first | exact .inl rfl | exact .inr rfl | assumption) :
 QS X E ρ (.Assign [.Name y py] (.ListComp elt [⟨tg,it,[],0⟩] scope pos) p0) (.nx (ρ.set i (.own (gl.map F)))) :=
 by
 have h:=Z31 (E:=E) (i:=i) (p:=p0) (fun i=>(gl.take i).map F) js hN S Z hi hg rfl (jL hl turn) hi' hy hc hsw hs hf
 simp only[List.length_map,List.take_length] at h
 exact h
end
theorem Zv:bootBuiltins "len" = some (.builtin "len"):=by kernel_rfl
theorem Z3x:bootBuiltins "sum" = some (.builtin "sum"):=by kernel_rfl
theorem Jy:bootBuiltins "sorted" = some (.builtin "sorted"):=by kernel_rfl
theorem Zp:bootBuiltins "isinstance" = some (.builtin "isinstance"):=by kernel_rfl
theorem jj:bootBuiltins "int" = some (.type "int"):=by kernel_rfl
theorem jS:bootBuiltins "bool" = some (.type "bool"):=by kernel_rfl
theorem jR {k:Nat}:∀ {ds:List D},(∀d∈ds,dep d≤k)→depL ds≤k
 | [],_=>by unfold depL;omega
 | d::ds,h=>by
  unfold depL
  exact Nat.max_le.mpr ⟨h d List.mem_cons_self,jR fun e he=>h e (List.mem_cons_of_mem _ he)⟩
theorem YR {ds:List D}{k:Nat}(h:∀d∈ds,dep d≤k):dep (.lst ds)≤k+1:=by
 unfold dep;exact Nat.succ_le_succ (jR h)
theorem YT {i:Int}:dep (.int i)=0:=by unfold dep;rfl
theorem Z1F (ns:List Int):dep (.lst (ns.map D.int))≤30:=by unfold dep;rw[yf];decide
theorem Z0f {t:List Int}{i:Int}(h0:0≤i)(h1:i<t.length):atI (t.map D.int) i=some (.int (t.getD i.toNat 0)):=by
 have hk:i.toNat<t.length:=by omega
 have e:(t.map D.int)[i.toNat]? = some (.int (t.getD i.toNat 0)):=by
  rw[List.getElem?_map,List.getElem?_eq_getElem hk];simp[List.getD,List.getElem?_eq_getElem hk]
 have:=atI_nat e
 rwa [Int.toNat_of_nonneg h0] at this
section
variable {X:Cx}{ρ:Ro}{E:XW}{o:O}{pos:Pos}{bl:List Stmt}{ks:List (List Stmt)}
theorem Z34 {α:Type}(W:α→Prop)(ρf:α→Ro){c:Expr}{t u:List Stmt}{bv:Bool}(hc:QT X ρ c bv)(h1:bv=true→∃x,W x∧QK X E ρ [t] (.nx (ρf x)))(h2:bv=false→∃x,W x∧QK X E ρ [u] (.nx (ρf x)))
 (h3:∀x,W x→QK X E (ρf x) (bl::ks) o):QK X E ρ ((.If c t u pos::bl)::ks) o:=⟨fun D σ H ⟨G0,H0,G,cf,f⟩ pins s I=>by
 refine pss_cons (ps_if hc.u Z9 Z9) Z9 pins s σ H _ I ?_
 refine⟨G0,H0,G,cf,fun G' H' g=>?_⟩
 have sg:=g.gg cf.sub
 have go:∀b:List Stmt,(∃x,W x∧QK X E ρ [b] (.nx (ρf x)))→tWS X b { D with nx:=tWS X bl { D with nx:=tK X ks D } } σ H':=fun b ⟨x,wx,hx⟩ =>
  hx.u { D with nx:=tWS X bl { D with nx:=tK X ks D } } σ H' ⟨G0,H0,G',cf.up g,fun G'' σ'' H'' s'' c''=>(h3 x wx).u D σ'' H'' ⟨G0,H0,G'',c'',f.up (sg.trans s'')⟩⟩
 cases bv with
 | true=>exact iteT (go t (h1 rfl))
 | false=>exact iteF (go u (h2 rfl))⟩
theorem Z2c (ρ1:Ro){c:Expr}{t u:List Stmt}{bv:Bool}(hc:QT X ρ c bv)(h1:bv=true→QK X E ρ [t] (.nx ρ1))(h2:bv=false→QK X E ρ [u] (.nx ρ1))(h3:QK X E ρ1 (bl::ks) o):QK X E ρ ((.If c t u pos::bl)::ks) o :=
 Z34 (α:=Unit) (fun _=>True) (fun _=>ρ1) hc (fun h=>⟨(),trivial,h1 h⟩) (fun h=>⟨(),trivial,h2 h⟩) fun _ _=>h3
end
def tX (K:PySem.W.Frag)(E:XW)(ρ:Ro)(C:Addr):TE:=fun σ H _=>∃G0 H0 G,Conf K G0 H0 ρ G σ H∧∀G' H',Grow G H G' H'→E C σ H'
structure QX (X:Cx)(E:XW)(ρ:Ro)(e:Expr)(C:Addr):Prop where
 u:PE X e (tX X.K E ρ C)
section
variable {X:Cx}{ρ ρ1:Ro}{e:Expr}{es:List Expr}{pos np cpos:Pos}{E:XW}{x:Str}{C:Addr}{ds:List D}{st:Stmt}{bl:List Stmt}{ks:List (List Stmt)}
theorem yG (xm:XMade X E)(xc:XCls X.K C)(hm:X.mg x=some (.ref C))(ha:QA X ρ (e::es) ds)(hl:ds.length≤sizeLine)(hc:X.calm=true:=by rfl)(hg:Gl X x:=by rfl)(hd:(x==("__debug__" : Str))=false:=by decide)
 (he:starEach (e::es) X.env=(false,eval e X.env)::starEach es X.env:=by rfl) (hpl:(backTo cpos (starEach es X.env)).any (·.1)=false:=by rfl) :
 QS X E ρ (.Raise (some (.Call (.Name x np) (e::es) [] cpos)) none pos) (.ex C ρ) :=
 Y2 (Z1k xm hc xc hg hm ha.u hd he hpl) fun G0 H0 G D σ H c f=>⟨G0,H0,G,c,fun vs G' H' g i=>⟨by rw[i.len];exact hl,f G' σ H' (g.gg c.sub) (c.up g)⟩⟩
theorem zd (h1:QS X E ρ st (.ex C ρ1)):QK X E ρ ((st::bl)::ks) (.ex C ρ1):=⟨fun D σ H ⟨G0,H0,G,c,f⟩ pins s I =>
 pss_cons h1.u Z9 pins s σ H _ I ⟨G0,H0,G,c,f⟩⟩
theorem JP (h:QX X E ρ e C)(hs:swapsWith e none pos.line X.env=pure false:=by rfl):QS X E ρ (.Expr e pos) (.ex C ρ) :=
 Y2 (ps_expr h.u hs) fun G0 H0 G D σ H c f=>⟨G0,H0,G,c,fun G' H' g=>f G' σ H' (g.gg c.sub) (c.up g)⟩
end
def tCallX (sp:Sp)(E:XW)(t:TA):TE:=fun σ H Q=>t σ H fun vs H1=>sp vs H1 Q fun cv _ H'=>∃C,cv=.ref C∧E C σ H'
def dspX (K:PySem.W.Frag)(pre:List D→R→Prop)(preX:List D→Addr→Prop):Sp:=fun vs H Q E=>dsp K pre vs H Q E ∨ ∃ds G C,preX ds C∧Same G H∧IsL K G ds vs∧∀G' H',Grow G H G' H'→E (.ref C) none H'
abbrev FnX (P:Program)(w:World)(K:PySem.W.Frag)(mg:Str→Option Value)(base:Heap)(k:Nat)(x:Str)(ps:List Str)(pre:List D→R→Prop)(preX:List D→Addr→Prop):Prop:=Callee P w K mg base (CXx P w) k x ps (dspX K pre preX)
section
variable {X:Cx}{ρ:Ro}{r:R}{k:Nat}{x:Str}{ps:List Str}{pre:List D→R→Prop}{preX:List D→Addr→Prop}{p pos:Pos}{e:Expr}{es:List Expr}{ds:List D}{E:XW}{C:Addr}{sp:Sp}{t:TA}
theorem jz {f:Addr}{fd:FuncData}{pins:List (Addr × Obj)}{σ:St}{H:Hp}{s:Shared}{Q:VK}{us:List Value}{vs:List V}(F:FnOk X.prog X.w X.K X.mg X.base (CXx X.prog X.w) k f fd ps sp)(hr:Room k X.A)(hb:Binds X.K fd ps [])(xf:XFly X E)
 (I:Inv X pins σ H s) (r:Vals vs us) (h:sp vs H Q fun cv _ H'=>∃C,cv=.ref C∧E C σ H'):wpAny (model X.prog X.w) X.A (call (.ref f) us) (EP X pins σ Q) X.xe s:=by
 have hl:us.length=ps.length:=by rw[←r.length];exact F.len _ _ _ _ h
 have hb2:=hb s us I.kIn (by rw[List.append_nil];exact hl)
 rw[List.append_nil] at hb2
 refine wpAny_call (codeAny_mono (F.run X.A X.stack s H ⟨us,[]⟩ us vs Q _ hr I.env0 hb2 r h) fun res s' hq=>?_)
 match res,hq with
 | .error e,hq=>exact zZ xf I hq
 | .ok (.ret u),hq=>exact I.after hq
theorem Z0C (c:Callee X.prog X.w X.K X.mg X.base (CXx X.prog X.w) k x ps sp)(xf:XFly X E)(hr:Room k X.A)(ha:PA X (e::es) t)(hg:Gl X x)(hdb:(x==("__debug__" : Str))=false)
 (he:starEach (e::es) X.env=(false,eval e X.env)::starEach es X.env) (hpl:(backTo pos (starEach es X.env)).any (·.1)=false):PE X (.Call (.Name x p) (e::es) [] pos) (tCallX sp E t):=by
 obtain⟨f,fd,F,hm,hk,hb⟩:=c.ex
 intro pins s σ H Q I h
 exact wpAny_Call_Name_kw (ld_glob I hg hm (PySem.W.callWith_K (h₀:=X.base) I.ok.mod.kin hk (thn (ha pos pins s σ H _ I h) fun us s1 ⟨vs,H1,I1,r,q⟩=>⟨I1.kIn,jz F hr hb xf I1 r q⟩) he hpl) hdb)
theorem Z0x (c:FnX X.prog X.w X.K X.mg X.base k x ps pre preX)(hr:Room k X.A)(ha:QA X ρ (e::es) ds)(hp:pre ds r)(hg:Gl X x:=by rfl)(hdb:(x==("__debug__" : Str))=false:=by decide)
 (he:starEach (e::es) X.env=(false,eval e X.env)::starEach es X.env:=by rfl) (hpl:(backTo pos (starEach es X.env)).any (·.1)=false:=by rfl):QE X ρ (.Call (.Name x p) (e::es) [] pos) r :=
 Zf (Z0C c Z1R hr ha.u hg hdb he hpl) fun G0 H0 G σ H Q c q=>⟨G0,H0,G,c,fun vs G1 H1 g1 i1=>.inl
  ⟨ds,G1,r,hp,g1.sub,i1,fun v G2 H2 g2 o2=>q v G2 H2 (g1.trans g2) (o2.old g1.same)⟩⟩
theorem Z0o (c:FnX X.prog X.w X.K X.mg X.base k x ps pre preX)(xf:XFly X E)(hr:Room k X.A)(ha:QA X ρ (e::es) ds)(hp:preX ds C)(hg:Gl X x:=by rfl)(hdb:(x==("__debug__" : Str))=false:=by decide)
 (he:starEach (e::es) X.env=(false,eval e X.env)::starEach es X.env:=by rfl) (hpl:(backTo pos (starEach es X.env)).any (·.1)=false:=by rfl):QX X E ρ (.Call (.Name x p) (e::es) [] pos) C :=
 ⟨fun pins s σ H Q I ⟨G0,H0,G,cf,q⟩=>Z0C c xf hr ha.u hg hdb he hpl pins s σ H Q I ⟨G0,H0,G,cf,fun vs G1 H1 g1 i1=>.inr
  ⟨ds,G1,C,hp,g1.sub,i1,fun G2 H2 g2=>⟨C,rfl,q G2 H2 (g1.trans g2)⟩⟩⟩⟩
end
theorem Z0S {P:Program}{w:World}{K:PySem.W.Frag}{mg:Str→Option Value}{base:Heap}{x:Str}{st:Stmt}{N ps:List Str}{k:Nat}{pre:List D→R→Prop}{preX:List D→Addr→Prop}(d:Def K mg x st)(S:FnScope N ps (defScope st))
 (hb:∀(kV doc pm:Value) (an:Option Addr) (cdv ct:Value) (us:List Value),us.length=ps.length→bindArgs (PySem.W.fnOf x x (defArgs st) (defBody st) (defScope st) .none kV doc pm an cdv ct) ⟨us,[]⟩=pure (ps.zip us))
 (len:∀ds r,pre ds r→ds.length=ps.length) (lenX:∀ds C,preX ds C→ds.length=ps.length)
 (hbody:∀(X:Cx) (f:Addr) (cdv:Value) (A:Around) (outer:List Env) (s:Shared) (H:Hp) (E:XK),X=(cxOf (CXx P w) P w K mg base N x (defScope st) f cdv A outer s H E).nox→Room k X.A→∀ds r,pre ds r→QK X noX (start0 N ds) [defBody st] (.rt r))
 (hbodyX:∀(X:Cx) (f:Addr) (cdv:Value) (A:Around) (outer:List Env) (s:Shared) (H:Hp) (E:XK) (E2:XW),X=cxOf (CXx P w) P w K mg base N x (defScope st) f cdv A outer s H E→Room k X.A→XMade X E2→XFly X E2 →
  ∀ds C,preX ds C→∃ρ,QK X E2 (start0 N ds) [defBody st] (.ex C ρ)) :
 FnX P w K mg base (k+1) x ps pre preX:=by
 obtain⟨f,fd,F,hm⟩:=d.ex
 obtain⟨oc,od,kV,doc,pm,an,cdv,ct,osl,rfl,lk,hcd⟩:=F.ex
 refine⟨f,_,fn_of lk hcd S (fun vs H Q E h=>?_) fun A outer s H vs Q E hr h=>?_,hm,F.kp,F.binds hb⟩
 · rcases h with ⟨ds,G,r,hp,_,i,_⟩ | ⟨ds,G,C,hp,_,i,_⟩
   · rw[i.len];exact len ds r hp
   · rw[i.len];exact lenX ds C hp
 · rcases h with ⟨ds,G,r,hp,sg,i,q⟩ | ⟨ds,G,C,hp,sg,i,q⟩
   · exact⟨_,(QK.s (hbody _ f cdv A outer s H E rfl hr ds r hp)).u.nox,G,H,G,ZE i sg,fun v G' H' _ g o=>q v G' H' g o⟩
   · obtain⟨ρ,hq⟩:=hbodyX _ f cdv A outer s H E (fun C _ H=>E (.ref C) none H) rfl hr JK zu ds C hp
     exact⟨_,(QK.s hq).u,G,H,G,ZE i sg,fun G' σ' H' _ c'=>q G' H' c'.grow⟩
theorem Conf.drop {K:PySem.W.Frag}{G0 H0:Hp}{ρ:Ro}{G:Hp}{σ:St}{H:Hp}{i:Nat}(c:Conf K G0 H0 ρ G σ H):Conf K G0 H0 (ρ.set i .un) G (σ.set i none) H:=by
 have ne:∀(j:Nat) sl,sl≠Slot.un→(ρ.set i .un)[j]? = some sl→i≠j∧ρ[j]? = some sl:=fun j sl hs q=>by
  by_cases z:i=j
  · subst z
    rw[List.getElem?_set_self'] at q
    cases e:ρ[i]? with
    | none=>rw[e] at q;cases q
    | some s=>rw[e] at q;exact absurd (Option.some.inj q).symm hs
  · rw[List.getElem?_set_ne z] at q;exact⟨z,q⟩
 refine⟨c.grow,by rw[List.length_set,List.length_set];exact c.len,fun j d q=>?_,fun j es q=>?_,fun j k es fs a hn q1 q2 h1=>?_,fun j t ht q=>?_,fun j k t u a hn ht hu q1 q2 h1=>?_⟩
 · obtain⟨z,q⟩:=ne j (.dat d) (fun z=>nomatch z) q
   obtain⟨v,h1,h2⟩:=c.dat j d q
   exact⟨v,by rw[List.getElem?_set_ne z];exact h1,h2⟩
 · obtain⟨z,q⟩:=ne j (.own es) (fun z=>nomatch z) q
   obtain⟨a,xs,h1,r⟩:=c.own j es q
   exact⟨a,xs,by rw[List.getElem?_set_ne z];exact h1,r⟩
 · obtain⟨z1,q1⟩:=ne j (.own es) (fun z=>nomatch z) q1
   obtain⟨z2,q2⟩:=ne k (.own fs) (fun z=>nomatch z) q2
   rw[List.getElem?_set_ne z1] at h1
   rw[List.getElem?_set_ne z2]
   exact c.sep j k es fs a hn q1 q2 h1
 · obtain⟨z,q⟩:=Zn rfl ht q
   rw[List.getElem?_set_ne z]
   exact c.dic j t ht q
 · obtain⟨z1,q1⟩:=Zn rfl ht q1
   obtain⟨z2,q2⟩:=Zn rfl hu q2
   rw[List.getElem?_set_ne z1] at h1
   rw[List.getElem?_set_ne z2]
   exact c.sepd j k t u a hn ht hu q1 q2 h1
section
variable {X:Cx}{ρ ρ1 ρ2:Ro}{E:XW}{o:O}{y n:Str}{c:Value}{np hp pos:Pos}{b₀:Stmt}{suite body:List Stmt}{C:Addr}
theorem yF (hb:∀xe pn E,XFly (X.wishP xe pn) E→QSs (X.wishP xe pn) E ρ body (.ex C ρ1))(hx:PySem.W.exmOne X.K (.ref C) c=some true)(hm:NameIs X y c)(i:Nat)
 (hs:∀ea,QSs (X.mrk ea) noX (ρ1.set i (.dat (.exn C))) (b₀::suite) (.nx ρ2)) (hN:X.N.Nodup) (T:Top X:=by exact⟨rfl,rfl⟩) (hg:Gl X y:=by rfl) (hi:X.N[i]? = some n:=by rfl)
 (hk:X.env.scope.names.lookup n=some .local:=by rfl) (hd:(y==("__debug__" : Str))=false:=by decide) :
 QS X E ρ (.Try body [.ExceptHandler (some (.Name y np)) (some n) (b₀::suite) hp] [] [] pos) (.nx (ρ2.set i .un)) :=
 Y2 (Z1j (tb:=fun E=>tDS X.K E ρ (.ex C ρ1)) (ts:=tDS X.K noX (ρ1.set i (.dat (.exn C))) (.nx ρ2)) T (fun xe pn E xf=>(hb xe pn E xf).u) (fun ea=>(hs ea).u) hg hm hN hi hk hd) fun G0 H0 G D σ H c f =>
  ⟨G0,H0,G,c,fun G' σ' H' s' c'=>⟨hx,fun ea hea=>⟨G0,H0,upd G' ea (excO ea C),(c'.up (Grow.new c'.sub hea)).put (by unfold Is;exact⟨ea,rfl,upd_same⟩),fun G'' σ'' H'' s'' c'' =>
   f G'' _ H'' (s'.trans ((Same.new (Same.dead c'.sub hea)).trans s'')) c''.drop⟩⟩⟩
end
section
variable {X:Cx}{ρ:Ro}{a:Expr}{pos p p2:Pos}{C C2:Addr}{y:Str}{k:Bool}{n:String}
theorem jE (hm:X.mg "isinstance" = none)(hm2:X.mg y=some (.ref C2))(hv:bootBuiltins "isinstance" = some (.builtin "isinstance"))(ha:QE X ρ a (.dat (.exn C)))(ek:PySem.W.kitOne X.K (.ref C) (.ref C2)=some k)(xk:XKit X.K C)
 (hg:Gl X "isinstance" := by rfl) (hg2:Gl X y:=by rfl) (hd:(y==("__debug__" : Str))=false:=by decide)
 (hs1:starEach [a,.Name y p2] X.env=(false,eval a X.env)::starEach [.Name y p2] X.env:=by rfl) (hs2:starEach [.Name y p2] X.env=[(false,eval (.Name y p2) X.env)]:=by rfl) (hpl:(backTo pos (starEach [.Name y p2] X.env)).any (·.1)=false:=by rfl) :
 QE X ρ (.Call (.Name "isinstance" p) [a,.Name y p2] [] pos) (.dat (.bl k)):=Z37 (d:=.exn C) hm hm2 hv ha ek xk hg hg2 hd hs1 hs2 hpl
theorem jD (hm:X.mg "isinstance" = none)(hm2:X.mg y=none)(hv:bootBuiltins "isinstance" = some (.builtin "isinstance"))(hv2:bootBuiltins y=some (.type n))(ha:QE X ρ a (.dat (.exn C)))(ek:PySem.W.kitOne X.K (.ref C) (.type n)=some k)(xk:XKit X.K C)
 (hg:Gl X "isinstance" := by rfl) (hg2:Gl X y:=by rfl) (hn:y ≠ "__name__" := by decide) (hd:(y==("__debug__" : Str))=false:=by decide)
 (hs1:starEach [a,.Name y p2] X.env=(false,eval a X.env)::starEach [.Name y p2] X.env:=by rfl) (hs2:starEach [.Name y p2] X.env=[(false,eval (.Name y p2) X.env)]:=by rfl) (hpl:(backTo pos (starEach [.Name y p2] X.env)).any (·.1)=false:=by rfl) :
 QE X ρ (.Call (.Name "isinstance" p) [a,.Name y p2] [] pos) (.dat (.bl k)):=Jk (d:=.exn C) hm hm2 hv hv2 ha ek xk hg hg2 hn hd hs1 hs2 hpl
end
theorem zr {K:PySem.W.Frag}{C:Addr}{bm:List Value}{n:String}(y:PySem.W.excIn K C bm n=true):(PySem.W.clsIn K C).isSome=true:=by
 revert y
 unfold PySem.W.excIn PySem.W.clsIn
 cases K.lookup C with
 | none=>intro y;cases y
 | some o =>
  obtain⟨cl,dd,data,sl⟩:=o
  cases data with
  | cls cd=>intro _;rfl
  | _ =>
   intro y
   exfalso
   revert y
   split
   · rename_i z;cases z
   · intro y;cases y
def plD:D→Bool
 | .exn _=>false
 | .obj _ _ _=>false
 | .fn _ _=>false
 | _=>true
def isI:D→Bool
 | .int _=>true
 | .bl _=>true
 | _=>false
def isB:D→Bool
 | .bl _=>true
 | _=>false
def isW:D→Bool
 | .int _=>true
 | _=>false
section
variable {K:PySem.W.Frag}{d:D}
theorem yr (h:plD d=true):KitD K d:=by cases d <;> first | exact trivial | cases h
theorem jM (h:plD d=true):PySem.W.kitOne K (clsD d) (.type "int")=some (isI d):=by cases d <;> first | cases h;done | kernel_rfl
theorem j4 (h:plD d=true):PySem.W.kitOne K (clsD d) (.type "bool")=some (isB d):=by cases d <;> first | cases h;done | kernel_rfl
end
theorem Z1Q {l:List D}{i:Int}(h0:0≤i)(h1:i<l.length):atI l i=some (l.getD i.toNat .non):=by
 have hk:i.toNat<l.length:=by omega
 have e:l[i.toNat]? = some (l.getD i.toNat .non):=by
  rw[List.getElem?_eq_getElem hk];simp[List.getD,List.getElem?_eq_getElem hk]
 have:=atI_nat e
 rwa [Int.toNat_of_nonneg h0] at this
theorem YO {d:D}(h:isW d=true):∃i,d=.int i:=by cases d <;> first | exact⟨_,rfl⟩ | cases h
theorem Jd:bootBuiltins "ValueError" = some (.type "ValueError"):=by kernel_rfl
theorem zl {K:PySem.W.Frag}{G:Hp}{C:Addr}{ns:List Str}{ds:List D}{x:V}(h:Is K G (.obj C ns ds) x):∃a dx fs,x=.ref a∧G a=some (.ins C dx fs)∧fs.map (·.1)=ns∧IsL K G ds (fs.map (·.2)):=by unfold Is at h;exact h
theorem j9 {K:PySem.W.Frag}{G:Hp}{C dx a:Addr}{ns:List Str}{ds:List D}{fs:List (Str × V)}(h:G a=some (.ins C dx fs))(h1:fs.map (·.1)=ns)(h2:IsL K G ds (fs.map (·.2))):Is K G (.obj C ns ds) (.ref a):=by unfold Is;exact⟨a,dx,fs,rfl,h,h1,h2⟩
theorem JE {m:Str}:∀ {fs:List (Str × V)} {ns:List Str},fs.map (·.1)=ns→ns.contains m=false→fs.lookup m=none
 | [],_,_,_=>rfl
 | (k,v)::fs,ns,e,h=>by
     subst e
     rw[List.map_cons,List.contains_cons,Bool.or_eq_false_iff] at h
     unfold List.lookup
     rw[h.1]
     exact JE rfl h.2
theorem jJ {K:PySem.W.Frag}{G:Hp}{m:Str}{d:D}:∀ {j:Nat} {fs:List (Str × V)} {ns:List Str} {ds:List D},fs.map (·.1)=ns→IsL K G ds (fs.map (·.2))→ns[j]? = some m→(ns.take j).contains m=false→ds[j]? = some d→∃v,fs.lookup m=some v∧Is K G d v
 | j,[],ns,ds,e,i,h,_,_=>by subst e;simp at h
 | 0,(k,v)::fs,ns,ds,e,i,h,_,hd=>by
  subst e
  have:k=m:=by simpa using h
  subst this
  cases ds with
  | nil=>simp at hd
  | cons d' ds =>
   unfold IsL at i
   obtain⟨x,r,e2,i1,_⟩:=i
   rw[List.map_cons] at e2
   cases e2
   have:d'=d:=by simpa using hd
   subst this
   exact⟨v,by unfold List.lookup;rw[beq_self_eq_true],i1⟩
 | j+1,(k,v)::fs,ns,ds,e,i,h,hn,hd=>by
  subst e
  rw[List.map_cons,List.take_succ_cons,List.contains_cons,Bool.or_eq_false_iff] at hn
  cases ds with
  | nil=>simp at hd
  | cons d' ds =>
   unfold IsL at i
   obtain⟨x,r,e2,i1,i2⟩:=i
   rw[List.map_cons] at e2
   cases e2
   obtain⟨u,hu,iu⟩:=jJ (j:=j) (fs:=fs) rfl i2 (by simpa using h) hn.2 (by simpa using hd)
   exact⟨u,by unfold List.lookup;rw[hn.1];exact hu,iu⟩
section
variable {X:Cx}{ρ:Ro}{r:R}{e o:Expr}{es:List Expr}{ds:List D}{pos p apos:Pos}{x m:Str}{C:Addr}{ns:List Str}{fds:List D}{k:Nat}{ps:List Str}{pre:List D→R→Prop}
theorem Jl {f:Str}{d:D}(j:Nat)(ho:QE X ρ o (.dat (.obj C ns fds)))(cl:Cls X.K C)(na:NoAttr X.K C f)(h1:ns[j]? = some f)(h2:(ns.take j).contains f=false)(h3:fds[j]? = some d)
 (hb:attributeBase o f X.env (eval o X.env)=eval o X.env:=by rfl):QE X ρ (.Attribute o f pos) (.dat d) :=
 Zf (pe_fld ho.u hb) fun G0 H0 G σ H Q c q=>⟨G0,H0,G,c,fun v G1 H1 g1 i1=>by
  obtain⟨a,dx,fs,rfl,k1,k2,k3⟩:=zl i1
  obtain⟨u,hu,iu⟩:=jJ k2 k3 h1 h2 h3
  exact⟨a,C,dx,fs,u,rfl,g1.sub _ _ k1,cl,na,hu,q u G1 H1 g1 iu⟩⟩
end
structure MDef (K:PySem.W.Frag)(C:Addr)(m qual:Str)(st:Stmt):Prop where
 ex:∃f fd,Fun K m qual st f fd∧Meth K C m f
structure MCallee (P:Program)(w:World)(K:PySem.W.Frag)(mg:Str→Option Value)(base:Heap)(CX:CXT)(k:Nat)(C:Addr)(m:Str)(ps:List Str)(sp:Sp):Prop where
 ex:∃f fd,FnOk P w K mg base CX k f fd ps sp∧Meth K C m f∧Binds K fd ps []
abbrev Mt (P:Program)(w:World)(K:PySem.W.Frag)(mg:Str→Option Value)(base:Heap)(k:Nat)(C:Addr)(m:Str)(ps:List Str)(pre:List D→R→Prop):Prop:=MCallee P w K mg base CX0 k C m ps (dsp K pre)
theorem yq {P:Program}{w:World}{K:PySem.W.Frag}{mg:Str→Option Value}{base:Heap}{C:Addr}{m qual:Str}{st:Stmt}{N ps:List Str}{k:Nat}{pre:List D→R→Prop}(d:MDef K C m qual st)(S:FnScope N ps (defScope st))
 (hb:∀(kV doc pm:Value) (an:Option Addr) (cdv ct:Value) (us:List Value),us.length=ps.length→bindArgs (PySem.W.fnOf m qual (defArgs st) (defBody st) (defScope st) .none kV doc pm an cdv ct) ⟨us,[]⟩=pure (ps.zip us))
 (len:∀ds r,pre ds r→ds.length=ps.length)
 (hbody:∀(X:Cx) (f:Addr) (cdv:Value) (A:Around) (outer:List Env) (s:Shared) (H:Hp) (E:XK),X=(cxOf CX0 P w K mg base N qual (defScope st) f cdv A outer s H E).nox→Room k X.A→∀ds r,pre ds r→QK X noX (start0 N ds) [defBody st] (.rt r)) :
 Mt P w K mg base (k+1) C m ps pre:=by
 obtain⟨f,fd,F,M⟩:=d.ex
 refine⟨f,fd,F.ok S (fun vs H Q E h=>?_) (fun cdv A outer s H vs Q E hr h=>?_),M,F.binds hb⟩
 · obtain⟨ds,G,r,hp,_,i,_⟩:=h
   rw[i.len];exact len ds r hp
 · obtain⟨ds,G,r,hp,sg,i,q⟩:=h
   refine⟨_,(QK.s (hbody _ f cdv A outer s H E rfl hr ds r hp)).u,?_⟩
   exact⟨G,H,G,ZE i sg,fun v G' H' _ g o=>q v G' H' g o⟩
section
variable {X:Cx}{ρ:Ro}{r:R}{e o:Expr}{es:List Expr}{ds:List D}{pos p apos:Pos}{x m:Str}{C:Addr}{ns:List Str}{fds:List D}{k:Nat}{ps:List Str}{pre:List D→R→Prop}{pl:Sem Bool}
theorem YY (c:Mt X.prog X.w X.K X.mg X.base k C m ps pre)(cl:Cls X.K C)(hr:Room k X.A)(ho:QE X ρ o (.dat (.obj C ns fds)))(hp:pre [.obj C ns fds] r)(hn:ns.contains m=false:=by rfl)
 (ht:eval (.Call (.Attribute o m apos) [] [] pos) X.env=(do
  let ov ←eval o X.env
  standAt apos.atName
  let (f,first) ←holding [ov] (getMethod ov m pl)
  callWith pos f first (backTo pos (starEach [] X.env)) (backToKw pos (keywordEach [] X.env))):=by rfl):QE X ρ (.Call (.Attribute o m apos) [] [] pos) r:=by
 obtain⟨f,fd,F,M,B⟩:=c.ex
 exact Zf (pe_meth0 ho.u cl M F hr B .nil pass0 ht) fun G0 H0 G σ H Q c q=>⟨G0,H0,G,c,fun v G1 H1 g1 i1=>by
  obtain⟨a,dx,fs,rfl,k1,k2,k3⟩:=zl i1
  exact⟨a,dx,fs,rfl,g1.sub _ _ k1,JE k2 hn,⟨_,G1,r,hp,g1.sub,.one i1,fun v G2 H2 g2 o2=>q v G2 H2 (g1.trans g2) (o2.old g1.same)⟩⟩⟩
theorem Yv (c:Mt X.prog X.w X.K X.mg X.base k C m ps pre)(cl:Cls X.K C)(hr:Room k X.A)(ho:QE X ρ o (.dat (.obj C ns fds)))(ha:QA X ρ (e::es) ds)(hp:pre (.obj C ns fds::ds) r)(hn:ns.contains m=false:=by rfl)
 (hst:starEach (e::es) X.env=(false,eval e X.env)::starEach es X.env:=by rfl) (hpl:(backTo pos (starEach es X.env)).any (·.1)=false:=by rfl)
 (ht:eval (.Call (.Attribute o m apos) (e::es) [] pos) X.env=(do
  let ov ←eval o X.env
  standAt apos.atName
  let (f,first) ←holding [ov] (getMethod ov m pl)
  callWith pos f first (backTo pos (starEach (e::es) X.env)) (backToKw pos (keywordEach [] X.env))):=by rfl):QE X ρ (.Call (.Attribute o m apos) (e::es) [] pos) r:=by
 obtain⟨f,fd,F,M,B⟩:=c.ex
 exact Zf (pe_meth ho.u cl M F hr B .nil pass0 ha.u hst hpl ht) fun G0 H0 G σ H Q c q=>⟨G0,H0,G,c,fun v G1 H1 g1 i1=>by
  obtain⟨a,dx,fs,rfl,k1,k2,k3⟩:=zl i1
  refine⟨a,dx,fs,rfl,g1.sub _ _ k1,JE k2 hn,G0,H0,G1,c.up g1,fun vs G2 H2 g2 i2=>?_⟩
  show dsp X.K pre (.ref a::(vs++[])) H2 Q E0
  rw[List.append_nil]
  exact⟨_,G2,r,hp,g2.sub,.cons (Zb (g2.gg g1.sub) i1) i2,fun v G3 H3 g3 o3=>q v G3 H3 ((g1.trans g2).trans g3) (o3.old (g1.same.trans g2.same))⟩⟩
end
theorem Z2q {K:PySem.W.Frag}{da db:D}(h1:isSeq da=true)(h2:isSeq db=true)(hd:dep da≤30)(hd2:dep db≤30):OpD K (rEqD K false) da db (.dat (.bl (eqD da db))):=Z3g h1 h2 hd (Nat.lt_of_le_of_lt hd2 (by decide))
theorem zD {K:PySem.W.Frag}{da db:D}(h1:isSeq da=true)(h2:isSeq db=true)(hd:dep da≤30)(hd2:dep db≤30):OpD K (rEqD K true) da db (.dat (.bl (!eqD da db))):=Z3d h1 h2 hd (Nat.lt_of_le_of_lt hd2 (by decide))
section
variable {X:Cx}
theorem zw {x y:Str}(h:x.length=0):x++y=y:=by
 obtain⟨x⟩:=x
 obtain⟨y⟩:=y
 have:x = #[]:=Array.eq_empty_of_size_eq_zero h
 subst this
 show (⟨#[]++y⟩:Str)=⟨y⟩
 rw[Array.empty_append]
theorem zx {x y:Str}(h:y.length=0):x++y=x:=by
 obtain⟨x⟩:=x
 obtain⟨y⟩:=y
 have:y = #[]:=Array.eq_empty_of_size_eq_zero h
 subst this
 show (⟨x ++ #[]⟩:Str)=⟨x⟩
 rw[Array.append_empty]
theorem ZG (x y:Str):(x++y).length=x.length+y.length:=Array.size_append
end
section
variable {X:Cx}{ρ:Ro}{r:R}{e a b:Expr}{es:List Expr}{pos p p2:Pos}
def rPow:R2:=fun x y H Q=>∃i j:Int,x=.int i∧y=.int j∧(j≥0∧¬(j==0)=true∧¬(i==0 || i==1)=true∧¬(i == -1)=true∧¬Builtin.Int.intTooBig (((Builtin.Int.intBits i:Nat):Int)*j)=true)∧Q (.int (i ^ j.toNat)) H
theorem op_pow : OpR X (binaryOp .Pow) rPow := by
 intro pins s σ H x y v u Q I rx ry h
 obtain ⟨i, j, rfl, rfl, ⟨h0, h1, h2, h3, h4⟩, q⟩ := h
 obtain ⟨t, rfl⟩ := rx
 obtain ⟨t', rfl⟩ := ry
 exact PySem.AutoIntOps.pow_4 h0 h1 h2 h3 h4 ⟨.int _, H, I.tok _, ⟨_, rfl⟩, q⟩
theorem Z0s {i j:Int}(ha:QE X ρ a (.dat (.int i)))(hb:QE X ρ b (.dat (.int j)))(h0:j≥0:=by decide)(h1:¬(j==0)=true:=by decide)(h2:¬(i==0 || i==1)=true:=by decide)(h3:¬(i == -1)=true:=by decide)
 (h4:¬Builtin.Int.intTooBig (((Builtin.Int.intBits i:Nat):Int)*j)=true:=by decide +kernel):QE X ρ (.BinOp a .Pow b pos) (.dat (.int (i ^ j.toNat))) :=
 Z6 (da:=.int i) (db:=.int j) op_pow (fun G H v w Q s i1 i2 q=>⟨i,j,Z8 i1,Z8 i2,⟨h0,h1,h2,h3,h4⟩,q _ G H (Grow.refl s) Zl⟩) ha hb
theorem Z06:CallR X (.builtin "isinstance") (fun xs H Q=>∃(v:V) (d tp:Addr) (cs:List Addr) (k:Bool),xs=[v,.ref tp]∧H tp=some (.tup (cs.map V.ref))∧Is X.K H (.exn d) v∧XKit X.K d∧PySem.W.kitAny X.K (.ref d) (cs.map Value.ref)=some k∧Q (.bl k) H):=by
 intro pins s σ H xs us Q I rr h
 obtain⟨v,d,tp,cs,k,rfl,ht,i,kd,e,q⟩:=h
 obtain⟨u,w,rfl,rx,rc⟩:=vals2 rr
 cases (show w=Value.ref tp from rc)
 obtain⟨its,rv,pt,hz0⟩:=I.tuple (SqT.of ht)
 clear hz0
 have ei:its=cs.map Value.ref:=by
  clear pt e ht
  induction cs generalizing its with
  | nil=>cases rv;rfl
  | cons c cs ih =>
   cases rv with
   | cons r1 r2=>rw[List.map_cons,←ih _ r2];cases (show _=Value.ref c from r1);rfl
 subst ei
 unfold Is at i
 obtain⟨ad,rfl,h1⟩:=i
 cases (show u=Value.ref ad from rx)
 have pa:AtX ad d s.heap:=(I.hok ad _ h1).1
 obtain⟨⟨cls,dd,data,sl⟩,q1,q2,n,q3⟩:=pt
 simp only at q2 q3
 subst q2 q3
 exact PySem.W.kia_tup (j6 kd) I.kIn pa q1 e (fun z=>nomatch z) fun tk=>⟨.bl k,H,I.tok tk,rfl,q⟩
structure QG (X:Cx)(es:List Expr)(cs:List Addr):Prop where
 u:PA X es (fun _ H Q=>Q (cs.map V.ref) H)
theorem Z0q:QG X [] []:=⟨fun p pins s σ H Q I q=>pa_nil p pins s σ H Q I q⟩
theorem Zs {y:Str}{C:Addr}{cs:List Addr}(hm:X.mg y=some (.ref C))(h:QG X es cs)(hg:Gl X y:=by rfl)(hd:(y==("__debug__" : Str))=false:=by decide)(hs:starEach (.Name y p::es) X.env=(false,eval (.Name y p) X.env)::starEach es X.env:=by rfl):QG X (.Name y p::es) (C::cs) :=
 ⟨fun p pins s σ H Q I q=>pa_cons (pe_glob (v:=.ref C) hg hm rfl hd) h.u hs p pins s σ H Q I q⟩
theorem zV {C:Addr}{cs:List Addr}{k:Bool}{kk}(hm:X.mg "isinstance" = none)(hv:bootBuiltins "isinstance" = some (.builtin "isinstance"))(ha:QE X ρ a (.dat (.exn C)))(hg:QG X es cs)(ek:PySem.W.kitAny X.K (.ref C) (cs.map Value.ref)=some k)(xk:XKit X.K C)(hl:cs.length≤sizeLine:=by exact Nat.le_of_ble_eq_true rfl)
 (hgi:Gl X "isinstance" := by rfl) (hs1:starEach [a,.Tuple es kk p2] X.env=(false,eval a X.env)::starEach [.Tuple es kk p2] X.env:=by rfl) (hs2:starEach [.Tuple es kk p2] X.env=[(false,eval (.Tuple es kk p2) X.env)]:=by rfl) (hpl:(backTo pos (starEach [.Tuple es kk p2] X.env)).any (·.1)=false:=by rfl) :
 QE X ρ (.Call (.Name "isinstance" p) [a,.Tuple es kk p2] [] pos) (.dat (.bl k)) :=
 Zf (pe_callB Z06 hgi hm hv (pa_cons ha.u (pa_cons (pe_tup hg.u) pa_nil hs2) hs1) (by decide) (by decide) hs1 hpl) fun G0 H0 G σ H Q c q =>
  ⟨G0,H0,G,c,fun v G' H' g i=>⟨by rw[List.length_map];exact hl,fun tp htp=>⟨v,C,tp,cs,k,rfl,upd_same,Zb (g.sub.trans (Same.new htp)) i,xk,ek,q _ G' _ (g.trans (Grow.newOwn g.sub htp)) ZF⟩⟩⟩
structure QF (X:Cx)(ρ:Ro)(es:List Expr)(z:Str):Prop where
 u:∀(out:Str) (pins:List (Addr × Obj)) (s:Shared) (σ:St) (H:Hp) (Q:VK),Inv X pins σ H s→out.length+z.length≤sizeLine→tDT X.K ρ true σ H (fun _ H'=>Q (.str (out++z)) H')→wpAny (model X.prog X.w) X.A (joinParts out (evalEach es X.env)) (EP X pins σ Q) X.xe s
theorem zN (x y z:Str):(x++y)++z=x++(y++z):=by
 obtain⟨x⟩:=x;obtain⟨y⟩:=y;obtain⟨z⟩:=z
 show (⟨(x++y)++z⟩:Str)=⟨x++(y++z)⟩
 rw[Array.append_assoc]
theorem Z35:QF X ρ [] Str.empty:=⟨fun out pins s σ H Q I hz ⟨G0,H0,G,c,q⟩=>by
 have e:out++Str.empty=out:=zx rfl
 rw[e] at q
 exact joinParts_nil ⟨.str out,H,I.tok _,⟨_,rfl⟩,q G H (Grow.refl c.sub)⟩ (by have:Str.empty.length=0:=rfl;omega)⟩
theorem yH {x z:Str}{j:Nat}(h:QF X ρ es z)(he:evalEach (.Constant (.str x) j p::es) X.env=eval (.Constant (.str x) j p) X.env::evalEach es X.env:=by rfl):QF X ρ (.Constant (.str x) j p::es) (x++z):=⟨fun out pins s σ H Q I hz ⟨G0,H0,G,c,q⟩=>by
 rw[ZG] at hz
 rw[he]
 refine joinParts_cons (Calls.Constant_str ⟨by rw[ZG];omega,h.u _ pins _ σ H Q (I.tok _) (by rw[ZG];omega) ⟨G0,H0,G,c,fun G' H' g=>?_⟩⟩)
 rw[zN];exact q G' H' g⟩
theorem Z0r {i:Int}{z:Str}(ha:QE X ρ a (.dat (.int i)))(h:QF X ρ es z)(hd:i.natAbs.log2<1920:=by decide +kernel)(he:evalEach (.FormattedValue a (-1) none p::es) X.env=eval (.FormattedValue a (-1) none p) X.env::evalEach es X.env:=by rfl) :
 QF X ρ (.FormattedValue a (-1) none p::es) (Str.ofString (toString i)++z):=⟨fun out pins s σ H Q I hz ⟨G0,H0,G,c,q⟩=>by
 rw[ZG] at hz
 rw[he]
 refine joinParts_cons (FormattedValue_plain (thn (ha.u pins s σ H _ I ⟨G0,H0,G,c,fun v G1 H1 g1 i1=>(⟨Z8 i1,G1,g1⟩:v=V.int i∧∃G1,Grow G H G1 H1)⟩) fun u s1 ⟨v,H1,I1,r1,e1,G1,g1⟩=>?_))
 subst e1
 obtain⟨t,rfl⟩:=r1
 refine formatField_int_small hd ⟨by rw[ZG];omega,h.u _ pins _ σ H1 Q (I1.tok _) (by rw[ZG];omega) ⟨G0,H0,G1,c.up g1,fun G' H' g=>?_⟩⟩
 rw[zN];exact q G' H' (g1.trans g)⟩
theorem Z2i {v1 v2:Expr}{z:Str}(h:QF X ρ (v1::v2::es) z)(hz:z.length≤sizeLine)(he:evalEach (v1::v2::es) X.env=eval v1 X.env::eval v2 X.env::evalEach es X.env:=by rfl):QE X ρ (.JoinedStr (v1::v2::es) pos) (.dat (.str z)) :=
 ⟨fun pins s σ H Q I ⟨G0,H0,G,c,q⟩=>by
  refine JoinedStr_many ?_
  rw[←he]
  refine h.u Str.empty pins s σ H Q I (by have:Str.empty.length=0:=rfl;omega) ⟨G0,H0,G,c,fun G' H' g=>?_⟩
  rw[zw rfl]
  exact q _ G' H' g Z0g⟩
end
def Snap (K:PySem.W.Frag)(ρ:Ro)(σ:St)(H:Hp):Prop:=Conf K H H ρ H σ H
def AlS (K:PySem.W.Frag)(H:Hp):Slot→Option V→Prop
 | .un,_=>True
 | .dat d,o=>∃v,o=some v∧Is K H d v
 | .own _,_=>False
 | .dk _,_=>False
 | .dt _,_=>False
def Al (K:PySem.W.Frag)(H:Hp):Ro→St→Prop
 | [],[]=>True
 | s::ρ,v::σ=>AlS K H s v∧Al K H ρ σ
 | _,_=>False
theorem Al.get {K:PySem.W.Frag}{H:Hp}:∀ {ρ:Ro} {σ:St} {i:Nat} {s:Slot},Al K H ρ σ→ρ[i]? = some s→∃o,σ[i]? = some o∧AlS K H s o
 | [],[],i,s,_,e=>by simp at e
 | a::ρ,v::σ,0,s,h,e=>by
  have:a=s:=by simpa using e
  subst this
  exact⟨v,by simp,h.1⟩
 | a::ρ,v::σ,i+1,s,h,e=>by
  obtain⟨o,e1,e2⟩:=Al.get h.2 (show ρ[i]? = some s by simpa using e)
  exact⟨o,by simpa using e1,e2⟩
theorem Al.len {K:PySem.W.Frag}{H:Hp}:∀ {ρ:Ro} {σ:St},Al K H ρ σ→σ.length=ρ.length
 | [],[],_=>rfl
 | _::_,_::_,h=>by rw[List.length_cons,List.length_cons,Al.len h.2]
theorem Al.snap {K:PySem.W.Frag}{H:Hp}{ρ:Ro}{σ:St}(h:Al K H ρ σ):Snap K ρ σ H where
 grow:=Grow.refl (Same.refl H)
 len:=h.len
 dat:=fun i d e=>by
  obtain⟨o,e1,v,e2,iv⟩:=h.get e
  exact⟨v,by rw[e1,e2],iv⟩
 own:=fun i ds e=>by obtain⟨o,e1,z⟩:=h.get e;exact z.elim
 sep:=fun i j ds es a _ e _ _=>by obtain⟨o,e1,z⟩:=h.get e;exact z.elim
 dic:=fun i t ht e=>by
  obtain⟨o,e1,z⟩:=h.get e
  cases t <;> first | exact z.elim | cases ht
 sepd:=fun i j t u a _ ht _ e _ _=>by
  obtain⟨o,e1,z⟩:=h.get e
  cases t <;> first | exact z.elim | cases ht
structure RK (X:Cx)(P:St→Hp→Prop)(ks:List (List Stmt))(D:Ends):Prop where
 u:∀σ H,P σ H→tK X ks D σ H
def Res (K:PySem.W.Frag)(H H':Hp):R→V→Prop
 | .dat d,v=>Is K H' d v
 | .own ds,v=>∃a xs,v=.ref a∧H a=none∧H' a=some (.lst xs)∧IsL K H' ds xs
 | .od t,v=>∃a o,v=.ref a∧t.isD=true∧H a=none∧H' a=some o∧DicO K H' t o
theorem YJ {K:PySem.W.Frag}{H H' G':Hp}{r:R}{v:V}(g:Grow H H G' H')(o:Got K G' H H' r v):Same H H'∧Res K H H' r v:=by
 refine⟨g.same,?_⟩
 cases r with
 | dat d=>exact Zb g.sub o
 | own ds =>
  obtain⟨a,xs,e,h1,h2,h3,h4⟩:=o
  exact⟨a,xs,e,h2,h3,Zk g.sub h4⟩
 | od t =>
  obtain⟨a,o',e,h0,h1,h2,h3,h4⟩:=o
  exact⟨a,o',e,h0,h2,h3,h4.keep g.sub.keeps⟩
section
variable {X:Cx}{P P':St→Hp→Prop}{ρ:Ro}{r:R}{e:Expr}{bl:List Stmt}{ks:List (List Stmt)}{D:Ends}{pos:Pos}{x:Str}
theorem yC (h:RK X P' ks D)(w:∀σ H,P σ H→P' σ H):RK X P ks D:=⟨fun σ H p=>h.u σ H (w σ H p)⟩
theorem ZU (h:∀σ H,P σ H→D.nx σ H):RK X P [] D:=⟨h⟩
theorem Zx (h:RK X P ks D):RK X P ([]::ks) D:=⟨fun σ H p pins s I=>pss_nil pins s σ H _ I (h.u σ H p)⟩
theorem Z0m (i:Nat){p:Pos}(ρ:Ro)(h:QE X ρ e r)(hP:∀σ H,P σ H→Al X.K H ρ σ)(step:∀σ H v H',P σ H→Same H H'→Res X.K H H' r v→P' (σ.set i (some v)) H')(h2:RK X P' (bl::ks) D)
 (hN:X.N.Nodup) (hi:X.N[i]? = some x:=by rfl) (hx:Loc X.env.scope x:=by first | exact Or.inl rfl | exact Or.inr rfl) (hs:swapsWith e (some (.Name x p)) pos.line X.env=pure false:=by rfl)
 (hf:X.fn x=true∨X.env.scope.names.lookup x=some .local:=by first | exact .inl rfl | exact .inr rfl | assumption):RK X P ((.Assign [.Name x p] e pos::bl)::ks) D :=
 ⟨fun σ H hp pins s I=>pss_cons (ps_set hN hi hx h.u hs hf) Z9 pins s σ H _ I ⟨H,H,H,(hP σ H hp).snap,fun v G' H' g o=>h2.u _ _ (step σ H v H' hp (YJ g o).1 (YJ g o).2)⟩⟩
theorem Z1H {c:Expr}{t u:List Stmt}{bv:Bool}(ρ:Ro)(hc:QT X ρ c bv)(hP:∀σ H,P σ H→Al X.K H ρ σ)(mono:∀σ H H',P σ H→Same H H'→P σ H')(h1:bv=true→RK X P (t::bl::ks) D)(h2:bv=false→RK X P (u::bl::ks) D):RK X P ((.If c t u pos::bl)::ks) D :=
 ⟨fun σ H hp pins s I=>by
  refine pss_cons (ps_if hc.u Z9 Z9) Z9 pins s σ H _ I ?_
  refine⟨H,H,H,(hP σ H hp).snap,fun G' H' g=>?_⟩
  have hp':=mono σ H H' hp g.same
  cases bv with
  | true=>exact iteT ((h1 rfl).u σ H' hp')
  | false=>exact iteF ((h2 rfl).u σ H' hp')⟩
theorem Z2Y (ρ:Ro)(h:QE X ρ e r)(hP:∀σ H,P σ H→Al X.K H ρ σ)(fin:∀σ H v H',P σ H→Same H H'→Res X.K H H' r v→D.rt v H'):RK X P ((.Return (some e) pos::bl)::ks) D :=
 ⟨fun σ H hp pins s I=>pss_cons (ps_ret h.u) Z9 pins s σ H _ I ⟨H,H,H,(hP σ H hp).snap,fun v G' H' g o=>fin σ H v H' hp (YJ g o).1 (YJ g o).2⟩⟩
end
theorem RK.ws {X:Cx}{P:St→Hp→Prop}{b:List Stmt}{D:Ends}(h:RK X P [b] D){σ:St}{H:Hp}(p:P σ H):tWS X b D σ H:=h.u σ H p
theorem Z32 {X:Cx}{E:XW}{ρ:Ro}{ks:List (List Stmt)}{o:O}(h:∀(G0 H0 G:Hp) (D:Ends),Fin X.K E G0 H0 G D o→RK X (fun σ H=>Conf X.K G0 H0 ρ G σ H) ks D):QK X E ρ ks o :=
 ⟨fun D σ H ⟨G0,H0,G,c,f⟩=>(h G0 H0 G D f).u σ H c⟩
theorem yJ {X:Cx}{ρ:Ro}{i j:Int}{k1 k2:Nat}{p1 p2 pos:Pos}:QE X ρ (.Dict [some (.Constant (.int i) k1 p1)] [.Constant (.int j) k2 p2] pos) (.dat (.dct [.inl i] [.int j])) :=
 ⟨fun pins s σ H Q I ⟨G0,H0,G,c,q⟩=>by
  have big:sysModules<s.heap.objs.size:=Nat.lt_trans (by decide) (I.mod.glob.keeps I.bk).lt
  have fr:H s.heap.objs.size=none:=I.hok.fresh (Nat.le_refl _)
  refine wpAny_Dict_walk (knd:=mixKind X.prog X.w) rfl rfl (by simp) (Nat.le_of_ble_eq_true rfl) (pairTrees_cons_walk (wpAny_Constant_int (wpAny_Constant_int (pairTrees_nil_walk ?_))))
  refine⟨[(.inl i,.int j _)],⟨by simp[mixKind,keyIs,Value.isInt],rfl,trivial⟩,Heap.DictOf.new _,fun h' hd sb=>?_⟩
  refine⟨.ref s.heap.objs.size,upd H s.heap.objs.size (.dK [(.inl i,.int j)]),I.laid (a:=s.heap.objs.size) (o:=.dK [(.inl i,.int j)]) (fun b o e=>?_) (Nat.le_refl _) ⟨by show 1≤sizeLine;decide,beq_eq_false_iff_ne.mpr (Ne.symm (Nat.ne_of_lt big)),_,?_,hd⟩,rfl,?_⟩
  · exact(sb.2 b (Nat.ne_of_lt (Heap.lt_size e))).trans (Heap.get?_push_of_some _ e)
  · exact .cons ⟨rfl,⟨_,rfl⟩⟩ .nil
  · exact q _ (upd G s.heap.objs.size (.dK [(.inl i,.int j)])) _ (Grow.new c.sub fr) (show Is X.K _ (.dct [.inl i] [.int j]) _ by unfold Is;exact⟨s.heap.objs.size,[(.inl i,.int j)],rfl,upd_same,rfl,.one Zl⟩)⟩
structure Bs (G0 H0 G H:Hp):Prop where
 s0:Same H0 H
 sg:Same G H
 old:∀b,H0 b≠none→G b=G0 b
section
variable {G0 H0 G H H':Hp}{K:PySem.W.Frag}{D:Ends}{E:XW}
theorem Bs.mono (b:Bs G0 H0 G H)(s:Same H H'):Bs G0 H0 G H':=⟨b.s0.trans s,b.sg.trans s,b.old⟩
theorem Bs.of {ρ:Ro}{σ:St}(c:Conf K G0 H0 ρ G σ H):Bs G0 H0 G H:=⟨c.grow.same,c.sub,c.grow.old⟩
theorem Bs.tells {b:Bool}(f:Fin K E G0 H0 G D (.rt (.dat (.bl b))))(h:Bs G0 H0 G H):D.rt (.bl b) H:=f (.bl b) G H (Same.refl G) ⟨h.s0,h.old,h.sg⟩ ZF
end
end L2.L3
namespace L2
open PySem PySem.Spec PyProof.Rows
section
variable {κ : Type} [DecidableEq κ]
def valV (kvs : List (κ × V)) (k : κ) : Option V := (kvs.find? fun kv => decide (kv.1 = k)).map (·.2)
def putK (kvs : List (κ × V)) (k : κ) (v : V) : List (κ × V) :=
 if (kvs.any fun kv => decide (kv.1 = k)) = true then kvs.map (fun kv => if kv.1 = k then (kv.1, v) else kv) else kvs ++ [(k, v)]
theorem valV_pos {p : κ × V} {r : List (κ × V)} {k : κ} (e : p.1 = k) : valV (p :: r) k = some p.2 := by simp [valV, List.find?_cons, e]
theorem valV_neg {p : κ × V} {r : List (κ × V)} {k : κ} (e : ¬ p.1 = k) : valV (p :: r) k = valV r k := by simp [valV, List.find?_cons, e]
theorem valV_any (k : κ) : ∀ kvs : List (κ × V), (kvs.any fun kv => decide (kv.1 = k)) = (valV kvs k).isSome
 | [] => rfl
 | p :: r => by
  rw [List.any_cons]
  by_cases e : p.1 = k
  · simp only [valV_pos e, decide_eq_true e, Bool.true_or, Option.isSome_some]
  · rw [valV_neg e, decide_eq_false e, Bool.false_or]; exact valV_any k r
theorem length_putK (kvs : List (κ × V)) (k : κ) (v : V) : (putK kvs k v).length ≤ kvs.length + 1 := by
 unfold putK
 split
 · rw [List.length_map]; omega
 · rw [List.length_append, List.length_cons, List.length_nil]; omega
theorem RelO.isSome_eq {o : Option V} {u : Option Value} (r : RelO o u) : o.isSome = u.isSome := by
 cases o with
 | none => cases u with
  | none => rfl
  | some _ => exact (show False from r).elim
 | some _ => cases u with
  | none => exact (show False from r).elim
  | some _ => rfl
theorem RelO.getD {o : Option V} {u : Option Value} {d : V} {d' : Value} (r : RelO o u) (rd : RelV d d') : RelV (o.getD d) (u.getD d') := by
 cases o with
 | none => cases u with
  | none => exact rd
  | some _ => exact (show False from r).elim
 | some _ => cases u with
  | none => exact (show False from r).elim
  | some _ => exact r
theorem KV.val {kvs : List (κ × V)} {vs : List (κ × Value)} (r : KV kvs vs) (k : κ) : RelO (valV kvs k) (valueAt vs k) := by
 unfold KV at r
 induction r with
 | nil => exact True.intro
 | @cons p q ps qs h t ih =>
  obtain ⟨h1, h2⟩ := h
  by_cases e : p.1 = k
  · have e' : q.1 = k := h1.symm.trans e
    have b : valueAt (q :: qs) k = some q.2 := by simp [valueAt, List.find?_cons, e']
    rw [valV_pos e, b]; exact h2
  · have e' : ¬ q.1 = k := fun z => e (h1.trans z)
    have b : valueAt (q :: qs) k = valueAt qs k := by simp [valueAt, List.find?_cons, e']
    rw [valV_neg e, b]; exact ih
theorem KV.any {kvs : List (κ × V)} {vs : List (κ × Value)} (r : KV kvs vs) (k : κ) : (kvs.any fun kv => decide (kv.1 = k)) = vs.any fun kv => decide (kv.1 = k) := by
 unfold KV at r
 induction r with
 | nil => rfl
 | cons h t ih => rw [List.any_cons, List.any_cons, ih, h.1]
theorem KV.repl {kvs : List (κ × V)} {vs : List (κ × Value)} (r : KV kvs vs) (k : κ) {y : V} {u : Value} (ry : RelV y u) :
 KV (kvs.map fun kv => if kv.1 = k then (kv.1, y) else kv) (vs.map fun kv => if kv.1 = k then (kv.1, u) else kv) := by
 unfold KV at r ⊢
 induction r with
 | nil => exact .nil
 | @cons p q ps qs h t ih =>
  rw [List.map_cons, List.map_cons]
  refine .cons ?_ ih
  obtain ⟨h1, h2⟩ := h
  by_cases e : p.1 = k
  · rw [if_pos e, if_pos (h1.symm.trans e)]; exact ⟨h1, ry⟩
  · rw [if_neg e, if_neg (fun z => e (h1.trans z))]; exact ⟨h1, h2⟩
theorem KV.put {kvs : List (κ × V)} {vs : List (κ × Value)} (r : KV kvs vs) (k : κ) {y : V} {u : Value} (ry : RelV y u) : KV (putK kvs k y) (stored vs k u) := by
 unfold putK stored
 rw [r.any k]
 by_cases e : (vs.any fun kv => decide (kv.1 = k)) = true
 · rw [if_pos e, if_pos e]; exact r.repl k ry
 · rw [if_neg e, if_neg e]; exact Paired.snoc r ⟨rfl, ry⟩
theorem KV.length {kvs : List (κ × V)} {vs : List (κ × Value)} (r : KV kvs vs) : kvs.length = vs.length := Paired.length r
end
theorem kV_is {P : Program} {w : World} {k : Key} {u : Value} (r : RelV (kV k) u) : (mixKind P w).is k u = true := by
 cases k with
 | inl i => obtain ⟨t, e⟩ := (show ∃ t, u = Value.int i t from r); subst e; exact mixKind_int P w i t
 | inr x => obtain ⟨t, e⟩ := (show ∃ t, u = Value.str x t from r); subst e; exact mixKind_str P w x t
theorem items_are {P : Program} {w : World} : ∀ {ks : List Key} {us : List Value}, Vals (ks.map kV) us → ItemsAre (mixKind P w) ks us
 | [], _, r => by rw [List.map_nil] at r; cases r; exact .nil
 | k :: ks, _, r => by
  rw [List.map_cons] at r
  cases r with
  | cons h t => exact .cons (kV_is h) (items_are t)
abbrev KT (H : Hp) : List (List Key × V) → List (List Key × Addr × Value) → Prop := Paired fun p q => p.1 = q.1 ∧ H q.2.1 = some (.tup (p.1.map kV)) ∧ RelV p.2 q.2.2
theorem KT.val {H : Hp} {kvs : List (List Key × V)} {xs : List (List Key × Addr × Value)} (r : KT H kvs xs) (k : List Key) : RelO (valV kvs k) ((atKey xs k).map (·.2)) := by
 induction r with
 | nil => exact True.intro
 | @cons p q ps qs h t ih =>
  obtain ⟨h1, _, h2⟩ := h
  by_cases e : p.1 = k
  · have e' : q.1 = k := h1.symm.trans e
    have b : atKey (q :: qs) k = some q.2 := by simp [atKey, List.find?_cons, e']
    rw [valV_pos e, b]; exact h2
  · have e' : ¬ q.1 = k := fun z => e (h1.trans z)
    have b : atKey (q :: qs) k = atKey qs k := by simp [atKey, List.find?_cons, e']
    rw [valV_neg e, b]; exact ih
theorem KT.repl {H : Hp} {kvs : List (List Key × V)} {xs : List (List Key × Addr × Value)} (r : KT H kvs xs) (k : List Key) {y : V} {u : Value} (ry : RelV y u) :
 KT H (kvs.map fun kv => if kv.1 = k then (kv.1, y) else kv) (xs.map (putAt k u)) := by
 induction r with
 | nil => exact .nil
 | @cons p q ps qs h t ih =>
  rw [List.map_cons, List.map_cons]
  refine .cons ?_ ih
  obtain ⟨h1, h2, h3⟩ := h
  unfold putAt
  by_cases e : p.1 = k
  · rw [if_pos e, if_pos (h1.symm.trans e)]; exact ⟨h1, h2, ry⟩
  · rw [if_neg e, if_neg (fun z => e (h1.trans z))]; exact ⟨h1, h2, h3⟩
theorem KT.put {H : Hp} {kvs : List (List Key × V)} {xs : List (List Key × Addr × Value)} (r : KT H kvs xs) (k : List Key) {b : Addr} {y : V} {u : Value} (hb : H b = some (.tup (k.map kV))) (ry : RelV y u) :
 KT H (putK kvs k y) (storedH xs k b u) := by
 have e : (kvs.any fun kv => decide (kv.1 = k)) = (atKey xs k).isSome := by
  rw [valV_any, (r.val k).isSome_eq, Option.isSome_map]
 unfold putK storedH
 rw [e]
 by_cases q : (atKey xs k).isSome = true
 · rw [if_pos q, if_pos q]; exact r.repl k ry
 · rw [if_neg q, if_neg q]; exact Paired.snoc r ⟨rfl, hb, ry⟩
theorem KT.keeps {H H' : Hp} {kvs : List (List Key × V)} {xs : List (List Key × Addr × Value)} (r : KT H kvs xs) (ht : ∀ b ys, H b = some (.tup ys) → H' b = some (.tup ys)) : KT H' kvs xs :=
 Paired.mapP r fun _ _ z => ⟨z.1, ht _ _ z.2.1, z.2.2⟩
section
variable {P : Program} {w : World} {H : Hp} {h : Heap} {a : Addr}
theorem rd_of {u : HO} (ok : HOk P w H h) (e : Rd H a u) : ObjOk P w H h a u := e.ok ok
theorem dk_rd {kvs : List (Key × V)} (ok : HOk P w H h) (e : Rd H a (.dK kvs)) : kvs.length ≤ sizeLine ∧ (a == sysModules) = false ∧ ∃ vs, KV kvs vs ∧ h.DictOf (mixKind P w) a vs :=
 show ObjOk P w H h a (.dK kvs) from rd_of ok e
theorem dk_of {kvs : List (Key × V)} (ok : HOk P w H h) (e : H a = some (.dK kvs)) : kvs.length ≤ sizeLine ∧ (a == sysModules) = false ∧ ∃ vs, KV kvs vs ∧ h.DictOf (mixKind P w) a vs := dk_rd ok (.inl e)
theorem key_of {ks : List Key} (ok : HOk P w H h) (e : H a = some (.tup (ks.map kV))) : (tupleKind (mixKind P w)).is h ks a := by
 obtain ⟨_, its, r, o, h1, h2, n, h3⟩ := (show ObjOk P w H h a (.tup (ks.map kV)) from ok a _ e)
 exact ⟨o, its.toArray, n, h1, h2, h3, by simpa using items_are r⟩
theorem dt_rd {kvs : List (List Key × V)} (ok : HOk P w H h) (e : Rd H a (.dT kvs)) : kvs.length ≤ sizeLine ∧ (a == sysModules) = false ∧
 ∃ xs, KT H kvs xs ∧ h.DictOfH (tupleKind (mixKind P w)) a xs := by
 obtain ⟨z, y, xs, r, o, es, ep, h1, h2, h3, h4, h5⟩ := (show ObjOk P w H h a (.dT kvs) from rd_of ok e)
 refine ⟨z, y, xs, r, o, es, ep, h1, h2, h3, h4, fun x hx => ?_, h5⟩
 have all : ∀ {l : List (List Key × V)} {m : List (List Key × Addr × Value)}, KT H l m → ∀ x ∈ m, (tupleKind (mixKind P w)).is h x.1 x.2.1 := by
  intro l m q
  induction q with
  | nil => intro x hx; exact nomatch hx
  | @cons p q ps qs hq t ih =>
   intro x hx
   rcases List.mem_cons.mp hx with e | hx
   · subst e
     exact key_of ok (by rw [← hq.1]; exact hq.2.1)
   · exact ih x hx
 exact all r x hx
theorem dt_of {kvs : List (List Key × V)} (ok : HOk P w H h) (e : H a = some (.dT kvs)) : kvs.length ≤ sizeLine ∧ (a == sysModules) = false ∧
 ∃ xs, KT H kvs xs ∧ h.DictOfH (tupleKind (mixKind P w)) a xs := dt_rd ok (.inl e)
end
def DGet (H : Hp) (a : Addr) (y : V) (r : Option V) : Prop :=
 (∃ kvs k, Rd H a (.dK kvs) ∧ y = kV k ∧ r = valV kvs k) ∨ ∃ kvs k b, Rd H a (.dT kvs) ∧ y = .ref b ∧ H b = some (.tup (k.map kV)) ∧ r = valV kvs k
def DPut (H : Hp) (a : Addr) (y v : V) (H' : Hp) : Prop :=
 (∃ kvs k, H a = some (.dK kvs) ∧ y = kV k ∧ kvs.length < sizeLine ∧ H' = upd H a (.dK (putK kvs k v))) ∨
 ∃ kvs k b, H a = some (.dT kvs) ∧ y = .ref b ∧ H b = some (.tup (k.map kV)) ∧ kvs.length < sizeLine ∧ H' = upd H a (.dT (putK kvs k v))
theorem DGet.k {H : Hp} {a : Addr} {kvs : List (Key × V)} {k : Key} (e : H a = some (.dK kvs)) : DGet H a (kV k) (valV kvs k) := .inl ⟨kvs, k, .inl e, rfl, rfl⟩
theorem DPut.k {H : Hp} {a : Addr} {kvs : List (Key × V)} {k : Key} {v : V} (e : H a = some (.dK kvs)) (hl : kvs.length < sizeLine) : DPut H a (kV k) v (upd H a (.dK (putK kvs k v))) := .inl ⟨kvs, k, e, rfl, hl, rfl⟩
section
variable {X : Cx} {pins : List (Addr × Obj)} {σ : St} {H : Hp} {s : Shared} {a : Addr} {y v : V} {u r : Value} {o : Option V} {A : Around} {E : Value → Shared → Prop}
theorem d_notIn {Q : Value → Shared → Prop} (hu : A.units + 1 < cLine) (I : Inv X pins σ H s) (g : DGet H a y o) (ry : RelV y u) (h : ∀ s', Inv X pins σ H s' → Q (.bool (!o.isSome)) s') :
 wpAny (model X.prog X.w) A (compareOp .NotIn u (.ref a)) Q E s := by
 rcases g with ⟨kvs, k, e, ey, l⟩ | ⟨kvs, k, b, e, ey, eb, l⟩
 · subst ey
   obtain ⟨z, hd, vs, rel, dd⟩ := dk_rd I.hok e
   refine wpAny_notIn_of (kV_is ry) hd dd.mapOf ?_
   rw [← (rel.val k).isSome_eq, ← l]
   exact h _ (I.tok _)
 · subst ey
   cases (show u = Value.ref b from ry)
   obtain ⟨z, hd, xs, rel, dd⟩ := dt_rd I.hok e
   refine wpAny_notIn_heap (tupleKind_room_in1 hu) (key_of I.hok eb) hd dd ?_
   have q := (rel.val k).isSome_eq
   rw [Option.isSome_map] at q
   rw [← q, ← l]
   exact h _ (I.tok _)
theorem d_write {h' : Heap} {t' : Nat} {ob : HO} (I : Inv X pins σ H s) (mu : Mut (H a)) (hs : Heap.SameBut a s.heap h') (he : ∃ q, h'.get? a = some q) (new : ObjOk X.prog X.w (upd H a ob) h' a ob) :
 Inv X pins σ (upd H a ob) { s with heap := h', toks := t' } :=
 I.write (x := a) (e := a) mu (.inl rfl) (fun b q hb z => (hs.2 b hb).trans z) he new
theorem dk_new {P : Program} {w : World} {H' : Hp} {h' : Heap} {kvs : List (Key × V)} {vs : List (Key × Value)} (z : kvs.length ≤ sizeLine) (hd : (a == sysModules) = false) (rel : KV kvs vs) (dd : h'.DictOf (mixKind P w) a vs) :
 ObjOk P w H' h' a (.dK kvs) := ⟨z, hd, vs, rel, dd⟩
theorem d_setItem {H' : Hp} {Q : Unit → Shared → Prop} (hu : A.units + 1 < cLine) (I : Inv X pins σ H s) (g : DPut H a y v H') (ry : RelV y u) (rv : RelV v r) (h : ∀ s', Inv X pins σ H' s' → Q () s') :
 wpAny (model X.prog X.w) A (setItem (.ref a) u r) Q E s := by
 rcases g with ⟨kvs, k, e, ey, l, eH⟩ | ⟨kvs, k, b, e, ey, eb, l, eH⟩
 · subst ey eH
   obtain ⟨z, hd, vs, rel, dd⟩ := dk_of I.hok e
   have hz : vs.length ≤ sizeLine := by rw [← rel.length]; exact z
   have hl : (putK kvs k v).length ≤ sizeLine := by have := length_putK kvs k v; omega
   refine wpAny_setItem_pairs (hsz := hz) (kV_is ry) dd fun h' dd' hs => h _ ?_
   have he : ∃ q, h'.get? a = some q := let ⟨q, _, _, hq, _⟩ := dd'; ⟨q, hq⟩
   exact d_write I (by rw [e]; exact True.intro) hs he (dk_new hl hd (rel.put k rv) dd')
 · subst ey eH
   cases (show u = Value.ref b from ry)
   obtain ⟨z, hd, xs, rel, dd⟩ := dt_of I.hok e
   have hz : xs.length ≤ sizeLine := by rw [← Paired.length rel]; exact z
   have hl : (putK kvs k v).length ≤ sizeLine := by have := length_putK kvs k v; omega
   refine wpAny_setItem_heap (hsz := hz) (tupleKind_room_in1 hu) (key_of I.hok eb) dd fun h' dd' hs => h _ ?_
   obtain ⟨q, es, ep, hq, h2, h3, h4, _, h5⟩ := dd'
   refine d_write I (by rw [e]; exact True.intro) hs ⟨q, hq⟩ ⟨hl, hd, _, (rel.put k eb rv).keeps fun c ys ec => ?_, q, es, ep, hq, h2, h3, h4, h5⟩
   rw [upd_ne (ne_of ec e (fun z => nomatch z))]
   exact ec
end
def tDNotIn (ty td : TE) : TE := fun σ H Q => ty σ H fun y H1 => td σ H1 fun x H2 => ∃ a o, x = .ref a ∧ DGet H2 a y o ∧ Q (.bl (!o.isSome)) H2
def sDPut (td ty tv : TE) : TS := fun D σ H => tv σ H fun v H1 => td σ H1 fun x H2 => ty σ H2 fun y H3 => ∃ a H4, x = .ref a ∧ DPut H3 a y v H4 ∧ D.nx σ H4
section
variable {X : Cx} {o i e value : Expr} {pos pos' tpos : Pos} {td ty tv : TE}
theorem pc_dnotin (hu : X.A.units + 1 < cLine) (hi : PE X i ty) (ho : PE X o td) : PC X .NotIn i o (tDNotIn ty td) := by
 intro pins s σ H Q I h
 refine thn (hi pins s σ H _ I h) fun iv s1 ⟨y, H1, I1, ry, q1⟩ => thn (ho pins s1 σ H1 _ I1 q1) fun u s2 ⟨x, H2, I2, rx, a, ov, ex, g, q2⟩ => ?_
 subst ex
 obtain rfl : u = Value.ref a := rx
 exact d_notIn hu I2 g ry fun s3 I3 => ⟨.bl (!ov.isSome), H2, I3, rfl, q2⟩
theorem ps_dput (hu : X.A.units + 1 < cLine) (ho : PE X o td) (hi : PE X i ty) (hv : PE X value tv) (hs : swapsWith value (some (.Subscript o i pos')) pos.line X.env = pure false) :
 PS X (.Assign [.Subscript o i pos'] value pos) (sDPut td ty tv) := by
 intro pins s σ H D I h
 refine wpAny_Assign_Subscript (thn (hv pins s σ H _ I h) fun r s1 ⟨v, H1, I1, rv, q1⟩ => thn (ho pins s1 σ H1 _ I1 q1) fun u s2 ⟨x, H2, I2, rx, q2⟩ => thn (hi pins s2 σ H2 _ I2 q2) fun iv s3 ⟨y, H3, I3, ry, a, H4, ex, g, q3⟩ => ?_) hs
 subst ex
 obtain rfl : u = Value.ref a := rx
 exact d_setItem hu I3 g ry rv fun s4 I4 => ⟨σ, H4, I4, q3⟩
end
structure M1 (X : Cx) (o : Expr) (m : Str) (apos : Pos) (e : Expr) (cpos : Pos) : Prop where
 base : attributeBase o m X.env (eval o X.env) = eval o X.env
 few : ((backTo cpos (starEach [e] X.env)).all (fun x => !x.1) && (backToKw cpos (keywordEach [] X.env)).all (fun x => x.1.isSome)
  && decide (([e] : List Expr).length + ([] : List Keyword).length + (if ([] : List Keyword).isEmpty then 0 else 1) < 30)) = true
 line : (apos.endLine == cpos.line) = true
 trees : backTo cpos (starEach [e] X.env) = [(false, eval e X.env)]
structure M2 (X : Cx) (o : Expr) (m : Str) (apos : Pos) (e f : Expr) (cpos : Pos) : Prop where
 base : attributeBase o m X.env (eval o X.env) = eval o X.env
 few : ((backTo cpos (starEach [e, f] X.env)).all (fun x => !x.1) && (backToKw cpos (keywordEach [] X.env)).all (fun x => x.1.isSome)
  && decide (([e, f] : List Expr).length + ([] : List Keyword).length + (if ([] : List Keyword).isEmpty then 0 else 1) < 30)) = true
 line : (apos.endLine == cpos.line) = true
 trees : backTo cpos (starEach [e, f] X.env) = [(false, eval e X.env), (false, eval f X.env)]
def IsD (H : Hp) (a : Addr) : Prop := (∃ kvs, Rd H a (.dK kvs)) ∨ ∃ kvs, Rd H a (.dT kvs)
theorem isD_at {X : Cx} {pins : List (Addr × Obj)} {σ : St} {H : Hp} {s : Shared} {a : Addr} (I : Inv X pins σ H s) (d : IsD H a) :
 s.TypeIs (.ref a) "dict" ∧ (∀ b, Value.ref a = .ref b → ∃ ob, s.heap.get? b = some ob ∧ ob.dict = none) ∧ (a == sysModules) = false := by
 rcases d with ⟨kvs, e⟩ | ⟨kvs, e⟩
 · obtain ⟨_, hd, vs, _, dd⟩ := dk_rd I.hok e
   refine ⟨dd.typeIs, fun b q => ?_, hd⟩
   cases q
   obtain ⟨ob, _, _, h1, h2, _⟩ := dd
   exact ⟨ob, h1, h2.2.1⟩
 · obtain ⟨_, hd, xs, _, dd⟩ := dt_rd I.hok e
   refine ⟨dd.typeIs, fun b q => ?_, hd⟩
   cases q
   obtain ⟨ob, _, _, h1, h2, _⟩ := dd
   exact ⟨ob, h1, h2.2.1⟩
section
variable {X : Cx} {pins : List (Addr × Obj)} {σ : St} {H : Hp} {s : Shared} {a : Addr} {y d : V} {u r : Value} {o : Option V} {A : Around} {E : Value → Shared → Prop}
theorem d_get1 {Q : Value → Shared → Prop} (hu : A.units + 1 < cLine) (I : Inv X pins σ H s) (g : DGet H a y o) (ry : RelV y u) (h : ∀ w' s', Inv X pins σ H s' → RelV (o.getD .non) w' → Q w' s') :
 wpAny (model X.prog X.w) A (call (.builtin "dict.get") [.ref a, u]) Q E s := by
 rcases g with ⟨kvs, k, e, ey, l⟩ | ⟨kvs, k, b, e, ey, eb, l⟩
 · subst ey
   obtain ⟨z, hd, vs, rel, dd⟩ := dk_rd I.hok e
   refine call_meetsIn PySem.F.slot_dict_get dd.typeIs PySem.F.entry_dict_get (PySem.F.args_dict_get_2 _ _) (meets_dict_get (mixKind X.prog X.w) a (kV_is ry) hd) ⟨_, dd.mapOf, h _ _ (I.tok _) ?_⟩
   rw [l]
   exact (rel.val k).getD rfl
 · subst ey
   cases (show u = Value.ref b from ry)
   obtain ⟨z, hd, xs, rel, dd⟩ := dt_rd I.hok e
   refine call_meetsIn PySem.F.slot_dict_get dd.typeIs PySem.F.entry_dict_get (PySem.F.args_dict_get_2 _ _) (meetsH_dict_get (tupleKind (mixKind X.prog X.w)) a b hd) ⟨tupleKind_room_in1 hu, k, xs, key_of I.hok eb, dd, h _ _ (I.tok _) ?_⟩
   rw [l]
   exact (rel.val k).getD rfl
theorem d_get2 {Q : Value → Shared → Prop} (hu : A.units + 1 < cLine) (I : Inv X pins σ H s) (g : DGet H a y o) (ry : RelV y u) (rd : RelV d r) (h : ∀ w' s', Inv X pins σ H s' → RelV (o.getD d) w' → Q w' s') :
 wpAny (model X.prog X.w) A (call (.builtin "dict.get") [.ref a, u, r]) Q E s := by
 rcases g with ⟨kvs, k, e, ey, l⟩ | ⟨kvs, k, b, e, ey, eb, l⟩
 · subst ey
   obtain ⟨z, hd, vs, rel, dd⟩ := dk_rd I.hok e
   refine call_meetsIn PySem.F.slot_dict_get dd.typeIs PySem.F.entry_dict_get (PySem.F.args_dict_get_3 _ _ _) (meets_dict_get_default (mixKind X.prog X.w) a (kV_is ry) hd r) ⟨_, dd.mapOf, h _ _ (I.tok _) ?_⟩
   rw [l]
   exact (rel.val k).getD rd
 · subst ey
   cases (show u = Value.ref b from ry)
   obtain ⟨z, hd, xs, rel, dd⟩ := dt_rd I.hok e
   refine call_meetsIn PySem.F.slot_dict_get dd.typeIs PySem.F.entry_dict_get (PySem.F.args_dict_get_3 _ _ _) (meetsH_dict_get_default (tupleKind (mixKind X.prog X.w)) a b hd r) ⟨tupleKind_room_in1 hu, k, xs, key_of I.hok eb, dd, h _ _ (I.tok _) ?_⟩
   rw [l]
   exact (rel.val k).getD rd
end
def tDGet1 (td ty : TE) : TE := fun σ H Q => td σ H fun x H1 => ∃ a, x = .ref a ∧ IsD H1 a ∧ ty σ H1 fun y H2 => ∃ o, DGet H2 a y o ∧ Q (o.getD .non) H2
def tDGet2 (td ty tx : TE) : TE := fun σ H Q => td σ H fun x H1 => ∃ a, x = .ref a ∧ IsD H1 a ∧ ty σ H1 fun y H2 => tx σ H2 fun z H3 => ∃ o, DGet H3 a y o ∧ Q (o.getD z) H3
section
variable {X : Cx} {o e f : Expr} {apos cpos : Pos} {td ty tx : TE}
theorem pe_dget1 (hu : X.A.units + 1 < cLine) (ho : PE X o td) (he : PE X e ty) (m : M1 X o "get" apos e cpos) : PE X (.Call (.Attribute o "get" apos) [e] [] cpos) (tDGet1 td ty) := by
 intro pins s σ H Q I h
 refine wpAny_Call_method m.base m.few m.line PySem.F.plainAttrs_dict PySem.F.slot_dict_get PySem.F.type_dict_get (thn (ho pins s σ H _ I h) fun u s1 ⟨x, H1, I1, rx, a, ex, d, q1⟩ => ?_)
 subst ex
 obtain rfl : u = Value.ref a := rx
 obtain ⟨t1, t2, _⟩ := isD_at I1 d
 refine ⟨t1, t2, ?_⟩
 rw [m.trees]
 refine Calls.callWith_builtin rfl (Calls.evalArgs_plain (Calls.spliced_cons (thn (he pins s1 σ H1 _ I1 q1) fun iv s2 ⟨y, H2, I2, ry, ov, g, q2⟩ => Calls.spliced_nil ?_)))
 exact d_get1 hu I2 g ry fun w' s3 I3 rw' => ⟨_, H2, I3, rw', q2⟩
theorem pe_dget2 (hu : X.A.units + 1 < cLine) (ho : PE X o td) (he : PE X e ty) (hf : PE X f tx) (m : M2 X o "get" apos e f cpos) : PE X (.Call (.Attribute o "get" apos) [e, f] [] cpos) (tDGet2 td ty tx) := by
 intro pins s σ H Q I h
 refine wpAny_Call_method m.base m.few m.line PySem.F.plainAttrs_dict PySem.F.slot_dict_get PySem.F.type_dict_get (thn (ho pins s σ H _ I h) fun u s1 ⟨x, H1, I1, rx, a, ex, d, q1⟩ => ?_)
 subst ex
 obtain rfl : u = Value.ref a := rx
 obtain ⟨t1, t2, _⟩ := isD_at I1 d
 refine ⟨t1, t2, ?_⟩
 rw [m.trees]
 refine Calls.callWith_builtin rfl (Calls.evalArgs_plain (Calls.spliced_cons (thn (he pins s1 σ H1 _ I1 q1) fun iv s2 ⟨y, H2, I2, ry, q2⟩ =>
  Calls.spliced_cons (thn (hf pins s2 σ H2 _ I2 q2) fun fv s3 ⟨z, H3, I3, rz, ov, g, q3⟩ => Calls.spliced_nil ?_))))
 exact d_get2 hu I3 g ry rz fun w' s4 I4 rw' => ⟨_, H3, I4, rw', q3⟩
end
end L2
namespace L2.L3
open PySem PySem.Spec PyProof.Rows
section
variable {X:Cx}{ρ:Ro}{it elt tg:Expr}{ds:List D}{pos:Pos}{N:List Str}{js:List (Option Nat)}{scope:Scope}{G0 H0 G:Hp}{σ:St}{H:Hp}{α:Type}
def LcI2 (K:PySem.W.Frag)(G1 H1:Hp)(js:List (Option Nat))(σ:St)(Dd:Addr)(es:List L2.D)(ys:List V)(σ':St)(H2:Hp):Prop :=
 ∃G2,Grow G1 H1 G2 H2∧G2 Dd=none∧H2 Dd=some (.lst ys)∧IsL K G2 es ys∧σ'.length=js.length∧∀k:Nat,2≤k→σ'[k]? = (sbOf js σ)[k]?
theorem JO {d d2:D}{v v2:V}{G':Hp}{H':Hp}{σ':St}(c:Conf X.K G0 H0 ρ G σ H)(s:Same G G')(s':Same G' H')(iv:Is X.K G' d v)(iv2:Is X.K G' d2 v2)(hl:σ'.length=js.length)(hj:js[1]? = some none)(ht:∀k:Nat,2≤k→σ'[k]? = (sbOf js σ)[k]?) :
 Conf X.K G' H' (((rb js ρ).set 0 (.dat d)).set 1 (.dat d2)) G' ((σ'.set 0 (some v)).set 1 (some v2)) H':=by
 have hlt:1<σ'.length:=by rw[hl];exact(List.getElem?_eq_some_iff.mp hj).1
 have c1:Conf X.K G' H' ((rb js ρ).set 0 (.dat d)) G' ((σ'.set 1 none).set 0 (some v)) H':=jC c s s' iv (by rw[List.length_set];exact hl) fun k hk=>by
  by_cases z:k=1
  · subst z
    rw[List.getElem?_set_self hlt]
    unfold sbOf
    rw[List.getElem?_map,hj];rfl
  · rw[List.getElem?_set_ne (Ne.symm z)];exact ht k (by omega)
 have c2:=c1.put (i:=1) iv2
 have e:((σ'.set 1 none).set 0 (some v)).set 1 (some v2)=(σ'.set 0 (some v)).set 1 (some v2):=by
  rw[List.set_comm none (some v) (by omega),List.set_set]
 rw[e] at c2
 exact c2
theorem Z1v {G1 H1 H2:Hp}{Dd:Addr}{ys:List V}{zs:List L2.D}{σ':St}{d d2:L2.D}{v:V}{r:R}(c:Conf X.K G0 H0 ρ G1 σ H1)(hD:H1 Dd=none)(hj:js[1]? = some none)(he:∀C fp s H,QE (X.blk N scope C fp s H) (((rb js ρ).set 0 (.dat d)).set 1 (.dat d2)) elt r)(hz:zs.length<sizeLine)(iv:Is X.K G1 (.tup [d,d2]) v)
 (h:LcI2 X.K G1 H1 js σ Dd zs ys σ' H2) :
 gTup X.K 2 (gCons (gName 0) (gCons (gName 1) gNil)) v σ' H2 fun σ4 H4=>tTc X N scope [] σ4 H4 fun b H5=>if b=true then tEc X N scope elt σ4 H5 fun y H6=>H6 Dd=some (.lst ys)∧ys.length<sizeLine∧LcI2 X.K G1 H1 js σ Dd (zs++[r.d]) (ys++[y]) σ4 (upd H6 Dd (.lst (ys++[y])))
  else LcI2 X.K G1 H1 js σ Dd (zs++[r.d]) ys σ4 H5:=by
 obtain⟨G2,g2,k1,k2,k3,k4,k5⟩:=h
 have sg:Same G1 G2:=g2.gg c.sub
 obtain⟨ad,xs,rfl,t1,t2⟩:=is_tup iv
 obtain⟨v1,v2,rfl,i1,i2⟩:=IsL.two_of t2
 refine⟨ad,_,rfl,(sg.trans g2.sub).tuple t1,rfl,_,_,rfl,_,_,rfl,rfl,?_⟩
 have cb:=JO (js:=js) (σ':=σ') c sg g2.sub (Zb sg i1) (Zb sg i2) k4 hj k5
 have len':((σ'.set 0 (some v1)).set 1 (some v2)).length=js.length:=by rw[List.length_set,List.length_set];exact k4
 have tail':∀k:Nat,2≤k→((σ'.set 0 (some v1)).set 1 (some v2))[k]? = (sbOf js σ)[k]?:=fun k hk=>by rw[List.getElem?_set_ne (by omega),List.getElem?_set_ne (by omega)];exact k5 k hk
 intro C fp s0 H0' pins s I
 refine(YK (X:=X.blk N scope C fp s0 H0')).u pins s _ H2 _ I ⟨G2,H2,G2,cb,fun G5 H5 g5=>iteT ?_⟩
 intro C fp s0 H0' pins s I
 refine(he C fp s0 H0').u pins s _ H5 _ I ⟨G2,H2,G5,cb.up g5,fun y G6 H6 g6 o6=>?_⟩
 obtain⟨G7,g7,i7⟩:=o6.share g6
 have g57:=g5.trans g7
 have hD6:H6 Dd=some (.lst ys):=g57.same _ _ k2
 have k3':IsL X.K G7 zs ys:=Zk (g57.gg g2.sub) k3
 have hG7:G7 Dd=none:=(g57.old _ (Y4 k2)).trans k1
 have g17:=g2.trans g57
 refine⟨hD6,by rw[k3.len];exact hz,G7,⟨fun b u q=>?_,g17.old,fun b u q=>?_⟩,hG7,upd_same,k3'.snoc i7,len',tail'⟩
 · rw[upd_ne (ne_of_none q hD)];exact g17.same b u q
 · rw[upd_ne (ne_of_none q hG7)];exact g17.sub b u q
theorem Z2e {gl:List α}{f1 f2 F:α→D}{x y:Str}{px py pt:Pos}{kk:Nat}(js:List (Option Nat))(S:BlkScope N scope X.env.scope)(Z:Slots X.N N scope (sbOf js))(hi:QE X ρ it (.dat (.lst (gl.map fun g=>.tup [f1 g,f2 g]))))(hg:∀C fp s H,PG (X.blk N scope C fp s H) (.Tuple [.Name x px,.Name y py] kk pt) (gTup X.K 2 (gCons (gName 0) (gCons (gName 1) gNil))))
 (hj:js[1]? = some none) (turn:∀g,g∈gl→∀C fp s H,QE (X.blk N scope C fp s H) (((rb js ρ).set 0 (.dat (f1 g))).set 1 (.dat (f2 g))) elt (.dat (F g))) (hl:gl.length≤sizeLine) (hc:X.calm=true:=by rfl) (hs:∀z,foldedSetIterable it X.env z=pure z:=by intro _;rfl) :
 QE X ρ (.ListComp elt [⟨.Tuple [.Name x px,.Name y py] kk pt,it,[],0⟩] scope pos) (.own (gl.map F)) :=
 Zf (JC hc S Z (pi_list hi.u) hg (fun _ _ _ _=>YB) (fun _ _ _ _=>Jm) hs) fun G0 H0 G σ H Q c q=>⟨G0,H0,G,c,fun v G1 H1 g1 i1=>by
  obtain⟨ad,xs,rfl,h1,h2⟩:=ZB i1
  refine⟨ad,rfl,⟨xs,g1.sub.seq h1⟩,fun Dd hD=>JF (xs:=xs) (fun i ys σ' H2=>LcI2 X.K G1 H1 js σ Dd ((gl.take i).map F) ys σ' H2) ?_ ?_ ?_ ?_⟩
  · exact⟨G1,Grow.newOwn g1.sub hD,Same.dead g1.sub hD,upd_same,.nil,by simp[sbOf],fun _ _=>rfl⟩
  · rintro i ys σ' H2 _ ⟨G2,g2,k1,k2,_⟩
    exact⟨g2.same |>.seq (g1.sub.seq h1),k2⟩
  · rintro i w ys σ' H2 hi2 h
    obtain⟨d,e1,iv⟩:=h2.got hi2
    obtain⟨g,hgi,rfl⟩:=Y5 e1
    have hlt:i<gl.length:=(List.getElem?_eq_some_iff.mp hgi).1
    rw[Jg F hgi]
    exact Z1v (r:=.dat (F g)) (c.up g1) hD hj (turn g (List.mem_of_getElem? hgi)) (by rw[List.length_map,List.length_take];omega) iv h
  · rintro ys σ' H2 ⟨G2,g2,k1,k2,k3,_,_⟩
    have e:(gl.take xs.length).map F=gl.map F:=by rw[h2.len,List.length_map,List.take_length]
    rw[e] at k3
    exact q _ G2 H2 (g1.trans g2) ⟨Dd,ys,rfl,k1,Same.dead g1.same hD,k2,k3⟩⟩
end
theorem Z2I {K:PySem.W.Frag}{G H:Hp}{ρ:Ro}{σ:St}(h:Al K G ρ σ)(s:Same G H):Conf K G H ρ G σ H where
 grow:=Grow.refl s
 len:=h.len
 dat:=fun i d e=>by
  obtain⟨o,e1,v,e2,iv⟩:=h.get e
  exact⟨v,by rw[e1,e2],iv⟩
 own:=fun i ds e=>by obtain⟨o,e1,z⟩:=h.get e;exact z.elim
 sep:=fun i j ds es a _ e _ _=>by obtain⟨o,e1,z⟩:=h.get e;exact z.elim
 dic:=fun i t ht e=>by
  obtain⟨o,e1,z⟩:=h.get e
  cases t <;> first | exact z.elim | cases ht
 sepd:=fun i j t u a _ ht _ e _ _=>by
  obtain⟨o,e1,z⟩:=h.get e
  cases t <;> first | exact z.elim | cases ht
section
variable {X:Cx}{P P':St→Hp→Prop}{ρ:Ro}{r:R}{e:Expr}{bl:List Stmt}{ks:List (List Stmt)}{D:Ends}{pos:Pos}{x:Str}
theorem Z22 (j:Nat){a:Expr}{n:Nat}{body:List Stmt}{p p2 cp:Pos}(ρ:Ro)(Iv:Nat→St→Hp→Prop)(ha:QE X ρ a (.dat (.int n)))(hn:(n:Int)<2 ^ 62)(hP:∀σ H,P σ H→Al X.K H ρ σ)(h0:∀σ H H',P σ H→Same H H'→Iv 0 σ H')
 (turn:∀(i:Nat) (σ:St) (H:Hp) (D':Ends),D'.rt=D.rt→(∀σ H,Iv (i+1) σ H→D'.nx σ H)→i<n→Iv i σ H→tWS X body D' (σ.set j (some (.int i))) H)
 (h2:RK X (fun σ H=>Iv n σ H) (bl::ks) D) (hm:X.mg "range" = none) (hN:X.N.Nodup) (hp:PassesOwn (model X.prog X.w) X.A X.env X.xe) (hg:Gl X "range" := by rfl) (hsA:starEach [a] X.env=[(false,eval a X.env)]:=by rfl) (hc:X.calm=true:=by rfl) (hj:X.N[j]? = some x:=by rfl) (hx:Loc X.env.scope x:=by first | exact Or.inl rfl | exact Or.inr rfl)
 (hf:X.fn x=true∨X.env.scope.names.lookup x=some .local:=by first | exact .inl rfl | exact .inr rfl | assumption) (hs:∀x,foldedSetIterable (.Call (.Name "range" p2) [a] [] cp) X.env x=pure x:=by intro _;rfl) :
 RK X P ((.For (.Name x p) (.Call (.Name "range" p2) [a] [] cp) body [] pos::bl)::ks) D :=
 ⟨fun σ H h pins s I=>by
  refine pss_cons (ps_for hp hc (pi_range1 hg hm (pa_cons ha.u pa_nil hsA) hsA) (pg_name hN hj hx hf) Z9 hs) Z9 pins s σ H _ I ?_
  refine⟨H,H,H,(hP σ H h).snap,fun v G1 H1 g1 i1=>⟨n,by rw[Z8 i1],by omega,hn,?_⟩⟩
  rw[Int.toNat_natCast]
  refine for_range Iv (h0 σ H H1 h g1.same) ?_ ?_
  · intro i σ' H' hi z
    rw[Int.zero_add]
    exact turn i σ' H' _ rfl (fun _ _ q=>q) hi z
  · intro σ' H' z
    exact h2.u σ' H' z⟩
end
def tblD (l:List (Int × Int)):D:=.dct (l.map fun x=>.inl x.1) (l.map fun x=>.int x.2)
def tblV (l:List (Int × Int)):List (Key × V):=l.map fun x=>(.inl x.1,.int x.2)
def tget (l:List (Int × Int))(p:Int):Option Int:=(l.find? fun x=>decide (x.1=p)).map (·.2)
theorem Z15 (l:List (Int × Int))(p:Int):valV (tblV l) (.inl p)=(tget l p).map V.int:=by
 unfold valV tblV tget
 induction l with
 | nil=>rfl
 | cons x l ih =>
  rw[List.map_cons,List.find?_cons,List.find?_cons]
  by_cases h:x.1=p
  · simp[h]
  · have:¬(Sum.inl x.1:Key)=.inl p:=fun z=>h (Sum.inl.inj z)
    simp only[this,decide_false,h]
    exact ih
theorem Z3q {K:PySem.W.Frag}{G:Hp}{v:V}{l:List (Int × Int)}(h:Is K G (tblD l) v):∃a,v=.ref a∧G a=some (.dK (tblV l)):=by
 unfold tblD at h
 unfold Is at h
 obtain⟨a,kvs,rfl,e,e1,e2⟩:=h
 refine⟨a,rfl,?_⟩
 rw[e]
 congr 2
 clear e
 induction l generalizing kvs with
 | nil =>
  cases kvs with
  | nil=>rfl
  | cons x xs=>simp at e1
 | cons x l ih =>
  cases kvs with
  | nil=>simp at e1
  | cons y ys =>
   rw[List.map_cons,List.map_cons] at e1
   rw[List.map_cons,List.map_cons] at e2
   unfold IsL at e2
   obtain⟨z,zs,ez,i1,i2⟩:=e2
   cases ez
   injection e1 with e3 e4
   have:=ih ys e4 i2
   unfold tblV at this ⊢
   rw[List.map_cons,←this]
   obtain⟨y1,y2⟩:=y
   simp only at e3 i1
   rw[e3,Z8 i1]
section
variable {X:Cx}{ρ:Ro}{o e f:Expr}{pos apos cpos:Pos}{l:List (Int × Int)}{p z:Int}
theorem zB (hu:X.A.units+1<cLine)(ho:QE X ρ o (.dat (tblD l)))(he:QE X ρ e (.dat (.int p)))(hf:QE X ρ f (.dat (.int z)))(m:M2 X o "get" apos e f cpos:=by exact⟨rfl,rfl,rfl,rfl⟩):QE X ρ (.Call (.Attribute o "get" apos) [e,f] [] cpos) (.dat (.int ((tget l p).getD z))) :=
 Zf (pe_dget2 hu ho.u he.u hf.u m) fun G0 H0 G σ H Q c q=>⟨G0,H0,G,c,fun v G1 H1 g1 i1=>by
  obtain⟨a,rfl,ha⟩:=Z3q i1
  refine⟨a,rfl,.inl ⟨_,.inl (g1.sub _ _ ha)⟩,G0,H0,G1,c.up g1,fun y G2 H2 g2 i2=>⟨G0,H0,G2,(c.up g1).up g2,fun w G3 H3 g3 i3=>?_⟩⟩
  rw[Z8 i2,Z8 i3]
  refine⟨_,DGet.k (k:=.inl p) ((g2.same.trans g3.same) _ _ (g1.sub _ _ ha)),?_⟩
  rw[Z15]
  have e:((tget l p).map V.int).getD (V.int z)=V.int ((tget l p).getD z):=by cases tget l p <;> rfl
  rw[e]
  exact q _ G3 H3 ((g1.trans g2).trans g3) Zl⟩
end
section
variable {X:Cx}{P P':St→Hp→Prop}{ρ:Ro}{r:R}{e:Expr}{st:Stmt}{bl:List Stmt}{ks:List (List Stmt)}{D:Ends}{pos:Pos}{x:Str}
theorem JN {t:TS}(h:PS X st t)(hP:∀σ H,P σ H→∀D':Ends,D'.rt=D.rt→(∀σ' H',P' σ' H'→D'.nx σ' H')→t D' σ H)(h2:RK X P' (bl::ks) D):RK X P ((st::bl)::ks) D :=
 ⟨fun σ H p pins s I=>pss_cons h Z9 pins s σ H _ I (hP σ H p { D with nx:=tK X (bl::ks) D } rfl fun σ' H' q=>h2.u σ' H' q)⟩
end
section
variable {X:Cx}{ρ ρ1:Ro}{r:R}{e c:Expr}{pos:Pos}{E:XW}{o:O}{body:List Stmt}{D:Ends}{G0 H0 G1 G':Hp}{σ:St}{H:Hp}
def tWT1 (X:Cx)(c:Expr):TT:=fun σ H Q=>∀pins s,Inv X pins σ H s→wpAny (model X.prog X.w) X.A (isTrue c X.env (eval c X.env)) (TP X pins σ Q) X.xe s
theorem jF:PT X c (tWT1 X c):=fun pins s σ H Q I h=>h pins s I
theorem Z1U {ρa ρb:Ro}(h:QK X E ρa [body] (.lp ρb))(s:Same G1 G')(c:Conf X.K G0 H0 ρa G' σ H)(N:St→Hp→Prop)
 (hN:∀G'' σ'' H'',Same G1 G''→Conf X.K G0 H0 ρb G'' σ'' H''→N σ'' H''):tWS X body { D with nx:=N,ct:=N,bk:=D.nx } σ H :=
 h.u { D with nx:=N,ct:=N,bk:=D.nx } _ H ⟨G0,H0,G',c,fun G'' σ'' H'' s'' c''=>hN G'' σ'' H'' (s.trans s'') c'',fun G'' σ'' H'' s'' c''=>hN G'' σ'' H'' (s.trans s'') c''⟩
theorem YX (n:Nat)(ρs:Nat→Ro)(h0:Wk (ρs 0) ρ)(test:∀i,i<n→QT X (ρs i) c true)(out:QT X (ρs n) c false)(turn:∀i,i<n→QK X E (ρs i) [body] (.lp (ρs (i+1))))
 (hp:PassesOwn (model X.prog X.w) X.A X.env X.xe):QS X E ρ (.While c body [] pos) (.nx (ρs n)) :=
 Y2 (ps_while hp jF Z9) fun G0 H0 G D σ H cf f=>by
  refine⟨fun m σ' H'=>∃i G',i≤n∧m=n-i∧Same G G'∧Conf X.K G0 H0 (ρs i) G' σ' H',⟨n,0,G,Nat.zero_le _,rfl,Same.refl _,cf.weak h0⟩,?_⟩
  rintro m σ' H' ⟨i,G',hi,rfl,s,c'⟩ pins sh I
  by_cases z:i=n
  · subst z
    exact out.u pins sh σ' H' _ I ⟨G0,H0,G',c',fun G2 H2 g2=>f G2 σ' H2 (s.trans (g2.gg c'.sub)) (c'.up g2)⟩
  · have hl:i<n:=by omega
    refine(test i hl).u pins sh σ' H' _ I ⟨G0,H0,G',c',fun G2 H2 g2=>?_⟩
    show if true=true then _ else _
    rw[if_pos rfl]
    refine⟨fun σ3 H3=>∃G3,Same G G3∧Conf X.K G0 H0 (ρs (i+1)) G3 σ3 H3,fun σ3 H3 ⟨G3,s3,c3⟩=>⟨n-(i+1),by omega,i+1,G3,hl,rfl,s3,c3⟩,?_⟩
    have s2:Same G G2:=s.trans (g2.gg c'.sub)
    exact Z1U (turn i hl) s2 (c'.up g2) _ fun G3 σ3 H3 s3 c3=>⟨G3,s3,c3⟩
end
end L2.L3
namespace L2
open PySem PySem.Spec PyProof.Rows
def It2 (n:Nat):It:=⟨fun i _=>i<n,fun i H x H'=>H'=H∧x=.int (2*i),fun i _=>n≤i⟩
theorem Z13 {P:Program}{w:World}{K:PySem.W.Frag}{tg:Expr}(it:Addr)(n:Nat):Turn P w K tg (It2 n) [it] it (fun i h=>IsRangeIter h it (0+(i:Nat)*2) ((n:Int)-(i:Nat)) 2) where
 mem:=by simp
 obj:=fun i h st b hb=>by
  have e:b=it:=by simpa using hb
  subst e
  exact⟨_,st,fun v z=>by
   have z':Data.fields _=Data.cell v:=z
   cases z'⟩
 keep:=fun i h h' st k=>k it (by simp) _ st
 item:=by
  intro X hP hw hK hc i pins s σ H E I hf st hg
  subst hP hw hK
  obtain⟨f0,f1,f2,f3,f4,f5⟩:=hf it (by simp)
  have W:=Walks.range (prog:=X.prog) (w:=X.w) (I.ok.hd hc) it 0 2 n
  refine W.item i s _ _ hg st fun v h' tk hv st' kk=>?_
  obtain⟨t,rfl⟩:=hv
  have I1:Inv X pins σ H { s with heap:=h',toks:=tk }:=I.turned (fun b o hb e=>kk b o (by simpa using hb) e) f0 f1 f3 f4 f5
  refine⟨_,rfl,go_of (s:={ s with heap:=h',toks:=tk }) (n := "range_iterator") st' rfl rfl (by decide) ⟨.int (2*i),H,I1,⟨t,?_⟩,⟨rfl,rfl⟩,st',fun b hb=>(hf b hb).1⟩⟩
  rw[Int.zero_add,Int.mul_comm]
 done:=by
  intro X hP hw hK hc i pins s σ H E I hf st hg
  subst hP hw hK
  obtain⟨f0,f1,f2,f3,f4,f5⟩:=hf it (by simp)
  exact wpAny_pyNext_range_end (I.ok.hd hc) st (by have:n≤i:=hg;omega) fun h' eb=>⟨rfl,I.turned (t':=s.toks) (fun b o hb e=>eb b o hb e) f0 f1 f3 f4 f5⟩
 self:=fun _ _ _ _ _ st h=>wpAny_pyIter_rangeiter st h
section
variable {X:Cx}{tg:Expr}
theorem yz (n:Nat):Builtin.Range.rangeSize 0 (2*n) 2=n:=by
 unfold Builtin.Range.rangeSize
 simp only[show (2:Int)>0 by decide,if_true]
 split <;> omega
theorem Zq {i:Int}(h1:-(2 ^ 62)≤i)(h2:i<2 ^ 62):Builtin.Range.rangeFitsLong i=true:=by
 unfold Builtin.Range.rangeFitsLong
 rw[Bool.and_eq_true]
 exact⟨decide_eq_true (by omega),decide_eq_true (by omega)⟩
theorem Z0i {n:Nat}(h:(n:Int)<2 ^ 60):Builtin.Range.small 0 (2*n) 2=true:=by
 unfold Builtin.Range.small
 rw[yz]
 have f1:Builtin.Range.rangeFitsLong 0=true:=Zq (by omega) (by omega)
 have f2:Builtin.Range.rangeFitsLong (2*n)=true:=Zq (by omega) (by omega)
 have f3:Builtin.Range.rangeFitsLong 2=true:=Zq (by omega) (by omega)
 have f4:Builtin.Range.rangeFitsLong (n:Int)=true:=Zq (by omega) (by omega)
 have f5:Builtin.Range.rangeFitsLong (2*n+(2-1))=true:=Zq (by omega) (by omega)
 rw[f1,f2,f3,f4,if_pos (by decide),f5,Bool.or_true];rfl
theorem Z2Q {pins:List (Addr × Obj)}{σ:St}{H:Hp}{s:Shared}{R:It→Hp→Prop}{E:Value→Shared→Prop}{n:Nat}{t u v:Tok}{tk:Nat}(I:Inv X pins σ H s)(hn:(n:Int)<2 ^ 60)
 (q:R (It2 n) H):wpAny (model X.prog X.w) X.A (pyIter (.ref s.heap.objs.size)) (PIE X pins σ tg R) E { s with heap:=s.heap.push { cls:=.type "range",data:=.fields #[.int 0 t,.int (2*n) u,.int 2 v] },toks:=tk }:=by
 refine wpAny_pyIter_range (IsRange.new ..) (Z0i hn) ?_
 have I1:Inv X pins σ H { s with heap:=s.heap.push { cls:=.type "range",data:=.fields #[.int 0 t,.int (2*n) u,.int 2 v] },toks:=tk }:=I.kept fun b o e=>Heap.get?_push_of_some _ e
 refine⟨(s.heap.push { cls:=.type "range",data:=.fields #[.int 0 t,.int (2*n) u,.int 2 v] }).objs.size,[(s.heap.push { cls:=.type "range",data:=.fields #[.int 0 t,.int (2*n) u,.int 2 v] }).objs.size],_,_,H,rfl,
  I1.kept (t':=tk) fun b o e=>Heap.get?_push_of_some _ e,Z13 _ n,?_,fun b hb=>?_,q⟩
 · have e1:(0:Int)+((0:Nat):Int)*2=0:=by simp
   have e2:(n:Int)-((0:Nat):Int)=Builtin.Range.rangeSize 0 (2*n) 2:=by rw[yz];simp
   show IsRangeIter _ _ (0+((0:Nat):Int)*2) ((n:Int)-((0:Nat):Int)) 2
   rw[e1,e2]
   exact Heap.get?_push_size _ rfl
 · have e:b=(s.heap.push { cls:=.type "range",data:=.fields #[.int 0 t,.int (2*n) u,.int 2 v] }).objs.size:=by simpa using hb
   subst e
   exact I1.fpOk (Nat.le_refl _) (I1.hok.fresh (Nat.le_refl _))
def iTwo (ta:TA):TI:=fun σ H R=>ta σ H fun vs H1=>∃n:Nat,vs=[.int 0,.int (2*n),.int 2]∧(n:Int)<2 ^ 60∧R (It2 n) H1
theorem Z39 {a b c:Expr}{ta:TA}{p pos:Pos}(hg:Gl X "range")(hm:X.mg "range" = none)(ha:PA X [a,b,c] ta)(hs:starEach [a,b,c] X.env=[(false,eval a X.env),(false,eval b X.env),(false,eval c X.env)]:=by rfl)(hs2:starEach [b,c] X.env=[(false,eval b X.env),(false,eval c X.env)]:=by rfl) :
 PI X tg (.Call (.Name "range" p) [a,b,c] [] pos) (iTwo ta):=by
 intro pins s σ H R I h
 refine Call_ (ld_blt I hg hm boot_range (PyProof.Rows.callWith_type1 (thn (ha pos pins s σ H _ I h) fun us s1 ⟨vs,H1,I1,r1,q1⟩=>?_) (by rw[hs,hs2]) (by rw[hs2];rfl)))
 obtain⟨n,e,q1,q⟩:=q1
 subst e
 cases r1 with
 | cons r rr =>
  cases rr with
  | cons r' rr =>
   cases rr with
   | cons r2 rr =>
    cases rr
    obtain⟨t,rfl⟩:=r
    obtain⟨t',rfl⟩:=r'
    obtain⟨t2,rfl⟩:=r2
    exact call_range_3 (by decide) (Z2Q I1 q1 q) (Or.inl (PyProof.noPylong_small (by omega)))
end
namespace L3
end L3
end L2
namespace L2.L3
open PySem PySem.Spec PyProof.Rows
end L2.L3
namespace L2
open PySem PySem.Spec PyProof.Rows
open Sem (wp)
section
variable {prog:Program}{w:World}{A:Around}{E:Value→Shared→Prop}
def lsObj (xs:List Value):Obj:={ cls:=.type "list",data:=.seq xs.toArray }
theorem Z3y {s:Shared}{l b:Addr}{its jts:List Value}{Q:Value→Shared→Prop}(p1:s.heap.IsList l its.toArray)(p2:s.heap.IsList b jts.toArray)(hz:its.length+jts.length≤sizeLine)
 (h:Q (.ref s.heap.objs.size) { s with heap:=s.heap.push (lsObj (its++jts)) }):wpAny (model prog w) A (binaryOp .Add (.ref l) (.ref b)) Q E s:=by
 obtain⟨⟨cls,dd,data,sl⟩,ho,hc,n,hd⟩:=p1
 obtain⟨⟨cls2,dd2,data2,sl2⟩,ho2,hc2,n2,hd2⟩:=p2
 simp only at hc hd hc2 hd2
 subst hc hd hc2 hd2
 have e:its.toArray++jts.toArray=(its++jts).toArray:=by simp
 have hl:=line63
 refine concat_meets ⟨_,ho,rfl⟩ ⟨_,ho2,rfl⟩ noFill_list_add seq_list_add PySem.F.slot_list_add PySem.F.entry_list_add (PySem.F.args_list_add_2 _ _) (list_addW l b its.toArray jts.toArray n n2 dd dd2 sl sl2 (by simp only[List.size_toArray];omega)) ⟨ho,ho2,?_⟩
 rw[e]
 exact h
theorem ZM {h h':Heap}{a:Addr}{xs:Array Value}(p:h.IsList a xs)(k:∀o,h.get? a=some o→h'.get? a=some o):h'.IsList a xs:=by
 obtain⟨ob,q,r⟩:=p
 exact⟨ob,k _ q,r⟩
theorem Ju {h:Heap}{a:Addr}{xs:Array Value}(p:h.IsList a xs):a<h.objs.size:=by
 obtain⟨ob,q,r⟩:=p
 exact Heap.lt_size q
def NewL (h:Heap)(T:Addr)(xs:List Value):Prop:=∃c,h.get? T=some { cls:=.type "list",dict:=none,data:=.seq xs.toArray c,slots:=#[] }
theorem Z2V {R:Result→Shared→Prop}{I:Addr}{fp:List Addr}{n:Nat}{P:Nat→Value→Prop}{St:Nat→Heap→Prop}(W:Walks prog w A.in1 I fp [I] n P St)(parts:Nat→List Value)(h0:Heap)(S:Addr)(hSf:S∉fp)(hIx:∀i h,St i h→I<h.objs.size)
 (hval:∀i v,P i v→∃a,v=.ref a∧a≠I∧a≠S∧h0.IsList a (parts i).toArray) (hz:((List.range n).flatMap parts).length≤sizeLine) :
 ∀(k i:Nat) (s:Shared) (T:Addr) (c:Nat),n-i=k→i≤n→St i s.heap→T≠I→T≠S→(i=0∨S<T∧NewL s.heap T ((List.range i).flatMap parts))→s.heap.IsList T (((List.range i).flatMap parts)).toArray→s.heap.get? S=some { cls:=.type "list",dict:=none,data:=.seq #[.ref T] c,slots:=#[] } →
 (∀b o,b≠I→b≠S→h0.get? b=some o→s.heap.get? b=some o) →
 (∀h' tk T,(∀b o,b≠I→b≠S→h0.get? b=some o→h'.get? b=some o)→(n=0∨S<T∧NewL h' T ((List.range n).flatMap parts))→R (.ok (.ret (.ref T))) { s with heap:=h',toks:=tk }) →
 codeAny (model prog w) A (.builtin "sum.loop" ⟨[.ref I,.ref S,rawInt 2,rawInt 0],[]⟩) R s:=by
 have hSw:S∉[I]:=fun h=>hSf (W.sub _ h)
 have hSI:S≠I:=fun h=>hSw (by rw[h];simp)
 intro k
 induction k with
 | zero =>
  intro i s T c hk hi hst hTI hTS hT hl hS hk0 hR
  have hin:i=n:=by omega
  subst hin
  refine codeAny_builtin F.entry_sum_loop ?_
  rw[Around.under_plainId F.plain_sum_loop _]
  show wpAny _ A.in1 (seqItems? (.ref S) >>= _) _ _ s
  refine wpAny_bind (wpAny_seqItems hS rfl ?_)
  show wpAny _ A.in1 (tryCatch (pyNext (.ref I)) _ >>= _) _ _ s
  refine wpAny_bind (wpAny_tryCatch (W.done s _ _ hst fun h' tk hk'=>?_))
  exact wpAny_pure (hR h' tk T (fun b o h1 h2 e=>hk' b o (by simpa using h1) (hk0 b o h1 h2 e)) (hT.imp id fun z=>⟨z.1,z.2.imp fun c e=>hk' T _ (by simpa using hTI) e⟩))
 | succ k ih =>
  intro i s T c hk hi hst hTI hTS hT hl hS hk0 hR
  have hlt:i<n:=by omega
  refine codeAny_builtin F.entry_sum_loop ?_
  rw[Around.under_plainId F.plain_sum_loop _]
  show wpAny _ A.in1 (seqItems? (.ref S) >>= _) _ _ s
  refine wpAny_bind (wpAny_seqItems hS rfl ?_)
  show wpAny _ A.in1 (tryCatch (pyNext (.ref I)) _ >>= _) _ _ s
  refine wpAny_bind (wpAny_tryCatch (W.item i s _ _ hlt hst fun v h' tk hP hst' hk'=>?_))
  obtain⟨a,rfl,haI,haS,hla⟩:=hval i v hP
  have hS':=hk' S _ hSw hS
  have hT':h'.IsList T (((List.range i).flatMap parts)).toArray:=ZM hl fun o e=>hk' T o (by simpa using hTI) e
  have ha':h'.IsList a (parts i).toArray:=ZM hla fun o e=>hk' a o (by simpa using haI) (hk0 a o haI haS e)
  have ecat:(List.range (i+1)).flatMap parts=(List.range i).flatMap parts++parts i:=by rw[List.range_succ,List.flatMap_append];simp
  have hlen:((List.range (i+1)).flatMap parts).length≤((List.range n).flatMap parts).length:=by
   obtain⟨m,rfl⟩:∃m,n=(i+1)+m:=⟨n-(i+1),by omega⟩
   rw[show List.range (i+1+m)=List.range (i+1)++(List.range m).map (fun x=>(i+1)+x) from List.range_add ..,List.flatMap_append,List.length_append];omega
  show wpAny _ A.in1 ((holding [Value.ref a] (binaryOp .Add (.ref T) (.ref a))).attempt >>= _) _ _ _
  refine wpAny_bind (wpAny_attempt (wpAny_holding (Z3y (s:={ s with heap:=h',toks:=tk }) hT' ha' (by rw[ecat,List.length_append] at hlen;omega) ?_)))
  generalize hh2:h'.push (lsObj ((List.range i).flatMap parts++parts i))=h2
  have kp2:∀b o,h'.get? b=some o→h2.get? b=some o:=fun b o e=>by rw[←hh2];exact Heap.get?_push_of_some _ e
  have hN:h2.IsList h'.objs.size ((List.range (i+1)).flatMap parts).toArray:=by rw[ecat,←hh2];exact⟨_,Heap.get?_push_size _ rfl,rfl,_,rfl⟩
  have hSlt:S<h'.objs.size:=Heap.lt_size hS'
  have hIlt:I<h'.objs.size:=hIx _ _ hst'
  show wpAny _ A.in1 (updateSeq S (fun _=>#[.ref h'.objs.size]) >>= _) _ _ _
  refine wpAny_bind ?_
  refine wpAny_updateSeq (kp2 _ _ hS') rfl ?_
  have hS2:=Heap.get?_update_self (Obj.mapSeq fun _=>#[Value.ref h'.objs.size]) (kp2 _ _ hS') rfl
  refine wpAny_bind (wpAny_letGo ?_)
  refine wpAny_bind ?_
  refine wpAny_updateSeq hS2 rfl (wpAny_pure ⟨plainId_quiet F.plain_sum_loop _,ih (i+1) _ h'.objs.size _ (by omega) hlt (W.frame _ _ _ hst' fun b hb o e=>?_) (Nat.ne_of_gt hIlt) (Nat.ne_of_gt hSlt) (.inr ⟨hSlt,?_⟩) (ZM hN fun o e=>?_) (Heap.get?_update_self _ hS2 rfl) (fun b o h1 h2 e=>?_) fun h'' tk'' T'' hk''=>?_⟩)
  · exact(Heap.get?_update_other _ _ (fun h:S=b=>hSf (by rw[h];exact hb))).trans ((Heap.get?_update_other _ _ (fun h:S=b=>hSf (by rw[h];exact hb))).trans (kp2 _ _ e))
  · rw[ecat]
    exact⟨_,(Heap.get?_update_other _ _ (Nat.ne_of_lt hSlt)).trans ((Heap.get?_update_other _ _ (Nat.ne_of_lt hSlt)).trans (by rw[←hh2];exact Heap.get?_push_size _ rfl))⟩
  · exact(Heap.get?_update_other _ _ (Nat.ne_of_lt hSlt)).trans ((Heap.get?_update_other _ _ (Nat.ne_of_lt hSlt)).trans e)
  · exact(Heap.get?_update_other _ _ (Ne.symm h2)).trans ((Heap.get?_update_other _ _ (Ne.symm h2)).trans (kp2 _ _ (hk' b o (by simpa using h1) (hk0 b o h1 h2 e))))
  · exact hR h'' tk'' T'' hk''
theorem Z10 (a b:Value):argsOk "sum" ⟨[a,b],[]⟩:=by unfold argsOk;kernel_rfl
end
theorem Z0U (vss:List (List Value)):(List.range vss.length).flatMap (fun i=>vss.getD i [])=vss.flatten:=by
 rw[List.flatMap_def]
 congr 1
 apply List.ext_getElem?
 intro j
 by_cases hj:j<vss.length
 · rw[List.getElem?_map,List.getElem?_range hj,List.getElem?_eq_getElem hj];simp[List.getD,List.getElem?_eq_getElem hj]
 · rw[List.getElem?_eq_none (by simp;omega),List.getElem?_eq_none (by omega)]
section
variable {X:Cx}
theorem jv (hc:X.calm=true):CallR X (.builtin "sum") (fun xs H Q=>∃(p l0:Addr) (ps:List (Addr × List V)),xs=[.ref p,.ref l0]∧SqL X.K H p (ps.map fun q=>.ref q.1)∧(∀q∈ps,SqL X.K H q.1 q.2)∧SqL X.K H l0 []∧ps≠[]∧(ps.flatMap (·.2)).length≤sizeLine ∧
 ∀l,H l=none→Q (.ref l) (upd H l (.lst (ps.flatMap (·.2))))):=by
 intro pins s σ H xs us Q I r h
 obtain⟨p,l0,ps,rfl,hp,hps,h0,hne,hz,q⟩:=h
 obtain⟨u,u2,rfl,rx,rx2⟩:=vals2 r
 cases rx
 cases rx2
 obtain⟨its,r',pl,hz'⟩:=I.list hp
 obtain⟨its0,r0,pl0,_⟩:=I.list h0
 cases r0
 -- the parts,as values
 have parts:∃vss:List (List Value),vss.length=ps.length∧(∀(i:Nat) (q:Addr × List V),ps[i]? = some q→∃vs,vss[i]? = some vs∧Vals q.2 vs∧s.heap.IsList q.1 vs.toArray)∧Vals (ps.flatMap (·.2)) vss.flatten:=by
  clear hne hz q hp r' hz' pl
  induction ps with
  | nil=>exact⟨[],rfl,fun i q e=>by simp at e,.nil⟩
  | cons a ps ih =>
   obtain⟨vss,e1,e2,e3⟩:=ih fun q hq=>hps q (List.mem_cons_of_mem _ hq)
   obtain⟨vs,rv,pv,_⟩:=I.list (hps a List.mem_cons_self)
   refine⟨vs::vss,by simp[e1],fun i q e=>?_,?_⟩
   · cases i with
     | zero=>simp at e;subst e;exact⟨vs,rfl,rv,pv.isList⟩
     | succ i=>exact e2 i q (by simpa using e)
   · rw[List.flatMap_cons,List.flatten_cons];exact rv.append e3
 obtain⟨vss,e1,e2,e3⟩:=parts
 have hplt:=Ju pl.isList
 have hlen:=r'.length
 refine call_function_tree F.kind_sum F.plain_sum F.entry_sum (Z10 _ _) ?_
 unfold Builtin.«sum»
 simp only[List.length_cons,List.length_nil]
 rw[if_neg (by decide)]
 refine wpAny_bind (wpAny_of_eq (show Builtin.Builtins.bindParams "sum" ["start"] 0 { pos:=[Value.ref l0] }=pure [some (.ref l0)] from rfl) ?_)
 refine wpAny_bind (wpAny_pyIter_list pl.isList ?_)
 have e0:s.heap.push { cls:=.type "list_iterator",data:=.fields #[.ref p,.int 0 0] }=s.heap.push { cls:=.type "list_iterator",data:=.fields #[.ref p,.int 0 0] }:=rfl
 have hpI:p≠s.heap.objs.size:=Nat.ne_of_lt hplt
 generalize hh2:s.heap.push { cls:=.type "list_iterator",data:=.fields #[.ref p,.int 0 0] }=h2
 have kp2:∀b o,s.heap.get? b=some o→h2.get? b=some o:=fun b o e=>by rw[←hh2];exact Heap.get?_push_of_some _ e
 have hsz2:h2.objs.size=s.heap.objs.size+1:=by rw[←hh2];exact Array.size_push ..
 have hit:h2.IsListIter s.heap.objs.size p 0:=by rw[←hh2];exact⟨_,Heap.get?_push_size _ rfl,rfl,rfl⟩
 have pl2:h2.IsList p its.toArray:=ZM pl.isList fun o e=>kp2 _ _ e
 have p02:h2.IsList l0 #[]:=ZM pl0.isList fun o e=>kp2 _ _ e
 have t0:∀(s':Shared),s'.heap=h2→s'.TypeIs (.ref l0) "list" := fun s' e=>by
  obtain⟨ob,q1,q2,_⟩:=p02
  exact⟨ob,by rw[e];exact q1,q2⟩
 refine wpAny_bind (wpAny_pure ?_)
 simp only[List.forIn_cons,List.forIn_nil]
 refine wpAny_bind (wpAny_bind (wpAny_bind (wpAny_isInstance (T := "list") (b:=false) (t0 _ rfl) F.sub_list_str ?_)))
 simp only[Bool.false_eq_true,if_false]
 refine wpAny_pure (wpAny_bind (wpAny_bind (wpAny_isInstance (T := "list") (b:=false) (t0 _ rfl) F.sub_list_bytes ?_)))
 simp only[Bool.false_eq_true,if_false]
 refine wpAny_pure (wpAny_bind (wpAny_bind (wpAny_isInstance (T := "list") (b:=false) (t0 _ rfl) F.sub_list_bytearray ?_)))
 simp only[Bool.false_eq_true,if_false]
 refine wpAny_pure (wpAny_pure ?_)
 refine wpAny_bind (wpAny_newObj_type ?_)
 have W:=Walks.list (prog:=X.prog) (w:=X.w) (A:=X.A.in1) (I.ok.hd hc) s.heap.objs.size p hpI its.toArray
 have hSf:h2.objs.size∉[s.heap.objs.size,p]:=fun hm=>by
  rw[hsz2] at hm
  rcases List.mem_cons.mp hm with z | z
  · omega
  · have:=List.mem_singleton.mp z
    exact Nat.lt_irrefl _ (Nat.lt_trans hplt (Nat.lt_of_lt_of_eq (Nat.lt_succ_self _) this))
 have l0lt:=Ju pl0.isList
 have hn0:its.toArray.size≠0:=by
  intro z
  have:its.length=0:=by simpa using z
  rw[this,List.length_map] at hlen
  exact hne (List.eq_nil_of_length_eq_zero hlen)
 have hfl:(List.range its.toArray.size).flatMap (fun i=>vss.getD i [])=vss.flatten:=by
  have hl2:its.toArray.size=vss.length:=by rw[e1,List.size_toArray,←hlen,List.length_map]
  rw[hl2]
  exact Z0U vss
 refine wpAny_pure ⟨plainId_quiet F.plain_sum_loop _,Z2V W (fun i=>vss.getD i []) h2 h2.objs.size hSf (fun i h st=>?_) (fun i v hv=>?_) ?_ its.toArray.size 0 _ l0 0 rfl (Nat.zero_le _)
  (W.frame _ _ _ ⟨hit,pl2⟩ fun b _ o e=>Heap.get?_push_of_some _ e) (Nat.ne_of_lt l0lt) (Nat.ne_of_lt (Nat.lt_of_lt_of_eq (Nat.lt_succ_of_lt l0lt) hsz2.symm)) (.inl rfl) (ZM p02 fun o e=>Heap.get?_push_of_some _ e) (Heap.get?_push_size _ rfl) (fun b o _ _ e=>Heap.get?_push_of_some _ e) fun h' tk T hk hT=>?_⟩
 · obtain⟨⟨o,e,_⟩,_⟩:=st
   exact Heap.lt_size e
 · have hv':its[i]? = some v:=by simpa using hv
   have hi:i<ps.length:=by
    have:=(List.getElem?_eq_some_iff.mp hv').1
    rw[←hlen,List.length_map] at this;exact this
   obtain⟨vs,f1,f2,f3⟩:=e2 i ps[i] (List.getElem?_eq_getElem hi)
   obtain⟨u,g1,g2⟩:=r'.get (i:=i) (x:=.ref ps[i].1) (by rw[List.getElem?_map,List.getElem?_eq_getElem hi];rfl)
   rw[hv'] at g1
   cases g1
   cases g2
   have halt:=Ju f3
   refine⟨ps[i].1,rfl,Nat.ne_of_lt halt,Nat.ne_of_lt (Nat.lt_of_lt_of_eq (Nat.lt_succ_of_lt halt) hsz2.symm),?_⟩
   have:vss.getD i []=vs:=by simp[List.getD,f1]
   rw[this]
   exact ZM f3 fun o e=>kp2 _ _ e
 · rw[hfl,←e3.length];exact hz
 · rcases hT with hT | ⟨hT,c',hl⟩
   · exact absurd hT hn0
   rw[hfl] at hl
   have hge:s.heap.objs.size≤T:=Nat.le_trans (Nat.le_trans (Nat.le_succ _) (Nat.le_of_eq hsz2.symm)) (Nat.le_of_lt hT)
   have kp:∀b o,s.heap.get? b=some o→h'.get? b=some o:=fun b o e=>hk b o (Nat.ne_of_lt (Heap.lt_size e)) (Nat.ne_of_lt (Nat.lt_of_lt_of_eq (Nat.lt_succ_of_lt (Heap.lt_size e)) hsz2.symm)) (kp2 _ _ e)
   exact⟨.ref T,_,I.laid (t':=tk) kp hge (show ObjOk X.prog X.w _ h' _ (.lst (ps.flatMap (·.2))) from⟨hz,vss.flatten,c',e3,hl⟩),rfl,q _ (I.hok.fresh hge)⟩
end
end L2
namespace L2.L3
open PySem PySem.Spec PyProof.Rows
section
variable {K:PySem.W.Frag}
theorem Z2E {dss:List (List D)}(hne:dss≠[])(hz:dss.flatten.length≤sizeLine):CallD K (fun xs H Q=>∃(p l0:Addr) (ps:List (Addr × List V)),xs=[.ref p,.ref l0]∧SqL K H p (ps.map fun q=>.ref q.1)∧(∀q∈ps,SqL K H q.1 q.2)∧SqL K H l0 []∧ps≠[]∧(ps.flatMap (·.2)).length≤sizeLine ∧
 ∀l,H l=none→Q (.ref l) (upd H l (.lst (ps.flatMap (·.2))))) [.lst (dss.map D.lst),.lst []] (.own dss.flatten):=fun G H vs Q s i q=>by
 obtain⟨v,v2,rfl,i1,i2⟩:=IsL.two_of i
 obtain⟨a,xs,rfl,h1,h2⟩:=ZB i1
 obtain⟨a0,xs0,rfl,h3,h4⟩:=ZB i2
 have e0:=h4.len
 have e0':xs0=[]:=List.eq_nil_of_length_eq_zero (by simpa using e0)
 subst e0'
 have parts:∀(dss:List (List D)) (xs:List V),IsL K G (dss.map D.lst) xs→∃ps:List (Addr × List V),xs=ps.map (fun q=>.ref q.1)∧(∀q∈ps,SqL K G q.1 q.2)∧IsL K G dss.flatten (ps.flatMap (·.2))∧ps.length=dss.length:=by
  intro dss
  induction dss with
  | nil=>intro xs z;rw[List.map_nil] at z;unfold IsL at z;subst z;exact⟨[],rfl,fun q hq=>(nomatch hq),IsL.nil,rfl⟩
  | cons d dss ih =>
   intro xs z
   rw[List.map_cons] at z
   unfold IsL at z
   obtain⟨y,r,rfl,z1,z2⟩:=z
   obtain⟨ps,rfl,k2,k3,k4⟩:=ih r z2
   obtain⟨b,ys,rfl,m1,m2⟩:=ZB z1
   refine⟨(b,ys)::ps,rfl,fun q hq=>?_,?_,by simp[k4]⟩
   · rcases List.mem_cons.mp hq with rfl | hq
     · exact m1
     · exact k2 q hq
   · rw[List.flatten_cons,List.flatMap_cons];exact m2.append k3
 obtain⟨ps,rfl,k2,k3,k4⟩:=parts dss xs h2
 have hps:ps≠[]:=fun z=>hne (List.eq_nil_of_length_eq_zero (by rw[←k4,z];rfl))
 exact⟨a,a0,ps,rfl,s.seq h1,fun q hq=>s.seq (k2 q hq),s.seq h3,hps,by rw[k3.len];exact hz,fun l hl=>q _ G _ (Grow.newOwn s hl) ⟨l,_,rfl,Same.dead s hl,hl,upd_same,k3⟩⟩
end
end L2.L3
namespace L2
open PySem PySem.Spec PyProof.Rows
section
variable {X:Cx}
theorem yd {α β:Type}(f:α→β):∀(l:List α) (j:Nat),(l.map f).eraseIdx j=(l.eraseIdx j).map f
 | [],_=>rfl
 | _::_,0=>rfl
 | a::l,j+1=>by rw[List.map_cons,List.eraseIdx_cons_succ,List.eraseIdx_cons_succ,List.map_cons,yd f l j]
end
end L2
namespace L2.L3
open PySem PySem.Spec PyProof.Rows
theorem ja {K:PySem.W.Frag}{G:Hp}:∀ {l:List Int} {xs:List V},IsL K G (l.map D.int) xs→xs=l.map V.int
 | [],xs,h=>by rw[List.map_nil] at h;unfold IsL at h;exact h
 | o::l,xs,h=>by
  rw[List.map_cons] at h
  unfold IsL at h
  obtain⟨y,r,rfl,z1,z2⟩:=h
  rw[ja z2,Z8 z1];rfl
section
variable {X:Cx}{ρ ρ1:Ro}{r:R}{e it:Expr}{ds es:List D}{pos:Pos}{E:XW}{x y:Str}{o:O}{body:List Stmt}{D:Ends}{G0 H0 G1 G':Hp}{σ:St}{H:Hp}
theorem zU (k:Nat){p ap cp:Pos}(h:ρ[k]? = some (.own ds))(he:QE X ρ e (.own es))(hl:ds.length+es.length≤sizeLine)(hN:X.N[k]? = some x:=by rfl)(hv:Vis X.env.scope x:=by first | exact Or.inl rfl | exact Or.inr (Or.inl rfl) | exact Or.inr (Or.inr rfl))
 (hd:(x==("__debug__" : Str))=false:=by decide) (hcd:(x==("__classdict__" : Str))=false:=by decide)
 (hbase:attributeBase (.Name x p) "extend" X.env (eval (.Name x p) X.env)=eval (.Name x p) X.env:=by rfl)
 (hfew:((backTo cp (starEach [e] X.env)).all (fun x=>!x.1)&&(backToKw cp (keywordEach [] X.env)).all (fun x=>x.1.isSome)
  && decide ([e].length+([]:List Keyword).length+(if ([]:List Keyword).isEmpty then 0 else 1)<30))=true:=by rfl)
 (hline:(ap.endLine==cp.line)=true:=by rfl) (hs:starEach [e] X.env=[(false,eval e X.env)]:=by rfl)
 (hsw:swapsWith (.Call (.Attribute (.Name x p) "extend" ap) [e] [] cp) none pos.line X.env=pure false:=by rfl) :
 QS X E ρ (.Expr (.Call (.Attribute (.Name x p) "extend" ap) [e] [] cp) pos) (.nx (ρ.set k (.own (ds++es)))) :=
 Y2 (ps_expr (pe_bm PySem.F.plainAttrs_list PySem.F.slot_list_extend PySem.F.type_list_extend mt_extend (pe_var hN hv hd hcd) (pa_cons he.u pa_nil hs) hbase hfew hline hs rfl) hsw) fun G0 H0 G D σ H c f=>by
  obtain⟨ad,xs,h1,h2,h3,h4,h5⟩:=c.own k ds h
  refine⟨_,h1,.inl ⟨rfl,xs,SqL.of h4⟩,G0,H0,G,c,fun v G1 H1 g1 o1=>?_⟩
  obtain⟨b,zs,rfl,k1,k2,k3,k4⟩:=o1
  refine⟨ad,b,xs,zs,rfl,rfl,g1.same _ _ h4,k3,by rw[h5.len,k4.len];exact hl,f G1 σ _ (g1.gg c.sub) ?_⟩
  exact(c.up g1).write h h1 (IsL.append (Zk (g1.gg c.sub) h5) k4) (g1.same _ _ h4)
end
end L2.L3
set_option maxHeartbeats 4000000
namespace L2.SetW
open PySem PyProof.Rows
end L2.SetW
namespace L2
open PySem PySem.Spec PyProof.Rows
namespace L3
end L3
end L2
namespace L2.L3
open PySem PySem.Spec PyProof.Rows
end L2.L3
namespace L2.SetW
open PySem PyProof.Rows
end L2.SetW
namespace L2
open PySem PySem.Spec PyProof.Rows
namespace L3
end L3
end L2
namespace L2.L3
open PySem PySem.Spec PyProof.Rows
structure IDef (K:PySem.W.Frag)(C:Addr)(qual:Str)(st:Stmt):Prop where
 ex:∃f fd,Fun K "__init__" qual st f fd∧Mk K C f
def isp (K:PySem.W.Frag)(C:Addr)(preI:List D→List Str→List D→Prop):Sp:=fun vs H Q _=>∃x dx vs' H1 ds G ns fds,vs=.ref x::vs'∧H1 x=none∧H1 dx=none∧dx≠x∧H=upd (upd H1 dx (.own x)) x (.ins C dx []) ∧
 preI ds ns fds∧Same G H1∧IsL K G ds vs'∧∀G' H',Grow G H1 G' H'→Is K G' (.obj C ns fds) (.ref x)→Q .non H'
def IW (K:PySem.W.Frag)(G H1:Hp)(x C dx:Addr)(ρ:Ro)(ns:List Str)(fds:List D):St→Hp→Prop:=fun σ H =>
 ∃Gj fs,Grow G H1 Gj H∧Gj x=none∧H x=some (.ins C dx fs)∧fs.map (·.1)=ns∧IsL K Gj fds (fs.map (·.2))∧Al K Gj ρ σ∧σ[0]? = some (some (.ref x))
theorem Z08 {K:PySem.W.Frag}{G G':Hp}(s:Same G G'):∀ {ρ:Ro} {σ:St},Al K G ρ σ→Al K G' ρ σ
 | [],[],_=>trivial
 | [],_::_,h=>h.elim
 | _::_,[],h=>h.elim
 | sl::ρ,o::σ,⟨h1,h2⟩=>⟨by
  cases sl with
  | un=>trivial
  | dat d=>obtain⟨v,e,i⟩:=h1;exact⟨v,e,Zb s i⟩
  | own ds=>exact h1.elim
  | dk ds=>exact h1.elim
  | dt ds=>exact h1.elim,Z08 s h2⟩
theorem JW {K:PySem.W.Frag}{G:Hp}:∀ {ds:List D} {vs:List V} (m:Nat),IsL K G ds vs→Al K G (ds.map Slot.dat++List.replicate m Slot.un) (vs.map some++List.replicate m none)
 | [],vs,m,h=>by
  unfold IsL at h
  subst h
  induction m with
  | zero=>exact trivial
  | succ m ih=>exact⟨trivial,ih⟩
 | d::ds,vs,m,h=>by
  unfold IsL at h
  obtain⟨y,r,rfl,z1,z2⟩:=h
  exact⟨⟨y,rfl,z1⟩,JW m z2⟩
end L2.L3
namespace L2
open PySem PySem.Spec PyProof.Rows
namespace L3
end L3
end L2
namespace L2.L3
open PySem PySem.Spec PyProof.Rows
section
variable {X:Cx}{pins:List (Addr × Obj)}{σ:St}{H:Hp}{s:Shared}
def rInD (K:PySem.W.Frag)(neg:Bool):R2:=fun x y H Q=>∃dx p xs ds,y=.ref p∧SqL K H p xs∧IsL K H ds xs∧Is K H dx x∧dep dx<1000∧depL ds≤30∧Q (.bl (if neg then !inD dx ds else inD dx ds)) H
open Classical in
noncomputable def eqW (K:PySem.W.Frag)(H:Hp)(dx:D)(u:Value):Bool:=decide (∃y d,RelV y u∧Is K H d y∧dep d<1000∧eqD d dx=true)
theorem eqW_of (I:Inv X pins σ H s){dx d:D}{y:V}{u:Value}(r:RelV y u)(i:Is X.K H d y)(hd:dep d<1000):eqW X.K H dx u=eqD d dx:=by
 unfold eqW
 cases h:eqD d dx with
 | true=>exact @decide_eq_true _ (Classical.propDecidable _) ⟨y,d,r,i,hd,h⟩
 | false =>
  refine @decide_eq_false _ (Classical.propDecidable _) ?_
  rintro⟨y',d',r',i',hd',h'⟩
  have:=RelV.inj r' r
  subst this
  rw[Is.inj I hd' hd i' i,h] at h'
  cases h'
theorem eqW_all (I:Inv X pins σ H s){dx:D}{x:V}{v:Value}(rx:RelV x v)(ix:Is X.K H dx x)(hx:dep dx<1000)(A:Around)(hu:A.units+31<cLine):∀ {ds:List D} {xs:List V} {us:List Value},depL ds≤30→IsL X.K H ds xs→Vals xs us→us.any (eqW X.K H dx)=inD dx ds∧∀u∈us,SeqAt.EqAt A s u v (eqW X.K H dx u)
 | [],xs,us,_,il,r=>by unfold IsL at il;subst il;cases r;exact⟨rfl,fun u hu=>by cases hu⟩
 | d::ds,xs,us,hl,il,r=>by
  unfold IsL at il
  unfold depL at hl
  obtain⟨y,ys,rfl,i1,i2⟩:=il
  cases r with
  | cons r1 r2 =>
   have hd:dep d≤30:=by omega
   obtain⟨h1,h2⟩:=eqW_all I rx ix hx A hu (by omega) i2 r2
   have e:=eqW_of I r1 i1 (dx:=dx) (by omega)
   refine⟨?_,?_⟩
   · unfold inD at h1 ⊢;rw[List.any_cons,List.any_cons,h1,e]
   · intro u' hm
     rcases List.mem_cons.mp hm with rfl | hm
     · rw[e];exact jf I 30 (by decide) d hd A dx y x _ v hx i1 ix r1 rx (by omega)
     · exact h2 u' hm
theorem Z3b (hu:X.A.units+64<cLine):OpR X (compareOp .In) (rInD X.K false):=by
 intro pins s σ H x y v u Q I rx ry h
 obtain⟨dx,p,xs,ds,rfl,hq,il,ix,hx,hl,q⟩:=h
 cases ry
 obtain⟨its,r,pl,hz⟩:=I.list hq
 obtain⟨h1,h2⟩:=eqW_all I rx ix hx X.A.in1 (by show X.A.units+1+31<cLine;omega) hl il r
 refine SeqAt.in_listAt (eqW X.K H dx) pl.isList (fun w hw=>h2 w (by simpa using hw)) ⟨.bl _,H,I,rfl,?_⟩
 rw[show its.toArray.any (eqW X.K H dx)=its.any (eqW X.K H dx) by simp,h1]
 exact q
theorem y9 (hu:X.A.units+64<cLine):OpR X (compareOp .NotIn) (rInD X.K true):=by
 intro pins s σ H x y v u Q I rx ry h
 obtain⟨dx,p,xs,ds,rfl,hq,il,ix,hx,hl,q⟩:=h
 cases ry
 obtain⟨its,r,pl,hz⟩:=I.list hq
 obtain⟨h1,h2⟩:=eqW_all I rx ix hx X.A.in1 (by show X.A.units+1+31<cLine;omega) hl il r
 refine SeqAt.notIn_listAt (eqW X.K H dx) pl.isList (fun w hw=>h2 w (by simpa using hw)) ⟨.bl _,H,I,rfl,?_⟩
 rw[show its.toArray.any (eqW X.K H dx)=its.any (eqW X.K H dx) by simp,h1]
 exact q
end
section
variable {K:PySem.W.Frag}{da:D}{ds:List D}
theorem yO (hx:dep da<1000)(hl:dep (.lst ds)≤30)(neg:Bool):OpD K (rInD K neg) da (.lst ds) (.dat (.bl (if neg then !inD da ds else inD da ds))):=fun G H x y Q s g1 g2 q=>by
 obtain⟨a,xs,rfl,k1,k2⟩:=ZB g2
 unfold dep at hl
 exact⟨da,a,xs,ds,rfl,s.seq k1,Zk s k2,Zb s g1,hx,by omega,q _ G H (Grow.refl s) ZF⟩
end
section
variable {X:Cx}{ρ:Ro}{a b c e:Expr}{pos:Pos}
theorem zh {da:D}{ds:List D}(hu:X.A.units+64<cLine)(ha:QE X ρ a (.dat da))(hb:QE X ρ b (.dat (.lst ds)))(hx:dep da<1000)(hl:dep (.lst ds)≤30)(hm:behindInMarks .In b=false:=by rfl):QE X ρ (.Compare a [.In] [b] pos) (.dat (.bl (inD da ds))) :=
 ZV (Z3b hu) (yO hx hl false) ha hb hm
theorem zT {da:D}{ds:List D}(hu:X.A.units+64<cLine)(ha:QE X ρ a (.dat da))(hb:QE X ρ b (.dat (.lst ds)))(hx:dep da<1000)(hl:dep (.lst ds)≤30)(hm:behindInMarks .NotIn b=false:=by rfl):QT X ρ (.Compare a [.NotIn] [b] pos) (!inD da ds) :=
 Zi (y9 hu) (yO hx hl true) ha hb hm
theorem Z2h {bv:Bool}{d1 d2:D}(hc:QT X ρ c bv)(ha:bv=true→QE X ρ a (.dat d1))(hb:bv=false→QE X ρ b (.dat d2)):QE X ρ (.IfExp c a b pos) (.dat (if bv=true then d1 else d2)):=by
 cases bv with
 | true=>exact Z0v hc (ha rfl)
 | false=>exact Z0w hc (hb rfl)
end
end L2.L3
namespace L2
open PySem PySem.Spec PyProof.Rows
namespace L3
section
variable {X:Cx}{ρ:Ro}{elt tg cd a:Expr}{pos p2 cp:Pos}{N:List Str}{scope:Scope}{E:XW}
theorem Z1t {n:Nat}{F:Nat→D}{pp:Nat→Bool}{js:List (Option Nat)}(hl:n≤sizeLine)
 (test:∀i,i<n→∀C fp s H,QTs (X.blk N scope C fp s H) ((rb js ρ).set 0 (.dat (.int (i:Nat)))) [cd] (pp i)) (turn:∀i,i<n→pp i=true→∀C fp s H,QE (X.blk N scope C fp s H) ((rb js ρ).set 0 (.dat (.int (i:Nat)))) elt (.dat (F i))) :
 ∀(i:Nat),i<n→LcT X N scope ((rb js ρ).set 0 (.dat (.int i))) [cd] elt (((List.range i).filter pp).map F) (((List.range (i+1)).filter pp).map F):=fun i hi=>by
 have e:(List.range (i+1)).filter pp=(List.range i).filter pp++if pp i=true then [i] else []:=by rw[List.range_succ,List.filter_append];congr 1;simp[List.filter_cons]
 cases hp:pp i with
 | true =>
  refine .inl ⟨.dat (F i),fun C fp s H=>?_,turn i hi hp,?_,?_⟩
  · have:=test i hi C fp s H
    rwa [hp] at this
  · rw[e,if_pos hp,List.map_append];rfl
  · rw[List.length_map]
    exact Nat.lt_of_le_of_lt (List.length_filter_le _ _) (by rw[List.length_range];omega)
 | false =>
  refine .inr ⟨fun C fp s H=>?_,?_⟩
  · have:=test i hi C fp s H
    rwa [hp] at this
  · rw[e,if_neg (by rw[hp];decide),List.append_nil]
end
end L3
namespace L3
end L3
end L2
namespace L2.L3
open PySem PySem.Spec PyProof.Rows
section
variable {X:Cx}{P P':St→Hp→Prop}{e it tg:Expr}{bl body:List Stmt}{ks:List (List Stmt)}{D:Ends}{pos:Pos}{x:Str}
theorem Z21 {te:TE}(h:PE X e te)(hP:∀σ H,P σ H→te σ H D.rt):RK X P ((.Return (some e) pos::bl)::ks) D :=
 ⟨fun σ H hp pins s I=>pss_cons (ps_ret h) Z9 pins s σ H _ I (hP σ H hp)⟩
end
end L2.L3
namespace L2.SetG
open PySem PyProof.Rows L2.SetW
end L2.SetG
namespace L2
open PySem PySem.Spec PyProof.Rows
namespace L3
section
variable {X:Cx}{P P':St→Hp→Prop}{ρ:Ro}{r:R}{e c:Expr}{body bl:List Stmt}{ks:List (List Stmt)}{D:Ends}{pos:Pos}{x:Str}
theorem Z16 (k:Nat)(Iv:Nat→St→Hp→Prop)(bv:Nat→Bool)(ρs:Nat→Ro)(h0:∀σ H,P σ H→Iv 0 σ H)(al:∀i σ H,i≤k→Iv i σ H→Al X.K H (ρs i) σ)(mono:∀i σ H H',Iv i σ H→Same H H'→Iv i σ H')(test:∀i,i≤k→QT X (ρs i) c (bv i))
 (turn:∀i,i≤k→bv i=true→∀(D':Ends),D'.rt=D.rt→(∀σ H,i<k→Iv (i+1) σ H→D'.nx σ H)→RK X (Iv i) [body] D')
 (h2:∀i,i≤k→bv i=false→RK X (Iv i) (bl::ks) D) (hp:PassesOwn (model X.prog X.w) X.A X.env X.xe):RK X P ((.While c body [] pos::bl)::ks) D :=
 ⟨fun σ H h pins s I=>by
  refine pss_cons (ps_while hp jF Z9) Z9 pins s σ H _ I ?_
  refine⟨fun m σ' H'=>∃i,i≤k∧m=k-i∧Iv i σ' H',⟨k,0,Nat.zero_le _,rfl,h0 σ H h⟩,?_⟩
  rintro m σ' H' ⟨i,hi,rfl,iv⟩ pins sh I
  refine(test i hi).u pins sh σ' H' _ I ⟨H',H',H',(al i σ' H' hi iv).snap,fun G2 H2 g2=>?_⟩
  have iv2:=mono i σ' H' H2 iv g2.same
  cases hb:bv i with
  | false=>exact iteF ((h2 i hi hb).u σ' H2 iv2)
  | true =>
   refine iteT ⟨fun σ3 H3=>i<k∧Iv (i+1) σ3 H3,fun σ3 H3 ⟨hl,q⟩=>⟨k-(i+1),by omega,i+1,hl,rfl,q⟩,?_⟩
   refine RK.ws (turn i hi hb _ ?_ ?_) iv2
   · rfl
   · exact fun σ H hl q=>⟨hl,q⟩⟩
end
end L3
namespace L3
end L3
end L2
namespace L2.Tim
open PySem PyProof.Rows
abbrev Kv:=Keyed→Int
def kA (kv:Kv)(xs:Array Keyed)(i:Nat):Int:=match xs[i]? with
 | some p=>kv p
 | none=>0
def RiseA (kv:Kv)(xs:Array Keyed)(lo hi:Nat):Prop:=∀i j,lo≤i→i≤j→j<hi→kA kv xs i≤kA kv xs j
theorem kA_get {kv:Kv}{xs:Array Keyed}{i:Nat}(hi:i<xs.size):kA kv xs i=kv xs[i]:=by
 unfold kA;rw[getElem?_pos xs i hi]
variable {kv:Kv}{a b o:Array Keyed}{ia ib:Nat}
variable {na nb:Nat}
structure Cmp (prog:Program)(w:World)(A:Around)(E:Value→Shared→Prop)(s:Shared)(kd:SortKind)(kv:Kv)(P:Keyed→Prop):Prop where
 lt:∀x y (st:SortSt) (Q:Option Bool→SortSt→Prop),P x→P y→kindOf st=kd→Q (some (decide (kv x<kv y))) st→wpS (model prog w) A E s (lt' x y) Q st
theorem jO {kv:Kv}{xs:Array Keyed}{i:Nat}{p:Keyed}(h:xs[i]? = some p):kA kv xs i=kv p:=by unfold kA;rw[h]
section
variable {prog:Program}{w:World}{A:Around}{E:Value→Shared→Prop}{s:Shared}{kd:SortKind}{kv:Kv}{P:Keyed→Prop}
theorem Z0W {arr:Array Keyed}{i:Nat}{p:Keyed}{st:SortSt}{Q:Keyed→SortSt→Prop}(h:arr[i]? = some p)(hQ:Q p st):wpS (model prog w) A E s (elem' arr i) Q st:=by
 rw[elem'_eq,h];exact wpS_pure hQ
theorem Z3L (C:Cmp prog w A E s kd kv P){x y:Keyed}{st:SortSt}{Q:Option Bool→SortSt→Prop}(hk:kindOf st=kd)(hx:P x)(hy:P y)
 (h:Q (some (decide (kv x<kv y))) st):wpS (model prog w) A E s (lt' x y) Q st:=C.lt x y st Q hx hy hk h
theorem jc {xs:Array Keyed}{i:Nat}(h:i<xs.size):∃p,xs[i]? = some p:=⟨xs[i],getElem?_pos xs i h⟩
end
section
variable {prog:Program}{w:World}{A:Around}{E:Value→Shared→Prop}{s:Shared}{kd:SortKind}{kv:Kv}{P:Keyed→Prop}
theorem Yw {xs ys:Array Keyed}{i j:Nat}(h:xs[i]? = ys[j]?):kA kv xs i=kA kv ys j:=by unfold kA;rw[h]
end
def countRunS:Nat→Nat→StateT SortSt Sem (Option Nat):=sortPriv% PySem.Builtin.countRun
def binarySortS:Nat→Nat→Nat→StateT SortSt Sem Bool:=sortPriv% PySem.Builtin.binarySort
section
variable {prog : Program} {w : World} {A : Around} {E : Value → Shared → Prop} {s : Shared} {kd : SortKind} {kv : Kv} {P : Keyed → Prop}
structure Loc (kv : Kv) (st st' : SortSt) (lo hi : Nat) : Prop where
 kind : kindOf st' = kindOf st
 failed : failedOf st' = failedOf st
 pend : pendingOf st' = pendingOf st
 perm : (arrOf st').toList.Perm (arrOf st).toList
 out : ∀ t, (t < lo ∨ hi ≤ t) → kA kv (arrOf st') t = kA kv (arrOf st) t
theorem Loc.refl (st:SortSt)(lo hi:Nat):Loc kv st st lo hi:=⟨rfl,rfl,rfl,List.Perm.refl _,fun _ _=>rfl⟩
theorem Loc.trans {a b c:SortSt}{lo hi:Nat}(h:Loc kv a b lo hi)(k:Loc kv b c lo hi):Loc kv a c lo hi :=
 ⟨k.kind.trans h.kind,k.failed.trans h.failed,k.pend.trans h.pend,k.perm.trans h.perm,fun t ht=>(k.out t ht).trans (h.out t ht)⟩
theorem Loc.size {a b:SortSt}{lo hi:Nat}(h:Loc kv a b lo hi):(arrOf b).size=(arrOf a).size:=by
 have:=h.perm.length_eq
 rwa [Array.length_toList,Array.length_toList] at this
abbrev AllP (P:Keyed→Prop)(xs:Array Keyed):Prop:=∀p∈xs.toList,P p
theorem AllP.at {xs:Array Keyed}(h:AllP P xs):∀(i:Nat) p,xs[i]? = some p→P p:=fun i p hp=>h p (by rw[Array.mem_toList_iff];exact Array.mem_of_getElem? hp)
theorem AllP.perm {xs ys:Array Keyed}(h:AllP P xs)(hp:ys.toList.Perm xs.toList):AllP P ys:=fun p hm=>h p (hp.mem_iff.mp hm)
theorem YM (C:Cmp prog w A E s kd kv P){i j:Nat}{st:SortSt}{Q:Option Bool→SortSt→Prop}(hk:kindOf st=kd)(hP:AllP P (arrOf st))
 (hi:i<(arrOf st).size) (hj:j<(arrOf st).size) (h:Q (some (decide (kA kv (arrOf st) i<kA kv (arrOf st) j))) st):wpS (model prog w) A E s (ltAt' i j) Q st:=by
 rw[ltAt'_eq]
 obtain⟨p,hp⟩:=jc hi
 obtain⟨q,hq⟩:=jc hj
 rw[jO hp,jO hq] at h
 exact wpS_bind (wpS_get (wpS_bind (Z0W hp (wpS_bind (Z0W hq (Z3L C hk (hP.at _ _ hp) (hP.at _ _ hq) h))))))
theorem Jt {xs:Array Keyed}{src d:Nat}(hs:src<xs.size)(hd:d≤src)(k:Nat) :
 kA kv (bubble xs src d) k=if k=src-d then kA kv xs src else if src-d<k∧k≤src then kA kv xs (k-1) else kA kv xs k:=by
 have e:=getElem?_bubble hs d hd k
 by_cases h1:k=src-d
 · rw[if_pos h1] at e ⊢;exact Yw e
 · rw[if_neg h1] at e ⊢
   by_cases h2:src-d<k∧k≤src
   · rw[if_pos h2] at e ⊢;exact Yw e
   · rw[if_neg h2] at e ⊢;exact Yw e
theorem YE {xs:Array Keyed}{i j:Nat}(hj:j≤xs.size)(k:Nat) :
 kA kv (mirror xs i j ((j-i) / 2)) k=if i≤k∧k<j then kA kv xs (i+j-1-k) else kA kv xs k:=by
 have e:=getElem?_mirror_all (i:=i) hj k
 by_cases h1:i≤k∧k<j
 · rw[if_pos h1] at e ⊢;exact Yw e
 · rw[if_neg h1] at e ⊢;exact Yw e
theorem Yf {xs:Array Keyed}{i j:Nat}(hj:j≤xs.size)(heq:∀k,i≤k→k<j→kA kv xs k=kA kv xs (j-1))(k:Nat) :
 kA kv (mirror xs i j ((j-i) / 2)) k=kA kv xs k:=by
 rw[YE hj]
 split
 · rw[heq _ (by omega) (by omega),heq k (by omega) (by omega)]
 · rfl
theorem jk (C:Cmp prog w A E s kd kv P){lo n ok:Nat}{st:SortSt}{Q:Bool→SortSt→Prop}(hk:kindOf st=kd)(hP:AllP P (arrOf st))(hn:lo+n≤(arrOf st).size)(hok:ok≤n)
 (hs:RiseA kv (arrOf st) lo (lo+ok)) (h:∀st',Loc kv st st' lo (lo+n)→RiseA kv (arrOf st') lo (lo+n)→Q true st'):wpS (model prog w) A E s (binarySortS lo n ok) Q st:=by
 unfold binarySortS
 refine wpS_bind (wpS_mono (wpS_forRange (I:=fun k c st'=>c.1=none∧Loc kv st st' lo (lo+n)∧RiseA kv (arrOf st') lo (lo+min k n))
  (Q:=fun c st'=>c.1=none∧Loc kv st st' lo (lo+n)∧RiseA kv (arrOf st') lo (lo+n)) ?step ?fin ?init) ?post)
 case post =>
  rintro⟨c,u⟩ st' ⟨e,hB',hs'⟩
  dsimp only at e
  subst e
  exact wpS_pure (h st' hB' hs')
 case init =>
  refine⟨rfl,Loc.refl _ _ _,fun i j h1 h2 h3=>?_⟩
  by_cases z:ok=0
  · have:i=j:=by omega
    subst this;exact Int.le_refl _
  · exact hs i j h1 h2 (by omega)
 case fin =>
  rintro c st' ⟨hc,hB',hs'⟩
  refine⟨hc,hB',?_⟩
  rwa [show min (max (max ok 1) n) n=n by omega] at hs'
 case step =>
  rintro k ⟨c,u⟩ st' hak hkn ⟨e,hB',hs'⟩
  dsimp only at e
  subst e
  rw[show min k n=k by omega] at hs'
  have hks:lo+k<(arrOf st').size:=by rw[hB'.size];omega
  have hkk:kindOf st'=kd:=hB'.kind.trans hk
  have hPP:=hP.perm hB'.perm
  refine wpS_bind (wpS_mono (wpS_forRange (I:=fun x c st''=>st''=st'∧c.1=none∧c.2.1≤c.2.2∧c.2.2≤k∧c.2.2-c.2.1≤k-x ∧
   (∀i,i<c.2.1→kA kv (arrOf st') (lo+i)≤kA kv (arrOf st') (lo+k))∧(∀i,c.2.2≤i→i<k→kA kv (arrOf st') (lo+k)<kA kv (arrOf st') (lo+i)))
   (Q:=fun c st''=>st''=st'∧c.1=none∧c.2.1≤k ∧
    (∀i,i<c.2.1→kA kv (arrOf st') (lo+i)≤kA kv (arrOf st') (lo+k))∧(∀i,c.2.1≤i→i<k→kA kv (arrOf st') (lo+k)<kA kv (arrOf st') (lo+i))) ?istep ?ifin ?iinit) ?ipost)
  case iinit=>exact⟨rfl,rfl,by dsimp only;omega,by dsimp only;omega,by dsimp only;omega,fun i hi=>by dsimp only at hi;omega,fun i h1 h2=>by dsimp only at h1;omega⟩
  case ifin =>
   rintro⟨c,l,r⟩ st'' ⟨rfl,rfl',hlr,hrk,hm,hlo,hhi⟩
   dsimp only at *
   have:l=r:=by omega
   subst this
   exact⟨rfl,rfl',hrk,hlo,hhi⟩
  case istep =>
   rintro x ⟨c,l,r⟩ st'' _ hxk ⟨rfl,rfl',hlr,hrk,hm,hlo,hhi⟩
   dsimp only at *
   subst rfl'
   by_cases hge:l≥r
   · rw[if_pos hge]
     have:l=r:=by omega
     subst this
     exact wpS_pure ⟨rfl,rfl,hrk,hlo,hhi⟩
   · rw[if_neg hge]
     refine wpS_bind (YM C hkk hPP hks (by omega) ?_)
     dsimp only
     by_cases hless:kA kv (arrOf st'') (lo+k)<kA kv (arrOf st'') (lo+(l+r) / 2)
     · rw[if_pos (by simpa using hless)]
       refine wpS_pure ⟨rfl,rfl,by dsimp only;omega,by dsimp only;omega,by dsimp only;omega,hlo,fun i h1 h2=>?_⟩
       dsimp only at h1
       exact Int.lt_of_lt_of_le hless (hs' _ _ (by omega) (by omega) (by omega))
     · rw[if_neg (by simpa using hless)]
       refine wpS_pure ⟨rfl,rfl,by dsimp only;omega,by dsimp only;omega,by dsimp only;omega,fun i h1=>?_,hhi⟩
       dsimp only at h1
       exact Int.le_trans (hs' (lo+i) (lo+(l+r) / 2) (by omega) (by omega) (by omega)) (Int.not_lt.mp hless)
  case ipost =>
   rintro⟨c,l,r⟩ st'' ⟨rfl,rfl',hlk,hlo,hhi⟩
   dsimp only at *
   subst rfl'
   show wpS _ _ _ _ (do moveDown' (lo+k) (lo+l);pure (ForInStep.yield (none,()))) _ _
   rw[moveDown'_eq]
   refine wpS_bind (wpS_modify (wpS_pure ⟨rfl,hB'.trans ⟨rfl,rfl,rfl,Array.perm_iff_toList_perm.mp (bubble_perm _ _ _),fun t ht=>?_⟩,?_⟩))
   · show kA kv (bubble (arrOf st'') (lo+k) (lo+k-(lo+l))) t=kA kv (arrOf st'') t
     rw[Jt hks (by omega),if_neg (by omega),if_neg (by omega)]
   · rw[show min (k+1) n=k+1 by omega]
     intro i j h0 hij hj
     show kA kv (bubble (arrOf st'') (lo+k) (lo+k-(lo+l))) i≤kA kv (bubble (arrOf st'') (lo+k) (lo+k-(lo+l))) j
     have lo':∀t,lo≤t→t<lo+l→kA kv (arrOf st'') t≤kA kv (arrOf st'') (lo+k):=fun t h1 h2=>by
      have:=hlo (t-lo) (by omega)
      rwa [show lo+(t-lo)=t by omega] at this
     have hi':∀t,lo+l≤t→t<lo+k→kA kv (arrOf st'') (lo+k)<kA kv (arrOf st'') t:=fun t h1 h2=>by
      have:=hhi (t-lo) (by omega) (by omega)
      rwa [show lo+(t-lo)=t by omega] at this
     rw[Jt hks (by omega),Jt hks (by omega),show lo+k-(lo+k-(lo+l))=lo+l by omega]
     repeat' split
     all_goals first
      | (exfalso;omega)
      | exact Int.le_refl _
      | exact lo' _ (by omega) (by omega)
      | exact Int.le_of_lt (hi' _ (by omega) (by omega))
      | exact hs' _ _ (by omega) (by omega) (by omega)
def FallA (kv:Kv)(xs:Array Keyed)(lo hi:Nat):Prop:=∀i j,lo≤i→i≤j→j<hi→kA kv xs j≤kA kv xs i
theorem via {m:StateT SortSt Sem (Option Nat)}{Q:Option Nat→SortSt→Prop}{G:Prop}(I:SortSt→Prop)(main:(∀st',I st'→wpS (model prog w) A E s m Q st')→G)(hd:∀st',I st'→wpS (model prog w) A E s m Q st'):G:=main hd
theorem yo {st:SortSt}{i j:Nat}{Q:Unit→SortSt→Prop}(h:Q () (setArr st (mirror (arrOf st) i j ((j-i) / 2)))) :
 wpS (model prog w) A E s (reverseSlice' i j) Q st:=by
 rw[reverseSlice'_eq];exact wpS_modify h
theorem JB {st:SortSt}{i j lo hi:Nat}(hj:j≤(arrOf st).size)(h1:lo≤i)(h2:j≤hi):Loc kv st (setArr st (mirror (arrOf st) i j ((j-i) / 2))) lo hi :=
 ⟨rfl,rfl,rfl,Array.perm_iff_toList_perm.mp (mirror_perm _ _ _ _),fun t ht=>by
  show kA kv (mirror _ _ _ _) t=_
  rw[YE hj,if_neg (by omega)]⟩
theorem Z05 (C:Cmp prog w A E s kd kv P){lo nrem:Nat}{st:SortSt}{Q:Option Nat→SortSt→Prop}(hk:kindOf st=kd)(hP:AllP P (arrOf st))(hn:lo+nrem≤(arrOf st).size)(h1:1≤nrem)
 (h:∀m st',Loc kv st st' lo (lo+nrem)→1≤m→m≤nrem→RiseA kv (arrOf st') lo (lo+m)→Q (some m) st'):wpS (model prog w) A E s (countRunS lo nrem) Q st:=by
 unfold countRunS
 refine wpS_bind (wpS_mono (wpS_forRange (I:=fun x c st'=>st'=st∧c.1=none∧c.2=x∧RiseA kv (arrOf st) lo (lo+x))
  (Q:=fun c st'=>st'=st∧c.1=none∧1≤c.2∧c.2≤nrem∧RiseA kv (arrOf st) lo (lo+c.2)∧(c.2=nrem∨kA kv (arrOf st) (lo+c.2)<kA kv (arrOf st) (lo+c.2-1))) ?_ ?_ ⟨rfl,rfl,rfl,fun i j a b c=>?_⟩) ?_)
 · rintro x ⟨c,n⟩ st' hx1 hx2 ⟨rfl,e1,e2,hr⟩
   dsimp only at *
   subst e1 e2
   refine wpS_bind (YM C hk hP (by omega) (by omega) ?_)
   dsimp only
   by_cases hl:kA kv (arrOf st') (lo+n)<kA kv (arrOf st') (lo+n-1)
   · rw[if_pos (by simpa using hl)]
     exact wpS_pure ⟨rfl,rfl,hx1,by dsimp only;omega,hr,.inr hl⟩
   · rw[if_neg (by simpa using hl)]
     refine wpS_pure ⟨rfl,rfl,rfl,fun i j a b c=>?_⟩
     by_cases hj:j<lo+n
     · exact hr i j a b hj
     · have:j=lo+n:=by omega
       subst this
       by_cases hi:i=lo+n
       · subst hi;exact Int.le_refl _
       · exact Int.le_trans (hr i (lo+n-1) a (by omega) (by omega)) (Int.not_lt.mp hl)
 · rintro⟨c,n⟩ st' ⟨rfl,e1,e2,hr⟩
   dsimp only at *
   subst e2
   rw[show max 1 nrem=nrem by omega] at hr
   exact⟨rfl,e1,by omega,by omega,by rwa [show max 1 nrem=nrem by omega],.inl (by omega)⟩
 · have:i=j:=by omega
   subst this;exact Int.le_refl _
 rintro⟨c,n⟩ st' ⟨rfl,e1,n1,n2,hr,hor⟩
 dsimp only at *
 subst e1
 dsimp only
 by_cases hnn:n=nrem
 · rw[if_pos (by simpa using hnn)]
   exact wpS_pure (h n _ (Loc.refl _ _ _) n1 n2 hr)
 rw[if_neg (by simpa using hnn)]
 have hlt:=hor.resolve_left hnn
 apply via (fun stX=>Loc kv st' stX lo (lo+nrem)∧FallA kv (arrOf stX) lo (lo+(n+1)))
 · intro hd
   by_cases hgt:n>1
   · rw[if_pos hgt]
     refine wpS_bind (YM C hk hP (by omega) (by omega) ?_)
     dsimp only
     by_cases hrose:kA kv (arrOf st') lo<kA kv (arrOf st') (lo+n-1)
     · rw[if_pos (by simpa using hrose)]
       exact wpS_pure (h n _ (Loc.refl _ _ _) n1 n2 hr)
     rw[if_neg (by simpa using hrose)]
     have hall:∀k,lo≤k→k<lo+n→kA kv (arrOf st') k=kA kv (arrOf st') (lo+n-1):=fun k z1 z2=>by
      have a1:=hr lo k (by omega) z1 z2
      have a2:=hr k (lo+n-1) z1 (by omega) (by omega)
      omega
     have hme:=Yf (kv:=kv) (xs:=arrOf st') (i:=lo) (j:=lo+n) (by omega) hall
     refine wpS_bind (yo (hd _ ⟨JB (by omega) (by omega) (by omega),fun i j z1 z2 z3=>?_⟩))
     show kA kv (mirror (arrOf st') _ _ _) j≤kA kv (mirror (arrOf st') _ _ _) i
     rw[hme,hme]
     by_cases hj:j<lo+n
     · rw[hall i z1 (by omega),hall j (by omega) hj];exact Int.le_refl _
     · have ej:j=lo+n:=by omega
       subst ej
       by_cases hi:i=lo+n
       · subst hi;exact Int.le_refl _
       · rw[hall i z1 (by omega)];exact Int.le_of_lt hlt
   · rw[if_neg hgt]
     have en:n=1:=by omega
     subst en
     refine hd _ ⟨Loc.refl _ _ _,fun i j z1 z2 z3=>?_⟩
     by_cases hij:i=j
     · subst hij;exact Int.le_refl _
     · have ei:i=lo:=by omega
       have ej:j=lo+1:=by omega
       subst ei ej
       exact Int.le_of_lt hlt
 rintro st1 ⟨hL,hF⟩
 refine wpS_bind (wpS_lift (wpAny_rule ⟨rfl,?_⟩))
 refine wpS_bind (wpS_mono (wpS_forRange (I:=fun x c st2=>c.1=none∧c.2.1=x∧Loc kv st' st2 lo (lo+nrem)∧FallA kv (arrOf st2) lo (lo+x)∧c.2.2+1≤x ∧
  (∀i,lo+x-(c.2.2+1)≤i→i<lo+x→kA kv (arrOf st2) i=kA kv (arrOf st2) (lo+x-1)))
  (Q:=fun c st2=>c.1=none∧1≤c.2.1∧c.2.1≤nrem∧Loc kv st' st2 lo (lo+nrem)∧FallA kv (arrOf st2) lo (lo+c.2.1)∧c.2.2+1≤c.2.1 ∧
   (∀i,lo+c.2.1-(c.2.2+1)≤i→i<lo+c.2.1→kA kv (arrOf st2) i=kA kv (arrOf st2) (lo+c.2.1-1))) ?_ ?_
   ⟨rfl,rfl,hL,hF,by dsimp only;omega,fun i a b=>by dsimp only at a;congr 1;omega⟩) ?_)
 · rintro x ⟨c,m,neq⟩ st2 hx1 hx2 ⟨e1,e2,hL2,hF2,hq,heq⟩
   dsimp only at *
   subst e1 e2
   have hkk:kindOf st2=kd:=hL2.kind.trans hk
   have hPP:=hP.perm hL2.perm
   have hz:=hL2.size
   refine wpS_bind (YM C hkk hPP (by omega) (by omega) ?_)
   dsimp only
   by_cases hl:kA kv (arrOf st2) (lo+m)<kA kv (arrOf st2) (lo+m-1)
   · rw[if_pos (by simpa using hl)]
     have step1:∀xs:Array Keyed,(∀k,kA kv xs k=kA kv (arrOf st2) k)→FallA kv xs lo (lo+(m+1)):=by
      intro xs hk' i j z1 z2 z3
      rw[hk',hk']
      by_cases hj:j<lo+m
      · exact hF2 i j z1 z2 hj
      · have ej:j=lo+m:=by omega
        subst ej
        by_cases hi:i=lo+m
        · subst hi;exact Int.le_refl _
        · exact Int.le_trans (Int.le_of_lt hl) (hF2 i (lo+m-1) z1 (by omega) (by omega))
     by_cases hneq:neq>0
     · rw[if_pos hneq]
       refine wpS_bind (yo (wpS_pure ⟨rfl,rfl,hL2.trans (JB (by omega) (by omega) (by omega)),step1 _ ?_,by dsimp only;omega,fun i a b=>by dsimp only at a;congr 1;omega⟩))
       exact Yf (by omega) heq
     · rw[if_neg hneq]
       exact wpS_pure ⟨rfl,rfl,hL2,step1 _ (fun _=>rfl),by dsimp only;omega,fun i a b=>by dsimp only at a;congr 1;omega⟩
   · rw[if_neg (by simpa using hl)]
     refine wpS_bind (YM C hkk hPP (by omega) (by omega) ?_)
     dsimp only
     by_cases hg:kA kv (arrOf st2) (lo+m-1)<kA kv (arrOf st2) (lo+m)
     · rw[if_pos (by simpa using hg)]
       exact wpS_pure ⟨rfl,by dsimp only;omega,by dsimp only;omega,hL2,hF2,hq,heq⟩
     · rw[if_neg (by simpa using hg)]
       have heqx:kA kv (arrOf st2) (lo+m)=kA kv (arrOf st2) (lo+m-1):=by omega
       refine wpS_pure ⟨rfl,rfl,hL2,fun i j z1 z2 z3=>?_,by dsimp only;omega,fun i a b=>?_⟩
       · by_cases hj:j<lo+m
         · exact hF2 i j z1 z2 hj
         · have ej:j=lo+m:=by omega
           subst ej
           by_cases hi:i=lo+m
           · subst hi;exact Int.le_refl _
           · rw[heqx];exact hF2 i (lo+m-1) z1 (by omega) (by omega)
       · dsimp only at a
         rw[show lo+(m+1)-1=lo+m by omega]
         by_cases hi:i=lo+m
         · subst hi;rfl
         · rw[heqx];exact heq i (by omega) (by omega)
 · rintro⟨c,m,neq⟩ st2 ⟨e1,e2,hL2,hF2,hq,heq⟩
   dsimp only at *
   have e3:max (n+1) nrem=nrem:=by omega
   rw[e3] at e2 hF2 hq heq
   subst e2
   exact⟨e1,h1,Nat.le_refl _,hL2,hF2,hq,heq⟩
 rintro⟨c,m,neq⟩ st2 ⟨e1,m1,m2,hL2,hF2,hq,heq⟩
 dsimp only at *
 subst e1
 dsimp only
 apply via (fun stX=>Loc kv st' stX lo (lo+nrem)∧FallA kv (arrOf stX) lo (lo+m))
 · intro hd
   by_cases hneq:neq>0
   · rw[if_pos hneq]
     have hz:=hL2.size
     have hme:=Yf (kv:=kv) (xs:=arrOf st2) (i:=lo+m-(neq+1)) (j:=lo+m) (by omega) heq
     refine wpS_bind (yo (hd _ ⟨hL2.trans (JB (by omega) (by omega) (by omega)),fun i j z1 z2 z3=>?_⟩))
     show kA kv (mirror (arrOf st2) _ _ _) j≤kA kv (mirror (arrOf st2) _ _ _) i
     rw[hme,hme]
     exact hF2 i j z1 z2 z3
   · rw[if_neg hneq]
     exact hd _ ⟨hL2,hF2⟩
 rintro st3 ⟨hL3,hF3⟩
 have hz:=hL3.size
 have hL4:Loc kv st' (setArr st3 (mirror (arrOf st3) lo (lo+m) ((lo+m-lo) / 2))) lo (lo+nrem):=hL3.trans (JB (by omega) (by omega) (by omega))
 refine wpS_bind (yo ?_)
 have hr4:RiseA kv (mirror (arrOf st3) lo (lo+m) ((lo+m-lo) / 2)) lo (lo+m):=fun i j z1 z2 z3=>by
  rw[YE (by omega),YE (by omega),if_pos (by omega),if_pos (by omega)]
  exact hF3 _ _ (by omega) (by omega) (by omega)
 generalize hst4:setArr st3 (mirror (arrOf st3) lo (lo+m) ((lo+m-lo) / 2))=st4 at hL4
 have ha4:arrOf st4=mirror (arrOf st3) lo (lo+m) ((lo+m-lo) / 2):=by rw[←hst4]
 rw[←ha4] at hr4
 have hk4:kindOf st4=kd:=hL4.kind.trans hk
 have hP4:=hP.perm hL4.perm
 have hz4:=hL4.size
 refine wpS_bind (wpS_mono (wpS_forRange (I:=fun x c st'=>st'=st4∧c.1=none∧c.2=x∧RiseA kv (arrOf st4) lo (lo+x))
  (Q:=fun c st'=>st'=st4∧c.1=none∧1≤c.2∧c.2≤nrem∧RiseA kv (arrOf st4) lo (lo+c.2)) ?_ ?_ ⟨rfl,rfl,rfl,hr4⟩) ?_)
 · rintro x ⟨c,n⟩ st5 hx1 hx2 ⟨rfl,e1,e2,hr⟩
   dsimp only at *
   subst e1 e2
   refine wpS_bind (YM C hk4 hP4 (by omega) (by omega) ?_)
   dsimp only
   by_cases hl:kA kv (arrOf st5) (lo+n)<kA kv (arrOf st5) (lo+n-1)
   · rw[if_pos (by simpa using hl)]
     exact wpS_pure ⟨rfl,rfl,by dsimp only;omega,by dsimp only;omega,hr⟩
   · rw[if_neg (by simpa using hl)]
     refine wpS_pure ⟨rfl,rfl,rfl,fun i j a b c=>?_⟩
     by_cases hj:j<lo+n
     · exact hr i j a b hj
     · have:j=lo+n:=by omega
       subst this
       by_cases hi:i=lo+n
       · subst hi;exact Int.le_refl _
       · exact Int.le_trans (hr i (lo+n-1) a (by omega) (by omega)) (Int.not_lt.mp hl)
 · rintro⟨c,n⟩ st5 ⟨rfl,e1,e2,hr⟩
   dsimp only at *
   subst e2
   rw[show max m nrem=nrem by omega] at hr
   exact⟨rfl,e1,by omega,by omega,by rwa [show max m nrem=nrem by omega]⟩
 · rintro⟨c,n⟩ st5 ⟨rfl,e1,n1,n2,hr⟩
   dsimp only at *
   subst e1
   exact wpS_pure (h n _ hL4 n1 n2 hr)
end
structure Ord (prog:Program)(w:World)(h:Heap)(vs:List Value)(kd:SortKind)(kv:Kv)(P:Keyed→Prop):Prop where
 kk:∀(A:Around) (E:Value→Shared→Prop) (s:Shared) (Q:SortKind→Shared→Prop),(∀b o,h.get? b=some o→s.heap.get? b=some o)→2≤vs.length→Q kd s→wpAny (model prog w) A (keyKind' vs.toArray) Q E s
 cmp:∀(A:Around) (E:Value→Shared→Prop) (s:Shared),(∀b o,h.get? b=some o→s.heap.get? b=some o)→Cmp prog w A E s kd kv P
 all:∀v∈vs,P (v,v)
def kvI:Kv:=fun p=>numOf p.1
theorem Z03 {prog:Program}{w:World}{A:Around}{E:Value→Shared→Prop}{s:Shared}{kv:Kv}{P:Keyed→Prop}
 (hO:∀x y (Q:Bool→Shared→Prop) (E':Value→Shared→Prop),P x→P y→Q (decide (kv x<kv y)) s→wpAny (model prog w) A (oneLt' true x.1 y.1) Q E' s):Cmp prog w A E s oneType' kv P :=
 ⟨fun x y st Q hx hy hk h=>by
  rw[lt'_eq]
  refine wpS_bind (wpS_get ?_)
  rw[hk,keyLt'_oneType]
  refine wpS_bind (wpS_lift (wpAny_attempt (hO x y _ _ hx hy ⟨rfl,?_⟩)))
  exact wpS_pure h⟩
theorem ord_ints {prog:Program}{w:World}{h:Heap}{vs:List Value}{ns:List Int}(hi:IntsAre vs ns):Ord prog w h vs oneType' kvI (fun p=>∃n t,p.1=.int n t):=by
 refine⟨fun A E s Q _ h2 hQ=>?_,fun A E s _=>Z03 fun x y Q E' ⟨a,t,ea⟩ ⟨b,u,eb⟩ hQ=>?_,fun v hv=>hi.all v hv⟩
 · match vs,h2,hi with
   | v1::v2::rest,_,hi=>rw[keyKind_ints hi];exact wpAny_pure hQ
 · unfold kvI at hQ
   rw[ea,eb] at hQ ⊢
   exact oneLt_int hQ
theorem ym (b:Bool)(x y:Value):keyLt' (tuples' b) x y=(do
 let xs ←Builtin.List.listItems x;let ys ←Builtin.List.listItems y
 for ((p,q),i) in (xs.toList.zip ys.toList).zipIdx do
  if !(←eqBool p q) then return ←oneLt' (b&&i==0) p q
 return xs.size<ys.size):=rfl
theorem JT (v:Value):firstOfTuple' v=(do
 if (←typeOf v) != .type "tuple" then return none
 return (←Builtin.List.listItems v)[0]?):=rfl
section
variable {prog:Program}{w:World}{A:Around}{E:Value→Shared→Prop}{s:Shared}
theorem yj {o:Bool}{a b:Int}{t u:Tok}{Q:Bool→Shared→Prop}(h:Q (decide (a<b)) s):wpAny (model prog w) A (oneLt' o (.int a t) (.int b u)) Q E s:=by
 cases o with
 | true=>exact oneLt_int h
 | false =>
  rw[oneLt'_eq]
  simp only[Bool.false_eq_true,if_false]
  exact wpAny_bind (wpAny_lt_int (wpAny_truthy_bool h))
end
section
variable {prog:Program}{w:World}{A:Around}{E:Value→Shared→Prop}{s:Shared}{kd:SortKind}{kv:Kv}{P:Keyed→Prop}{a₀:Array Keyed}
structure One (kv:Kv)(kd:SortKind)(a₀:Array Keyed)(st:SortSt):Prop where
 failed:failedOf st=none
 perm:(arrOf st).toList.Perm a₀.toList
 rise:RiseA kv (arrOf st) 0 a₀.size
 pend:(pendingOf st).size≤1
theorem Z1r {n:Nat}(h:n<64):minRun' n n 0=n:=by
 cases n with
 | zero=>rfl
 | succ f=>rw[minRun'_succ,if_pos h]
theorem jX (C:Cmp prog w A E s kd kv P)(hP:AllP P a₀){st:SortSt}{Q:Unit→SortSt→Prop}(h64:a₀.size<64)(h0:arrOf st=a₀)(hk:kindOf st=kd)(hf:failedOf st=none)(hp:pendingOf st = #[])
 (h:∀st',failedOf st'=none→(arrOf st').toList.Perm a₀.toList→RiseA kv (arrOf st') 0 a₀.size→Q () st'):wpS (model prog w) A E s sortRuns' Q st:=by
 rw[sortRuns'_eq]
 refine wpS_bind (wpS_get ?_)
 have esz:(arrOf st).size=a₀.size:=by rw[h0]
 dsimp only
 simp only[esz]
 rw[Z1r h64]
 refine wpS_bind (wpS_mono (wpS_forRange (I:=fun x c st'=>c.1=none∧((c.2=0∧st'=st∧x=0)∨(c.2=a₀.size∧One kv kd a₀ st')))
  (Q:=fun c st'=>c.1=none∧One kv kd a₀ st') ?_ ?_ ⟨rfl,.inl ⟨rfl,rfl,rfl⟩⟩) ?_)
 · rintro x ⟨r,lo⟩ st1 _ hx ⟨e,hI⟩
   dsimp only at *
   subst e
   rcases hI with ⟨rfl,rfl,rfl⟩ | ⟨rfl,hO⟩
   · by_cases hge:0≥a₀.size
     · rw[if_pos hge]
       exact wpS_pure ⟨rfl,hf,by rw[h0],fun i j _ _ h3=>by omega,by rw[hp];exact Nat.zero_le _⟩
     rw[if_neg hge]
     refine wpS_bind (Z05 C hk (by rw[h0];exact hP) (by omega) (by omega) fun m st2 hL2 m1 m2 hr2=>?_)
     dsimp only
     have hk2:kindOf st2=kd:=hL2.kind.trans hk
     have hP2:AllP P (arrOf st2):=AllP.perm (by rw[h0];exact hP) hL2.perm
     have hz2:=hL2.size
     by_cases hm:m<a₀.size
     · rw[if_pos hm]
       refine wpS_bind (wpS_lift (wpAny_rule ⟨rfl,?_⟩))
       refine wpS_bind (jk C hk2 hP2 (by omega) (by omega) hr2 fun st3 hL3 hr3=>?_)
       rw[if_neg (by decide)]
       refine wpS_bind (wpS_get ?_)
       have hpd:pendingOf st3 = #[]:=hL3.pend.trans (hL2.pend.trans hp)
       rw[hpd]
       refine wpS_bind (wpS_modify (wpS_pure ⟨rfl,.inr ⟨by omega,?_⟩⟩))
       refine⟨hL3.failed.trans (hL2.failed.trans hf),hL3.perm.trans (hL2.perm.trans (by rw[h0])),?_,?_⟩
       · have:0+min (a₀.size-0) a₀.size=a₀.size:=by omega
         rw[this] at hr3
         exact hr3
       · show ((pendingOf st3).push _).size≤1
         rw[hpd];exact Nat.le_refl 1
     · rw[if_neg hm]
       refine wpS_bind (wpS_get ?_)
       have hpd:pendingOf st2 = #[]:=hL2.pend.trans hp
       rw[hpd]
       refine wpS_bind (wpS_modify (wpS_pure ⟨rfl,.inr ⟨by omega,?_⟩⟩))
       refine⟨hL2.failed.trans hf,hL2.perm.trans (by rw[h0]),?_,?_⟩
       · have:0+m=a₀.size:=by omega
         rw[this] at hr2
         exact hr2
       · show ((pendingOf st2).push _).size≤1
         rw[hpd];exact Nat.le_refl 1
   · rw[if_pos (Nat.le_refl _)]
     exact wpS_pure ⟨rfl,hO⟩
 · rintro⟨r,lo⟩ st1 ⟨e,hI⟩
   dsimp only at *
   refine⟨e,?_⟩
   rcases hI with ⟨rfl,rfl,hx⟩ | ⟨_,hO⟩
   · exact⟨hf,by rw[h0],fun i j _ _ h3=>by omega,by rw[hp];exact Nat.zero_le _⟩
   · exact hO
 · rintro⟨r,lo⟩ st1 ⟨e,hO⟩
   dsimp only at *
   subst e
   dsimp only
   refine wpS_bind (wpS_mono (wpS_forRange (I:=fun x c st'=>c.1=none∧One kv kd a₀ st') (Q:=fun c st'=>c.1=none∧One kv kd a₀ st') ?_ (fun _ _ z=>z) ⟨rfl,hO⟩) ?_)
   · rintro x ⟨r,u⟩ st2 _ hx ⟨e,hO2⟩
     dsimp only at *
     subst e
     refine wpS_bind (wpS_get ?_)
     rw[if_pos hO2.pend]
     exact wpS_pure ⟨rfl,hO2⟩
   · rintro⟨r,u⟩ st2 ⟨e,hO2⟩
     dsimp only at *
     subst e
     exact wpS_pure (h st2 hO2.failed hO2.perm hO2.rise)
end
section
variable {prog:Program}{w:World}{A:Around}{E:Value→Shared→Prop}{s:Shared}{kd:SortKind}{kv:Kv}{P:Keyed→Prop}
theorem jt {g:Heap}{a:Addr}{vs:List Value}{n:Nat}{R:Fin→Shared→Prop}(ho:s.heap.get? a=some (seqObj "list" vs.toArray n))(h64:vs.length<64)
 (hg:∀b o,g.get? b=some o→s.heap.get? b=some o∧b≠a) (O:Ord prog w g vs kd kv P)
 (h:∀out:Array Keyed,out.toList.Perm (vs.zip vs)→RiseA kv out 0 vs.length→R (.done (.ret .none)) { s with heap:=sortedHeap s.heap a vs (out.map (·.2)) }) :
 wpAny (model prog w) A (Builtin.«list.sort» ⟨[.ref a],[]⟩) R E s:=by
 have hz:vs.length≤sizeLine:=Nat.le_of_lt (Nat.lt_trans h64 (by rw[sizeLine_eq];decide))
 rw[list_sort_plain]
 have ha:a<s.heap.objs.size:=Heap.lt_size ho
 refine wpAny_bind (listItems_at ho rfl ?_)
 refine wpAny_bind (listUpdate_at ho rfl ?_ (by rw[List.size_toArray];exact hz))
 obtain⟨e1,ho1⟩:∃e1,(s.heap.update a (Obj.mapSeq fun _=>#[])).get? a=some (seqObj "list" #[] e1):=⟨_,get?_update_seq ho (fun _=>#[])⟩
 refine wpAny_bind (seqEpoch_at ho1 rfl ?_)
 refine wpAny_bind (wpAny_newTuple ?_ (by exact hz))
 refine wpAny_bind (wpAny_newList ?_)
 refine wpAny_holding ?_
 have ho6:(((s.heap.update a (Obj.mapSeq fun _=>#[])).push (seqObj "tuple" vs.toArray 0)).push (seqObj "list" #[] 0)).get? a=some (seqObj "list" #[] e1):=by
  rw[Heap.get?_push_ne _ _ _ (by rw[size_push',Heap.size_update];exact Nat.ne_of_lt (Nat.lt_succ_of_lt ha)),Heap.get?_push_ne _ _ _ (by rw[Heap.size_update];exact Nat.ne_of_lt ha)]
  exact ho1
 have hk6:∀b o,g.get? b=some o→(((s.heap.update a (Obj.mapSeq fun _=>#[])).push (seqObj "tuple" vs.toArray 0)).push (seqObj "list" #[] 0)).get? b=some o:=fun b o e=>by
  obtain⟨q1,q2⟩:=hg b o e
  have hb:b<s.heap.objs.size:=Heap.lt_size q1
  rw[Heap.get?_push_ne _ _ _ (by rw[size_push',Heap.size_update];exact Nat.ne_of_lt (Nat.lt_succ_of_lt hb)),Heap.get?_push_ne _ _ _ (by rw[Heap.size_update];exact Nat.ne_of_lt hb),Heap.get?_update_ne _ _ _ _ q2]
  exact q1
 show wpAny (model prog w) A _ R E { s with heap:=((s.heap.update a (Obj.mapSeq fun _=>#[])).push (seqObj "tuple" vs.toArray 0)).push (seqObj "list" #[] 0) }
 dsimp only
 have hsz:vs.toArray.size=vs.length:=by simp
 by_cases h2:vs.toArray.size<2
 · rw[if_pos h2,if_pos h2]
   refine wpAny_bind (wpAny_pure ?_)
   rw[StateT.run_pure]
   refine wpAny_bind (wpAny_pure ?_)
   dsimp only
   refine wpAny_bind (seqEpoch_at ho6 rfl ?_)
   refine wpAny_bind (listUpdate_at ho6 rfl ?_ (hsz2:=by rw[Array.size_map];show (pairsOf vs).size≤_;rw[pairsOf_size];omega))
   simp only[bne_self_eq_false,Bool.false_eq_true,if_false]
   refine wpAny_pure (h (pairsOf vs) (by rw[pairsOf_toList]) ?_)
   intro i j _ hij hj
   have:i=j:=by omega
   subst this;exact Int.le_refl _
 · rw[if_neg h2,if_neg h2]
   refine wpAny_bind (O.kk A E _ _ hk6 (by omega) ?_)
   refine wpAny_bind (wpAny_mono (jX (a₀:=pairsOf vs) (st:=SortSt.mk' kd (vs.toArray.zip vs.toArray) #[] 7 none)
    (Q:=fun _ st'=>failedOf st'=none∧(arrOf st').toList.Perm (pairsOf vs).toList∧RiseA kv (arrOf st') 0 (pairsOf vs).size)
    (O.cmp A E _ hk6) (fun p hp=>?_) (by rw[pairsOf_size];exact h64) rfl rfl rfl rfl fun st' a1 a2 a3=>⟨a1,a2,a3⟩) ?_ fun _ _ e=>e)
   · rw[pairsOf_toList] at hp
     obtain⟨q1,q2⟩:=mem_zip_self hp
     obtain⟨x,y⟩:=p
     cases q1
     exact O.all _ q2
   rintro⟨⟨⟩,st'⟩ s' ⟨rfl,hf,hp,hs⟩
   dsimp only at *
   have hpl:(arrOf st').size=vs.length:=by
    have:=hp.length_eq
    rw[Array.length_toList,Array.length_toList,pairsOf_size] at this
    exact this
   refine wpAny_bind (seqEpoch_at ho6 rfl ?_)
   refine wpAny_bind (listUpdate_at ho6 rfl ?_ (hsz2:=by refine Nat.le_trans (Nat.le_of_eq ((Array.size_map ..).trans hpl)) ?_;omega))
   rw[hf]
   simp only[bne_self_eq_false,Bool.false_eq_true,if_false]
   rw[pairsOf_toList] at hp
   rw[pairsOf_size] at hs
   exact wpAny_pure (h _ hp hs)
theorem sorted_s {l:Addr}{vs:List Value}{Q:Value→Shared→Prop}(hl:s.heap.IsList l vs.toArray)(h64:vs.length<64)(O:Ord prog w s.heap vs kd kv P)
 (h:∀out:Array Keyed,out.toList.Perm (vs.zip vs)→RiseA kv out 0 vs.length→Q (.ref (s.heap.objs.size+1)) { s with heap:=sortedAll s.heap vs (out.map (·.2)) }) :
 wpAny (model prog w) A (call (.builtin "sorted") [.ref l]) Q E s:=by
 have hz:vs.length≤sizeLine:=Nat.le_of_lt (Nat.lt_trans h64 (by rw[sizeLine_eq];decide))
 refine Calls.call_function_entry kind_sorted plain_sorted entry_sorted (args_sorted1 _) ?_
 unfold Builtin.«sorted»
 refine wpAny_bind (m:=checkCount "sorted" 1 1 _) (wpAny_pure ?_)
 refine wpAny_bind (collect_list hl ?_ hz)
 refine wpAny_bind (wpAny_newList ?_ hz)
 have hsz:((s.heap.push (seqObj "list" #[] 0)).update s.heap.objs.size (Obj.mapSeq (· ++ vs.toArray))).objs.size=s.heap.objs.size+1:=by
  rw[Heap.size_update,size_push']
 have hoL:(((s.heap.push (seqObj "list" #[] 0)).update s.heap.objs.size (Obj.mapSeq (· ++ vs.toArray))).push (seqObj "list" vs.toArray 0)).get? (s.heap.objs.size+1)=some (seqObj "list" vs.toArray 0):=by
  rw[←hsz];exact Heap.get?_push_size _ rfl
 show wpAny _ _ _ _ _ { s with heap:=((s.heap.push (seqObj "list" #[] 0)).update s.heap.objs.size (Obj.mapSeq (· ++ vs.toArray))).push (seqObj "list" vs.toArray 0) }
 rw[hsz]
 refine wpAny_bind (wpAny_holding (wpAny_call_entry slot_list_sort ⟨_,hoL,rfl⟩ entry_list_sort (jt (g:=s.heap) hoL h64 (fun b o e=>?_) O fun out a1 a2=>⟨_,rfl,?_⟩) (args_list_sort _)))
 · have hb:b<s.heap.objs.size:=Heap.lt_size e
   refine⟨?_,Nat.ne_of_lt (Nat.lt_succ_of_lt hb)⟩
   show (((s.heap.push (seqObj "list" #[] 0)).update s.heap.objs.size (Obj.mapSeq (· ++ vs.toArray))).push (seqObj "list" vs.toArray 0)).get? b=some o
   rw[Heap.get?_push_ne _ _ _ (by rw[Heap.size_update,size_push'];exact Nat.ne_of_lt (Nat.lt_succ_of_lt hb)),Heap.get?_update_ne _ _ _ _ (Nat.ne_of_lt hb),Heap.get?_push_ne _ _ _ (Nat.ne_of_lt hb)]
   exact e
 · exact wpAny_pure ⟨_,rfl,h out a1 a2⟩
end
end L2.Tim
namespace L2
open PySem PySem.Spec PyProof.Rows
theorem Paired.perm {α β:Type}{F:α→β→Prop}{ys ys':List β}(p:ys'.Perm ys):∀ {xs:List α},Paired F xs ys→∃xs',xs'.Perm xs∧Paired F xs' ys':=by
 induction p with
 | nil=>intro xs h;exact⟨xs,List.Perm.refl _,h⟩
 | cons y p ih =>
  intro xs h
  cases h with
  | cons r t =>
   obtain⟨xs',h1,h2⟩:=ih t
   exact⟨_::xs',h1.cons _,.cons r h2⟩
 | swap y z l =>
  intro xs h
  cases h with
  | cons r t =>
   cases t with
   | cons r2 t2=>exact⟨_::_::_,List.Perm.swap _ _ _,.cons r2 (.cons r t2)⟩
 | trans p q ih1 ih2 =>
  intro xs h
  obtain⟨xs1,a1,a2⟩:=ih2 h
  obtain⟨xs2,b1,b2⟩:=ih1 a2
  exact⟨xs2,b1.trans a1,b2⟩
theorem yD {α:Type}{R:α→α→Prop}(anti:∀x y,R x y→R y x→x=y):∀ {l m:List α},l.Perm m→l.Pairwise R→m.Pairwise R→l=m
 | [],m,p,_,_=>(List.nil_perm.mp p).symm▸rfl
 | x::l,[],p,_,_=>by have:=p.length_eq;simp at this
 | x::l,y::m,p,h,k=>by
  have e:x=y:=by
   rcases List.mem_cons.mp (p.mem_iff.mp (List.mem_cons_self ..)) with e | hx
   · exact e
   · rcases List.mem_cons.mp (p.mem_iff.mpr (List.mem_cons_self ..)) with e | hy
     · exact e.symm
     · exact anti x y (List.rel_of_pairwise_cons h hy) (List.rel_of_pairwise_cons k hx)
  subst e
  rw[yD anti ((List.perm_cons x).mp p) h.of_cons k.of_cons]
section ins
variable {α:Type}(le:α→α→Bool)
def insL (x:α):List α→List α
 | []=>[x]
 | y::l=>if le x y then x::y::l else y::insL x l
def srtL (l:List α):List α:=l.foldr (insL le) []
theorem Jv (x:α):∀l,(insL le x l).Perm (x::l)
 | []=>List.Perm.refl _
 | y::l=>by
  unfold insL
  split
  · exact List.Perm.refl _
  · exact((Jv x l).cons y).trans (List.Perm.swap ..)
theorem zQ:∀l,(srtL le l).Perm l
 | []=>List.Perm.refl _
 | x::l=>(Jv le x _).trans ((zQ l).cons x)
theorem yc {R:α→α→Prop}(h1:∀x y,le x y=true→R x y)(h2:∀x y,le x y=false→R y x)(ht:∀x y z,R x y→R y z→R x z)(x:α):∀l,l.Pairwise R→(insL le x l).Pairwise R
 | [],_=>List.pairwise_singleton _ _
 | y::l,h=>by
  unfold insL
  cases e:le x y with
  | true =>
   rw[if_pos rfl]
   refine List.pairwise_cons.mpr ⟨fun z hz=>?_,h⟩
   rcases List.mem_cons.mp hz with rfl | hz
   · exact h1 _ _ e
   · exact ht _ _ _ (h1 _ _ e) (List.rel_of_pairwise_cons h hz)
  | false =>
   rw[if_neg Bool.false_ne_true]
   refine List.pairwise_cons.mpr ⟨fun z hz=>?_,yc h1 h2 ht x l h.of_cons⟩
   rcases List.mem_cons.mp ((Jv le x l).mem_iff.mp hz) with rfl | hz
   · exact h2 _ _ e
   · exact List.rel_of_pairwise_cons h hz
theorem zO {R:α→α→Prop}(h1:∀x y,le x y=true→R x y)(h2:∀x y,le x y=false→R y x)(ht:∀x y z,R x y→R y z→R x z):∀l,(srtL le l).Pairwise R
 | []=>List.Pairwise.nil
 | x::l=>yc le h1 h2 ht x _ (zO h1 h2 ht l)
end ins
def sortI (ns:List Int):List Int:=srtL (fun x y=>decide (x≤y)) ns
theorem YV (ns:List Int):(sortI ns).Perm ns:=zQ _ _
theorem jY (ns:List Int):(sortI ns).Pairwise (· ≤ ·) :=
 zO (R:=fun x y:Int=>x≤y) (fun x y=>decide (x≤y)) (fun x y h=>of_decide_eq_true h) (fun x y h=>by have:=of_decide_eq_false h;omega) (fun x y z=>Int.le_trans) ns
theorem sortI_one {ns ms:List Int}(h:ms.Perm ns)(k:ms.Pairwise (· ≤ ·)):ms=sortI ns:=yD (fun _ _=>Int.le_antisymm) (h.trans (YV ns).symm) k (jY ns)
namespace L3
end L3
section
variable {κ α:Type}[DecidableEq κ]
def valG (kvs:List (κ × α))(k:κ):Option α:=(kvs.find? fun kv=>decide (kv.1=k)).map (·.2)
theorem yw {p:κ × α}{r:List (κ × α)}{k:κ}(e:p.1=k):valG (p::r) k=some p.2:=by simp[valG,List.find?_cons,e]
theorem yx {p:κ × α}{r:List (κ × α)}{k:κ}(e:¬p.1=k):valG (p::r) k=valG r k:=by simp[valG,List.find?_cons,e]
end
namespace L3
section
variable {κ:Type}[DecidableEq κ]{K:PySem.W.Frag}{G:Hp}
theorem Ents.val:∀ {kvs:List (κ × D)} {es:List (κ × V)},Ents K G kvs es→∀k,(valG kvs k=none∧valV es k=none) ∨ ∃d v,valG kvs k=some d∧valV es k=some v∧Is K G d v
 | _,_,.nil,k=>.inl ⟨rfl,rfl⟩
 | _,_,.cons (a:=p) (b:=q) r t,k=>by
  by_cases e:p.1=k
  · exact .inr ⟨p.2,q.2,yw e,valV_pos (r.1.symm.trans e),r.2⟩
  · rw[yx e,valV_neg (fun z=>e (r.1.trans z))]
    exact Ents.val t k
end
def keyD:Key→D
 | .inl i=>.int i
 | .inr x=>.str x
theorem zn {K:PySem.W.Frag}{G:Hp}{k:Key}{v:V}(h:Is K G (keyD k) v):v=kV k:=by
 cases k with
 | inl i=>exact Z8 h
 | inr x=>exact zo h
end L3
end L2
namespace L2.L3
open PySem PySem.Spec PyProof.Rows
end L2.L3
namespace L2
open PySem PySem.Spec PyProof.Rows
namespace L3
section
variable {κ:Type}{K:PySem.W.Frag}{G:Hp}
theorem Ents.of:∀ {ks:List κ} {ds:List D} {es:List (κ × V)},es.map (·.1)=ks→IsL K G ds (es.map (·.2))→Ents K G (ks.zip ds) es
 | ks,ds,[],e,i=>by
  cases e
  exact .nil
 | ks,ds,p::es,e,i=>by
  cases e
  rw[List.map_cons] at i
  cases ds with
  | nil=>unfold IsL at i;cases i
  | cons d ds =>
   unfold IsL at i
   obtain⟨x,r,e1,i1,i2⟩:=i
   cases e1
   exact .cons ⟨rfl,i1⟩ (Ents.of rfl i2)
end
end L3
end L2
namespace L2.L3
open PySem PySem.Spec PyProof.Rows
end L2.L3
namespace L2
open PySem PySem.Spec PyProof.Rows
namespace L3
end L3
end L2
namespace L2.SetH
open PySem PyProof.Rows L2.SetW L2.SetG
end L2.SetH
namespace L2
open PySem PySem.Spec PyProof.Rows
namespace L3
end L3
end L2
namespace L2.L3
open PySem PySem.Spec PyProof.Rows
end L2.L3
namespace L2
open PySem PySem.Spec PyProof.Rows
namespace L3
end L3
section
variable {X:Cx}{k:Nat}{f C:Addr}{fd:FuncData}{ps:List Str}{sp:Sp}{E:Addr→St→Hp→Prop}{x:Str}{p pos:Pos}{e:Expr}{es:List Expr}{t:TA}
theorem Z0k {pins:List (Addr × Obj)}{σ:St}{H:Hp}{s:Shared}{Q:VK}{us:List Value}{vs:List V}(M:Mk X.K C f)(F:FnOk X.prog X.w X.K X.mg X.base (CXx X.prog X.w) k f fd ps sp)(hr:Room (k+1) X.A)(hb:Binds X.K fd ps [])(xf:XFly X E)(I:Inv X pins σ H s)(r:Vals vs us)
 (h:∀x dx,H x=none→H dx=none→dx≠x→sp (.ref x::vs) (upd (upd H dx (.own x)) x (.ins C dx [])) (fun v H2=>v=.non∧Q (.ref x) H2) fun cv _ H'=>∃C,cv=.ref C∧E C σ H') :
 wpAny (model X.prog X.w) X.A (call (.ref C) us) (EP X pins σ Q) X.xe s:=by
 have hq:=h (s.heap.objs.size+1) s.heap.objs.size (I.hok.fresh (Nat.le_succ _)) (I.hok.fresh (Nat.le_refl _)) (Nat.ne_of_lt (Nat.lt_succ_self _))
 have I2:=Inv.made (C:=C) I
 have r2:Vals (V.ref (s.heap.objs.size+1)::vs) (Value.ref (s.heap.objs.size+1)::us):=.cons rfl r
 have hl:(Value.ref (s.heap.objs.size+1)::us++[]).length=ps.length:=by
  have q:=r2.length
  rw[F.len _ _ _ _ hq] at q
  rw[List.append_nil]
  exact q.symm
 have hb2:=hb _ (Value.ref (s.heap.objs.size+1)::us) I2.kIn hl
 rw[List.append_nil] at hb2
 refine wpAny_call (make_map (f:=f) I.kIn M.makes M.init (beq_iff_eq.mp M.fn) (codeAny_mono (F.run _ X.stack _ _ ⟨Value.ref (s.heap.objs.size+1)::us,[]⟩ (Value.ref (s.heap.objs.size+1)::us) _ _ _ (hr.make C us []) (I2.env0.make C us []) hb2 r2 hq) fun res s' hq'=>?_))
 match res,hq' with
 | .error e,hq'=>exact zZ xf I2 hq'
 | .ok (.ret u),hq' =>
  obtain⟨v,H',I3,rv,ev,q3⟩:=I2.after hq'
  subst ev
  exact⟨rv,⟨V.ref (s.heap.objs.size+1),H',I3,rfl,q3⟩⟩
def tMakeX (C:Addr)(sp:Sp)(E:Addr→St→Hp→Prop)(t:TA):TE:=fun σ H Q=>t σ H fun vs H1=>∀x dx,H1 x=none→H1 dx=none→dx≠x→sp (.ref x::vs) (upd (upd H1 dx (.own x)) x (.ins C dx [])) (fun v H2=>v=.non∧Q (.ref x) H2) fun cv _ H'=>∃C,cv=.ref C∧E C σ H'
theorem Z1n (M:Mk X.K C f)(F:FnOk X.prog X.w X.K X.mg X.base (CXx X.prog X.w) k f fd ps sp)(hr:Room (k+1) X.A)(hg:Gl X x)(hm:X.mg x=some (.ref C))(hb:Binds X.K fd ps [])(xf:XFly X E)
 (ha:PA X (e::es) t) (hdb:(x==("__debug__" : Str))=false:=by decide) (he:starEach (e::es) X.env=(false,eval e X.env)::starEach es X.env:=by rfl) (hpl:(backTo pos (starEach es X.env)).any (·.1)=false:=by rfl) :
 PE X (.Call (.Name x p) (e::es) [] pos) (tMakeX C sp E t):=by
 intro pins s σ H Q I h
 exact wpAny_Call_Name_kw (ld_glob I hg hm (PySem.W.callWith_K (h₀:=X.base) I.ok.mod.kin M.kp (thn (ha pos pins s σ H _ I h) fun us s1 ⟨vs,H1,I1,r,q⟩=>⟨I1.kIn,Z0k M F hr hb xf I1 r q⟩) he hpl) hdb)
end
namespace L3
def ispX (K:PySem.W.Frag)(C:Addr)(preI:List D→List Str→List D→Prop)(preIX:List D→Addr→Prop):Sp:=fun vs H Q E=>isp K C preI vs H Q E ∨ ∃x dx vs' H1 ds G Ce,vs=.ref x::vs'∧H1 x=none∧H1 dx=none∧dx≠x∧H=upd (upd H1 dx (.own x)) x (.ins C dx []) ∧
 preIX ds Ce∧Same G H1∧IsL K G ds vs'∧∀G' H',Grow G H1 G' H'→E (.ref Ce) none H'
def ispQ (K:PySem.W.Frag)(C:Addr)(preI:List D→List Str→List D→Prop):Sp:=fun vs H Q _=>∃(x dx:Addr) (vr:V) (la:Addr) (H1:Hp) (dr:D) (ss:List Str) (G:Hp) (ns:List Str) (fds:List D),vs=[.ref x,vr,.ref la]∧H1 x=none∧H1 dx=none∧dx≠x∧H=upd (upd H1 dx (.own x)) x (.ins C dx []) ∧
 preI [dr,.lst (ss.map D.str)] ns fds∧Same G H1∧Is K G dr vr∧H1 la=some (.lst (ss.map V.str))∧G la=none∧∀G' H',Grow G H1 G' H'→Is K G' (.obj C ns fds) (.ref x)→Q .non H'
structure IniX (P:Program)(w:World)(K:PySem.W.Frag)(mg:Str→Option Value)(base:Heap)(k:Nat)(C:Addr)(ps:List Str)(preI:List D→List Str→List D→Prop)(preIX:List D→Addr→Prop):Prop where
 ex:∃f fd,FnOk P w K mg base (CXx P w) k f fd ps (fun vs H Q E=>ispX K C preI preIX vs H Q E∨ispQ K C preI vs H Q E)∧Mk K C f∧Binds K fd ps []
section
variable {X:Cx}{ρ:Ro}{e:Expr}{es:List Expr}{ds:List D}{pos p:Pos}{x:Str}{C Ce:Addr}{ns:List Str}{fds:List D}{k:Nat}{ps:List Str}{preI:List D→List Str→List D→Prop}{preIX:List D→Addr→Prop}{E:XW}
theorem Z1d (c:IniX X.prog X.w X.K X.mg X.base k C ps preI preIX)(hm:X.mg x=some (.ref C))(xf:XFly X E)(hr:Room (k+1) X.A)(ha:QA X ρ (e::es) ds)(hp:preIX ds Ce)(hg:Gl X x:=by rfl)(hdb:(x==("__debug__" : Str))=false:=by decide)
 (he:starEach (e::es) X.env=(false,eval e X.env)::starEach es X.env:=by rfl) (hpl:(backTo pos (starEach es X.env)).any (·.1)=false:=by rfl):QX X E ρ (.Call (.Name x p) (e::es) [] pos) Ce:=by
 obtain⟨f,fd,F,M,B⟩:=c.ex
 exact⟨fun pins s σ H Q I ⟨G0,H0,G,cf,q⟩=>Z1n M F hr hg hm B xf ha.u hdb he hpl pins s σ H Q I ⟨G0,H0,G,cf,fun vs G1 H1 g1 i1 y dy hy hdy ne =>
  .inl <| .inr ⟨y,dy,vs,H1,ds,G1,Ce,rfl,hy,hdy,ne,rfl,hp,g1.sub,i1,fun G' H' g=>⟨Ce,rfl,q G' H' (g1.trans g)⟩⟩⟩⟩
end
section
variable {X:Cx}{ρ:Ro}{e:Expr}{pos p pos':Pos}{y f:Str}{C Ce x dx:Addr}{ns:List Str}{fds:List D}{G H1:Hp}{bl:List Stmt}{ks:List (List Stmt)}{De:Ends}{E:XW}
theorem Z23 (he:QX X E ρ e Ce)(hE:∀Gj H' σ,Grow G H1 Gj H'→E Ce σ H')
 (hN:X.N[0]? = some y:=by rfl) (hv:Vis X.env.scope y:=by first | exact Or.inl rfl | exact Or.inr (Or.inl rfl) | exact Or.inr (Or.inr rfl)) (hd:(y==("__debug__" : Str))=false:=by decide) (hcd:(y==("__classdict__" : Str))=false:=by decide)
 (hs:swapsWith e (some (.Attribute (.Name y p) f pos')) pos.line X.env=pure false:=by rfl):RK X (IW X.K G H1 x C dx ρ ns fds) ((.Assign [.Attribute (.Name y p) f pos'] e pos::bl)::ks) De :=
 ⟨fun σ H hp pins s I=>by
  refine pss_cons (ps_fld (pe_var hN hv hd hcd) he.u hs) Z9 pins s σ H _ I ?_
  obtain⟨Gj,fs,g,gx,hx,e1,e2,al,s0⟩:=hp
  exact⟨Gj,H,Gj,Z2I al g.sub,fun G' H' g'=>hE G' H' σ (g.trans g')⟩⟩
end
theorem Z2v {P:Program}{w:World}{K:PySem.W.Frag}{mg:Str→Option Value}{base:Heap}{C:Addr}{qual:Str}{st:Stmt}{N ps:List Str}{k:Nat}{preI:List D→List Str→List D→Prop}{preIX:List D→Addr→Prop}(d:IDef K C qual st)(S:FnScope N ps (defScope st))
 (hb:∀(kV doc pm:Value) (an:Option Addr) (cdv ct:Value) (us:List Value),us.length=ps.length→bindArgs (PySem.W.fnOf "__init__" qual (defArgs st) (defBody st) (defScope st) .none kV doc pm an cdv ct) ⟨us,[]⟩=pure (ps.zip us))
 (len:∀ds ns fds,preI ds ns fds→ds.length+1=ps.length) (lenX:∀ds Ce,preIX ds Ce→ds.length+1=ps.length)
 (hbody:∀(X:Cx) (f:Addr) (cdv:Value) (A:Around) (outer:List Env) (s:Shared) (H:Hp) (E:XK),X=(cxOf (CXx P w) P w K mg base N qual (defScope st) f cdv A outer s H E).nox→Room k X.A→∀ds ns fds,preI ds ns fds→∀(G H1:Hp) (x dx:Addr) (D:Ends),H1 x=none→(∀σ H ρ,IW K G H1 x C dx ρ ns fds σ H→D.nx σ H) →
  RK X (IW K G H1 x C dx (.un::(ds.map Slot.dat++List.replicate (N.length-(ds.length+1)) Slot.un)) [] []) [defBody st] D)
 (hbodyX:∀(X:Cx) (f:Addr) (cdv:Value) (A:Around) (outer:List Env) (s:Shared) (H:Hp) (E:XK) (E2:XW),X=cxOf (CXx P w) P w K mg base N qual (defScope st) f cdv A outer s H E→Room k X.A→XMade X E2→XFly X E2→∀ds Ce,preIX ds Ce→∀(G H1:Hp) (x dx:Addr) (D:Ends),H1 x=none→(∀Gj H' σ,Grow G H1 Gj H'→E2 Ce σ H') →
  RK X (IW K G H1 x C dx (.un::(ds.map Slot.dat++List.replicate (N.length-(ds.length+1)) Slot.un)) [] []) [defBody st] D)
 (hbodyQ:∀(X:Cx) (f:Addr) (cdv:Value) (A:Around) (outer:List Env) (s:Shared) (H:Hp) (E:XK),X=(cxOf (CXx P w) P w K mg base N qual (defScope st) f cdv A outer s H E).nox→Room k X.A→∀dr (ss:List Str) ns fds,preI [dr,.lst (ss.map D.str)] ns fds→∀(G H1:Hp) (x dx la:Addr) (D:Ends),H1 x=none→H1 la=some (.lst (ss.map V.str))→G la=none→(∀σ H ρ,IW K G H1 x C dx ρ ns fds σ H→D.nx σ H) →
  RK X (fun σ H=>IW K G H1 x C dx (.un :: .dat dr :: .un::List.replicate (N.length-3) Slot.un) [] [] σ H∧σ[2]? = some (some (.ref la))) [defBody st] D) :
 IniX P w K mg base (k+1) C ps preI preIX:=by
 obtain⟨f,fd,F,M⟩:=d.ex
 have Bn:=F.binds hb
 obtain⟨oc,od,kV,doc,pm,an,cdv,ct,osl,rfl,lk,hcd⟩:=F.ex
 have start:∀ {x dx:Addr} {vs':List V} {H1 G:Hp} {ds:List D},H1 x=none→H1 dx=none→Same G H1→IsL K G ds vs'→IW K G H1 x C dx (.un::(ds.map Slot.dat++List.replicate (N.length-(ds.length+1)) Slot.un)) [] [] (start N (.ref x::vs')) (upd (upd H1 dx (.own x)) x (.ins C dx [])):=fun {x dx vs' H1 G ds} hx hdx sg i=>by
  refine⟨G,[],⟨fun b o e=>?_,fun _ _=>rfl,fun b o e=>?_⟩,Same.dead sg hx,upd_same,rfl,.nil,?_,rfl⟩
  · rw[upd_ne (ne_of_none e hx),upd_ne (ne_of_none e hdx)];exact e
  · have e':=sg b o e
    rw[upd_ne (ne_of_none e' hx),upd_ne (ne_of_none e' hdx)];exact e'
  · unfold L2.start
    rw[List.length_cons,i.len]
    exact⟨trivial,JW _ i⟩
 refine⟨f,_,fn_of lk hcd S (fun vs H Q E h=>?_) (fun A outer s H vs Q E hr h=>?_),M,Bn⟩
 · rcases h with (⟨x,dx,vs',H1,ds,G,ns,fds,rfl,_,_,_,_,hp,_,i,_⟩ | ⟨x,dx,vs',H1,ds,G,Ce,rfl,_,_,_,_,hp,_,i,_⟩) | ⟨x,dx,vr,la,H1,dr,ss,G,ns,fds,rfl,_,_,_,_,hp,_⟩
   · rw[List.length_cons,i.len];exact len ds ns fds hp
   · rw[List.length_cons,i.len];exact lenX ds Ce hp
   · exact len _ ns fds hp
 · rcases h with (⟨x,dx,vs',H1,ds,G,ns,fds,rfl,hx,hdx,ne,rfl,hp,sg,i,q⟩ | ⟨x,dx,vs',H1,ds,G,Ce,rfl,hx,hdx,ne,rfl,hp,sg,i,q⟩) | ⟨x,dx,vr,la,H1,dr,ss,G,ns,fds,rfl,hx,hdx,ne,rfl,hp,sg,iv,hla,gla,q⟩
   · have rk:=hbody _ f cdv A outer s (upd (upd H1 dx (.own x)) x (.ins C dx [])) E rfl hr ds ns fds hp G H1 x dx { nx:=fun _ H'=>Q .non H',rt:=Q } hx (fun σ H ρ hw=>by
      obtain⟨Gj,fs,g,gx,hxx,e1,e2,_,_⟩:=hw
      have sG:Same Gj (upd Gj x (.ins C dx fs)):=Same.new gx
      refine q (upd Gj x (.ins C dx fs)) H ⟨g.same,fun b hb=>?_,fun b o e=>?_⟩ (j9 upd_same e1 (Zk sG e2))
      · rw[upd_ne (fun z=>hb (by rw[z];exact hx))];exact g.old b hb
      · by_cases z:b=x
        · subst z;rw[upd_same] at e;rw[←e];exact hxx
        · rw[upd_ne z] at e;exact g.sub b o e)
     exact⟨tWS _ (defBody st),(Z9 (X:=(cxOf (CXx P w) P w K mg base N qual (defScope st) f cdv A outer s (upd (upd H1 dx (.own x)) x (.ins C dx [])) E).nox)).nox,rk.ws (start hx hdx sg i)⟩
   · have rk:=hbodyX _ f cdv A outer s (upd (upd H1 dx (.own x)) x (.ins C dx [])) E (fun C _ H=>E (.ref C) none H) rfl hr JK zu ds Ce hp G H1 x dx { nx:=fun _ H'=>Q .non H',rt:=Q } hx (fun Gj H' σ g=>q Gj H' g)
     exact⟨tWS _ (defBody st),Z9,rk.ws (start hx hdx sg i)⟩
   · have rk:=hbodyQ _ f cdv A outer s (upd (upd H1 dx (.own x)) x (.ins C dx [])) E rfl hr dr ss ns fds hp G H1 x dx la { nx:=fun _ H'=>Q .non H',rt:=Q } hx hla gla (fun σ H ρ hw=>by
      obtain⟨Gj,fs,g,gx,hxx,e1,e2,_,_⟩:=hw
      have sG:Same Gj (upd Gj x (.ins C dx fs)):=Same.new gx
      refine q (upd Gj x (.ins C dx fs)) H ⟨g.same,fun b hb=>?_,fun b o e=>?_⟩ (j9 upd_same e1 (Zk sG e2))
      · rw[upd_ne (fun z=>hb (by rw[z];exact hx))];exact g.old b hb
      · by_cases z:b=x
        · subst z;rw[upd_same] at e;rw[←e];exact hxx
        · rw[upd_ne z] at e;exact g.sub b o e)
     refine⟨tWS _ (defBody st),(Z9 (X:=(cxOf (CXx P w) P w K mg base N qual (defScope st) f cdv A outer s (upd (upd H1 dx (.own x)) x (.ins C dx [])) E).nox)).nox,rk.ws ⟨⟨G,[],⟨fun b o e=>?_,fun _ _=>rfl,fun b o e=>?_⟩,Same.dead sg hx,upd_same,rfl,.nil,?_,rfl⟩,rfl⟩⟩
     · rw[upd_ne (ne_of_none e hx),upd_ne (ne_of_none e hdx)];exact e
     · have e':=sg b o e
       rw[upd_ne (ne_of_none e' hx),upd_ne (ne_of_none e' hdx)];exact e'
     · show Al K G _ (L2.start N [.ref x,vr,.ref la])
       unfold L2.start
       refine⟨trivial,⟨vr,rfl,iv⟩,trivial,?_⟩
       have:=JW (K:=K) (G:=G) (N.length-3) (ds:=[]) (vs:=[]) .nil
       exact this
end L3
end L2
namespace L2.L3
open PySem PySem.Spec PyProof.Rows
structure Lam where
 qual:Str
 params:Arguments
 body:Expr
 scope:Scope
 cl:List (Str × Addr)
 pm:Value
abbrev Lam.fd (L:Lam)(c:Addr)(ct:Value):FuncData:=PySem.W.kla_fn "<lambda>" L.qual L.params L.body L.scope L.cl L.pm (.ref c) ct
abbrev Lam.ob (L:Lam)(c:Addr)(ct:Value):Obj:={ cls:=.type "function",data:=.func (L.fd c ct) }
abbrev Lam.ho (L:Lam)(c:Addr)(ct:Value)(us:List Value):HO:=.frz (L.ob c ct) (.tbl (Value.ref c::Value.str L.qual 0::us).toArray)
structure LamAt (mg:Str→Option Value)(base:Heap)(P:Addr)(q:Str):Prop where
 mark:base.objs[P]? = some ⟨.str q 0,none,.freed,#[]⟩
 blt:∃bm o,mg "__builtins__" = some (.ref bm)∧bm≠builtinsNs∧base.get? bm=some o∧o.cls=.type "module" ∧ o.dict=some builtinsNs∧o.data=.plain
theorem LamAt.free {mg:Str→Option Value}{base:Heap}{P:Addr}{q:Str}(h:LamAt mg base P q):base.get? P=none:=by
 unfold Heap.get?;rw[h.mark]
theorem yy {a b:Nat}{v:Value}(l:List Value)(h:TriplesOk l):TriplesOk (l++[rawInt a,rawInt b,v]):=by
 fun_induction TriplesOk l with
 | case1=>simp[TriplesOk,rawInt]
 | case2 i t j u x rest ih=>exact ih h
 | case3=>cases h
theorem Z07 {a b:Nat}{v cv:Value}{pos:Pos}(l:List Value)(h:TriplesOk l)(e:codeAmong pos (l++[rawInt a,rawInt b,v])=some cv):codeAmong pos l=some cv∨cv=v:=by
 fun_induction TriplesOk l with
 | case1 =>
  right
  simp only[List.nil_append,rawInt,codeAmong] at e
  split at e
  · exact(Option.some.inj e).symm
  · cases e
 | case2 i t j u x rest ih =>
  simp only[List.cons_append,codeAmong] at e ⊢
  split at e
  · rename_i hc;rw[if_pos hc];exact .inl e
  · rename_i hc;rw[if_neg hc];exact ih h e
 | case3=>cases h
def canon:V→Value
 | .non=>.none
 | .bl b=>.bool b
 | .int i=>.int i 0
 | .str x=>.str x 0
 | .byt b=>.bytes b 0
 | .flt b=>.float b 0
 | .ref a=>.ref a
 | .ty n=>.type n
theorem Z0Y (v:V):RelV v (canon v):=by cases v <;> first | rfl | exact⟨_,rfl⟩
theorem JZ:∀vs:List V,Vals vs (vs.map canon)
 | []=>.nil
 | v::vs=>.cons (Z0Y v) (JZ vs)
section
variable {X:Cx}{pins:List (Addr × Obj)}{σ:St}{H:Hp}{s:Shared}
theorem Z1z {L:Lam}{cc:Addr}{ct:Value}{us:List Value}{oc:Obj}{u:HO}{vs:Array Value}{tq:Tok}{hn:Heap}{tk:Nat}(I:Inv X pins σ H s)(hk:∀b o,s.heap.get? b=some o→hn.get? b=some o)(hs:s.heap.objs.size≤hn.objs.size)
 (hc:H cc=some (.frz oc u)) (hd:oc.data=.fields vs) (hq:vs[1]? = some (.str L.qual tq)) :
 Inv X pins σ (upd H hn.objs.size (L.ho cc ct us)) { s with heap:=hn.push (L.ob cc ct),toks:=tk }:=by
 have hk':∀b o,s.heap.get? b=some o→(hn.push (L.ob cc ct)).get? b=some o:=fun b o e=>Heap.get?_push_of_some _ (hk b o e)
 have hf:H hn.objs.size=none:=I.hok.fresh hs
 refine I.un (Un.laid hk' hs hf) (I.hok.laid hk' hs ?_)
 have hg:(hn.push (L.ob cc ct)).get? hn.objs.size=some (L.ob cc ct):=Heap.get?_push_size _ rfl
 exact⟨hg,.inr ⟨⟨_,hg⟩,L.qual,0,us,cc,oc,u,vs,tq,rfl,by rw[upd_ne (ne_of_none hc hf)];exact hc,hd,hq⟩⟩
theorem Z0P {L:Lam}{P cc:Addr}{ct:Value}{us:List Value}{oc:Obj}{vs:Array Value}{tq:Tok}{h1:Heap}{tk:Nat}{real:Array Value}{ln cl:Nat}(I:Inv X pins σ H s)(hP:H P=some (.tbl #[.str L.qual 0]))(e:s.heap.get? P=some (PySem.W.tabObj real))(tr:TriplesOk real.toList)
 (cs:∀pos cv,codeAmong pos real.toList=some cv→∃(c:Addr) (o:Obj) (vs:Array Value) (tq:Tok),cv=.ref c∧H c=some (.frz o (.own P))∧o.data=.fields vs∧vs[1]? = some (.str L.qual tq))
 (hx:Heap.ExtBut P s.heap h1) (hge:s.heap.objs.size≤cc) (hlt:cc<h1.objs.size) (hoc:h1.get? cc=some oc) (hd:oc.data=.fields vs) (hq:vs[1]? = some (.str L.qual tq))
 (hT:h1.get? P=some (PySem.W.tabObj (real ++ #[rawInt ln,rawInt cl,.ref cc]))) :
 Inv X pins σ (upd (upd H cc (.frz oc (.own P))) h1.objs.size (L.ho cc ct us)) { s with heap:=h1.push (L.ob cc ct),toks:=tk }:=by
 have hsz:s.heap.objs.size≤h1.objs.size:=Nat.le_of_lt (Nat.lt_of_le_of_lt hge hlt)
 have hc0:H cc=none:=I.hok.fresh hge
 have hf0:H h1.objs.size=none:=I.hok.fresh hsz
 have ncf:cc≠h1.objs.size:=Nat.ne_of_lt hlt
 have kb:∀b o,b≠P→s.heap.get? b=some o→(h1.push (L.ob cc ct)).get? b=some o:=fun b o n q=>Heap.get?_push_of_some _ (hx b o n q)
 have nP:∀b,H b=none→b≠P:=fun b n z=>by rw[z,hP] at n;cases n
 have lt:∀b o,s.heap.get? b=some o→b≠cc∧b≠h1.objs.size:=fun b o q=>⟨Nat.ne_of_lt (Nat.lt_of_lt_of_le (Heap.lt_size q) hge),Nat.ne_of_lt (Nat.lt_of_lt_of_le (Heap.lt_size q) hsz)⟩
 have up:∀b o,H b=some o→upd (upd H cc (.frz oc (.own P))) h1.objs.size (L.ho cc ct us) b=some o:=fun b o q=>by
  rw[upd_ne (ne_of_none q hf0),upd_ne (ne_of_none q hc0)];exact q
 have hgc:(h1.push (L.ob cc ct)).get? cc=some oc:=Heap.get?_push_of_some _ hoc
 have hgf:(h1.push (L.ob cc ct)).get? h1.objs.size=some (L.ob cc ct):=Heap.get?_push_size _ rfl
 have ec:upd (upd H cc (.frz oc (.own P))) h1.objs.size (L.ho cc ct us) cc=some (.frz oc (.own P)):=by rw[upd_ne ncf,upd_same]
 refine I.un ⟨fun b o q n _ _=>kb b o (nP b n) q,fun b o q n _ _=>⟨o.slots,kb b o (nP b n) q⟩,fun b o q n _=>by rw[upd_ne (lt b o q).2,upd_ne (lt b o q).1];exact n,fun b o q _=>?_,fun b xs q=>up b _ q,fun b o u q=>up b _ q,fun b ps q=>up b _ q⟩ fun b o q=>?_
 · by_cases z:b=P
   · exact⟨_,by rw[z];exact Heap.get?_push_of_some _ hT⟩
   · exact⟨o,kb b o z q⟩
 · by_cases zf:b=h1.objs.size
   · subst zf
     rw[upd_same] at q;cases q
     exact⟨hgf,.inr ⟨⟨_,hgf⟩,L.qual,0,us,cc,oc,.own P,vs,tq,rfl,ec,hd,hq⟩⟩
   · rw[upd_ne zf] at q
     by_cases zc:b=cc
     · subst zc
       rw[upd_same] at q;cases q
       exact⟨hgc,⟨_,hgc⟩⟩
     · rw[upd_ne zc] at q
       by_cases zP:b=P
       · subst zP
         rw[hP] at q;cases q
         refine .inl ⟨L.qual,0,real ++ #[rawInt ln,rawInt cl,.ref cc],rfl,Heap.get?_push_of_some _ hT,by rw[Array.toList_append];exact yy _ tr,fun pos cv hcv=>?_⟩
         rw[Array.toList_append] at hcv
         rcases Z07 _ tr hcv with z | z
         · obtain⟨c,o,vs',tq',y1,y2,y3⟩:=cs pos cv z
           exact⟨c,o,vs',tq',y1,up _ _ y2,y3⟩
         · exact⟨cc,oc,vs,tq,z,ec,hd,hq⟩
       · exact(I.hok b o q).stay (fun d v hdv r=>kb d v (by
          rcases hdv with rfl | hdv
          · exact zP
          · intro z;rw[z,hP] at hdv;cases hdv) r) (fun d r=>up _ _ r) (fun d xs r=>up _ _ r) fun d o u r=>up _ _ r
def tLam (L:Lam):TE:=fun σ H Q=>∃us:List Value,∀(f c:Addr) (ct:Value) (H':Hp),H f=none→Same H H'→H' f=some (L.ho c ct us)→Q (.ref f) H'
theorem Z0B {params:Arguments}{body:Expr}{scope:Scope}{lpos:Pos}{c P:Addr}{L:Lam}(hL:L=⟨X.env.qual ++ "<lambda>",params,body,scope,clOf scope X.env,(X.mg "__name__").getD .none⟩)
 (hcode:X.env.code=.ref c) (hC:PySem.W.codeHdIn X.K c P=true) (hm:LamAt X.mg X.base P L.qual)
 (hfr:∀x∈scope.names,x.2=.free→X.env.scope.names.lookup x.1=some .cell∨X.env.scope.names.lookup x.1=some .free) (hdef:defaultsOf params X.env=([],[]):=by rfl) :
 PE X (.Lambda params body scope lpos) (tLam L):=by
 intro pins s σ H Q I ⟨us,h⟩
 have C:=PySem.W.codeHd_of_K I.kIn hC
 have hP:=I.tabs P _ hm.mark
 have hcl:closureFor scope X.env=pure (clOf scope X.env):=Ja fun x hx hk=>I.ok.has x.1 (hfr x hx hk)
 have hgs:s.heap.Ns mainGlobals X.mg:=I.mod.glob.keeps I.bk
 have hgP:mainGlobals≠P:=fun z=>by
  obtain⟨o,es,ep,e,_⟩:=I.mod.glob
  rw[z,hm.free] at e;cases e
 obtain⟨bm,ob,b1,b2,b3,b4,b5,b6⟩:=hm.blt
 have hbP:bm≠P:=fun z=>by rw[z,hm.free] at b3;cases b3
 have hbG:bm≠mainGlobals:=fun z=>by
  obtain⟨o,es,ep,e,hd,_⟩:=I.mod.glob
  rw[z,e] at b3;cases b3;rw[hd] at b6;cases b6
 have hb:s.heap.BuiltinsAt X.mg P:=⟨bm,ob,b1,b2,hbG,hbP,I.bk _ _ b3,b4,b5,b6⟩
 rcases I.hok P _ hP with ⟨q,t,real,e0,e,tr,cs⟩ | ⟨_,q,t,us',c',_,_,_,_,e0,_⟩
 · have eq:L.qual=q:=by
    have:=congrArg Array.toList e0
    simp only[List.cons.injEq,Value.str.injEq] at this
    exact this.1.1
   subst eq
   refine PySem.W.kla_eval hdef ?_
   cases hf:codeAmong lpos real.toList with
   | none =>
    refine PySem.W.kla_makeFunction hcl I.ok.glob hgs hcode C e tr hf hgP hb fun c' ctv h' tk hx hge hlt hrec htb=>?_
    obtain⟨c2,oc,vs,tq,e2,hoc,hd,hv⟩:=hrec
    cases e2
    have hv':vs[1]? = some (.str L.qual tq):=by rw[hL];exact hv
    have I2:=Z0P (L:=L) (ct:=ctv) (us:=us) (tk:=tk) I hP e tr cs hx hge hlt hoc hd hv' htb
    have hc0:H c'=none:=I.hok.fresh hge
    have hf0:H h'.objs.size=none:=I.hok.fresh (Nat.le_of_lt (Nat.lt_of_le_of_lt hge hlt))
    refine⟨.ref h'.objs.size,upd (upd H c' (.frz oc (.own P))) h'.objs.size (L.ho c' ctv us),?_,rfl,h h'.objs.size c' ctv _ hf0 (fun b o q=>?_) upd_same⟩
    · have:L.ob c' ctv=PySem.W.kla_obj "<lambda>" (X.env.qual ++ "<lambda>") params body scope (clOf scope X.env) ((X.mg "__name__").getD .none) c' ctv:=by rw[hL]
      rw[←this];exact I2
    · rw[upd_ne (ne_of_none q hf0),upd_ne (ne_of_none q hc0)];exact q
   | some cv =>
    obtain⟨c',oc,vs,tq,rfl,hc,hd,hv⟩:=cs lpos cv hf
    refine PySem.W.kla_makeFunctionHit hcl I.ok.glob hgs hcode C e tr hf hb fun ctv h' tk hk hsz=>?_
    have I2:=Z1z (L:=L) (cc:=c') (ct:=ctv) (us:=us) (tk:=tk) I hk hsz hc hd hv
    have hf0:H h'.objs.size=none:=I.hok.fresh hsz
    refine⟨.ref h'.objs.size,upd H h'.objs.size (L.ho c' ctv us),?_,rfl,h h'.objs.size c' ctv _ hf0 (fun b o q=>?_) upd_same⟩
    · have:L.ob c' ctv=PySem.W.kla_obj "<lambda>" (X.env.qual ++ "<lambda>") params body scope (clOf scope X.env) ((X.mg "__name__").getD .none) c' ctv:=by rw[hL]
      rw[show (PySem.W.kla_fn "<lambda>" (X.env.qual ++ "<lambda>") params body scope (clOf scope X.env) ((X.mg "__name__").getD .none) (.ref c') ctv)=L.fd c' ctv by rw[hL]]
      exact I2
    · rw[upd_ne (ne_of_none q hf0)];exact q
 · exact absurd (congrArg Array.size e0) (by simp)
end
structure CellS (s:Shared)(H:Hp)(st:List Env)(cl:List (Str × Addr))(xs:List Str)(vs:List V):Prop where
 has:∀x c,cl.lookup x=some c→(∃v,s.heap.IsCell c v)∧H c=none∧c∉frs st
 inj:∀x y c,cl.lookup x=some c→cl.lookup y=some c→x=y
 val:∀(i:Nat) x v,xs[i]? = some x→vs[i]? = some v→∃c u,cl.lookup x=some c∧s.heap.IsCell c (some u)∧RelV v u
structure FunS (s:Shared)(H:Hp)(st:List Env)(f:Addr)(L:Lam)(xs:List Str)(vs:List V):Prop where
 obj:∃c ct us,H f=some (L.ho c ct us)∧Vals vs us
 cells:CellS s H st L.cl xs vs
structure LamScope (L:Lam)(y:Str)(xs:List Str):Prop where
 kind:L.scope.kind=.function
 co:L.scope.isCoroutine=false
 gen:L.scope.isGenerator=false
 nocell:∀z∈L.scope.names,z.2 ≠ .cell
 par:L.scope.names.lookup y=some .local
 free:∀z,L.scope.names.lookup z=some .free→∃c,L.cl.lookup z=some c
 fr:∀x∈xs,L.scope.names.lookup x=some .free
 bind:∀c ct u,bindArgs (L.fd c ct) ⟨[u],[]⟩=pure [(y,u)]
def cxLam (P:Program)(w:World)(K:PySem.W.Frag)(mg:Str→Option Value)(base:Heap)(N:List Str)(L:Lam)(f:Addr)(cd:Value)(A:Around)(outer:List Env)(s:Shared)(H:Hp):Cx where
 prog:=P
 w:=w
 K:=K
 mg:=mg
 base:=base
 A:=A.deeper (PySem.W.envX L.qual L.scope s.heap.objs.size f cd L.cl)
 N:=N
 s₀:=s
 H₀:=H
 env:=PySem.W.envX L.qual L.scope s.heap.objs.size f cd L.cl
 outer:=outer
 stack:=PySem.W.envX L.qual L.scope s.heap.objs.size f cd L.cl::outer
 ex:=[]
 fn:=fun _=>false
 calm:=true
 pn:=[]
 xe:=fun _ _=>False
section
variable {X:Cx}{pins:List (Addr × Obj)}{σ:St}{H:Hp}{s:Shared}{xs:List Str}{vs:List V}{f:Addr}{L:Lam}{y:Str}
theorem Z2u {h₁:Heap}{tk:Nat}{v:V}{u cd:Value}(I:Inv X pins σ H s)(hh:X.A.handled=none)(S:LamScope L y xs)(F:CellS s H X.stack L.cl xs vs)(hl:vs.length=xs.length)(rv:RelV v u)
 (hns:h₁.Ns s.heap.objs.size (fun x=>([(y,u)]:List (Str × Value)).reverse.lookup x)) (hk:∀b o,s.heap.get? b=some o→h₁.get? b=some o) :
 Inv (cxLam X.prog X.w X.K X.mg X.base (y::xs) L f cd X.A X.stack s H) [] (start (y::xs) (v::vs)) H { s with heap:=h₁,toks:=tk }:=by
 have noA:∀b:Addr,b∉(cxLam X.prog X.w X.K X.mg X.base (y::xs) L f cd X.A X.stack s H).ex:=fun b z=>absurd (show b∈([]:List Addr) from z) (by simp)
 have e0:=I.env0
 refine⟨⟨e0.mod,S.kind,rfl,rfl,Nat.le_refl _,fun a b c h1 h2=>F.inj a b c h1 h2,fun x hx=>?_,fun x c z _=>(nomatch z),fun _=>hh,Around.frames_deeper e0.frames,.inr ⟨rfl,rfl⟩,fun b z=>absurd z (noA b),e0.bs,e0.bsz,fun b _ _=>noA b,fun b z=>absurd z (noA b),e0.funs,e0.frf,e0.tabs⟩,
  rfl,e0.bare,Un.kept hk,⟨_,hns,fun i x v' h1 h2 h3=>?_⟩,fun x c e=>?_,e0.hok.fresh (Nat.le_refl _),fun x c e=>(F.has x c e).2.1,fun p hp=>absurd (show p∈([]:List (Addr × Obj)) from hp) (by simp),e0.hok.kept hk,?_⟩
 · have hx:L.scope.names.lookup x=some .cell∨L.scope.names.lookup x=some .free:=hx
   rcases hx with z | z
   · exact absurd rfl (S.nocell _ (PySem.mem_of_lookup z))
   · exact S.free x z
 · have h1':(y::xs)[i]? = some x:=h1
   have hst:start (y::xs) (v::vs)=some v::vs.map some:=by
    unfold start
    rw[List.length_cons,List.length_cons,hl,Nat.sub_self]
    simp
   rw[hst] at h2
   cases i with
   | zero =>
    cases h2
    cases h1'
    exact⟨u,rv,.inl ⟨S.par,by simp⟩⟩
   | succ i =>
    have h1'':xs[i]? = some x:=by simpa using h1'
    have h2':vs[i]? = some v':=by
     have:(vs.map some)[i]? = some (some v'):=by simpa using h2
     rw[List.getElem?_map] at this
     cases q:vs[i]? with
     | none=>rw[q] at this;cases this
     | some z=>rw[q] at this;simpa using this
    obtain⟨c,w,e,⟨o,ho,hd⟩,r⟩:=F.val i x v' h1'' h2'
    exact⟨w,r,.inr ⟨.inr (S.fr x (List.mem_of_getElem? h1'')),c,e,o,hk _ _ ho,hd⟩⟩
 · obtain⟨⟨v',o,ho,hd⟩,_⟩:=F.has x c e
   exact⟨v',o,hk _ _ ho,hd⟩
 · unfold start
   show _=(y::xs).length
   rw[List.length_append,List.length_map,List.length_replicate,List.length_cons,List.length_cons,hl]
   omega
theorem Z20 {k:Nat}{v:V}{u:Value}{Q:VK}{t:Addr→TE}(I:Inv X pins σ H s)(hr:Room (k+1) X.A)(S:LamScope L y xs)(F:FunS s H X.stack f L xs vs)(hl:vs.length=xs.length)(rv:RelV v u)
 (hb:∀c,PE (cxLam X.prog X.w X.K X.mg X.base (y::xs) L f (.ref c) X.A X.stack s H) L.body (t c)) (ht:∀c,t c (start (y::xs) (v::vs)) H Q) :
 wpAny (model X.prog X.w) X.A (call (.ref f) [u]) (EP X pins σ Q) X.xe s:=by
 obtain⟨c,ct,us,hf,vu⟩:=F.obj
 obtain⟨of1,of2⟩:=I.hok f _ hf
 rcases of2 with ⟨q,tt,real,e0,_⟩ | ⟨_,q,tt,us',c',oc,u',vs',tq,e0,hc,hd,hq⟩
 · exact absurd (congrArg Array.size e0) (by simp)
 · have e1:c=c'∧L.qual=q:=by
    have:=congrArg Array.toList e0
    simp only[List.cons.injEq,Value.str.injEq,Value.ref.injEq] at this
    exact⟨this.1,this.2.1.1⟩
   obtain⟨rfl,rfl⟩:=e1
   have hcd:s.heap.CodeRec (.ref c) L.qual:=⟨c,oc,vs',tq,rfl,(I.hok c _ hc).1,hd,hq⟩
   refine wpAny_call (codeAny_mono (R:=CR CX0 X.stack X.prog X.w H s Q E0) (PySem.W.kla_callFunE hr.depth of1 rfl S.co S.gen rfl hcd ?_) fun r s' hq=>?_)
   · show wpAny _ _ (bindArgs (L.fd c ct) ⟨[u],[]⟩) _ _ _
     rw[S.bind]
     refine wpAny_pure (wpAny_newFunctionEnv S.nocell (fun x hx=>?_) (fun h₁ hns hsb=>⟨I.nolimit.fresh _ hsb,?_⟩) S.kind)
     · have:x=(y,u):=by simpa using hx
       rw[this];exact S.par
     · refine PySem.W.kla_codeExpr ?_
       have hk₁:∀b o,s.heap.get? b=some o→h₁.get? b=some o:=fun b o e=>hsb.extBut b o (Nat.ne_of_lt (Heap.lt_size e)) (Heap.get?_push_of_some _ e)
       exact wpAny_mono (hb c [] _ _ H Q (Z2u I hr.hd S F.cells hl rv hns hk₁) (ht c)) (fun u2 s2 ⟨v2,H2,J,r2,q2⟩=>⟨v2,H2,J.os,J.bare,J.base,J.hok,r2,q2⟩) fun e s2 z=>z.elim
   · cases r with
     | error e=>exact(show False from hq).elim
     | ok fl =>
      cases fl with
      | ret u=>exact I.after hq
      | next=>exact False.elim hq
      | brk=>exact False.elim hq
      | cont=>exact False.elim hq
end
def LamOk (P:Program)(w:World)(K:PySem.W.Frag)(mg:Str→Option Value)(base:Heap)(k:Nat)(L:Lam)(y:Str)(xs:List Str)(d:D)(ds:List D)(r:R):Prop :=
 ∀(X:Cx) (f c:Addr) (A:Around) (outer:List Env) (s:Shared) (H:Hp),X=cxLam P w K mg base (y::xs) L f (.ref c) A outer s H→Room k X.A→QE X (start0 (y::xs) (d::ds)) L.body r
def CapsOk (X:Cx)(ρ:Ro)(scope:Scope):List (Str × Nat × D)→Prop
 | []=>True
 | t::r=>(X.N[t.2.1]? = some t.1∧ρ[t.2.1]? = some (.dat t.2.2)∧scope.names.lookup t.1=some .free)∧CapsOk X ρ scope r
theorem CapsOk.vals {X:Cx}{ρ:Ro}{scope:Scope}{G0 H0 G H:Hp}{σ:St}(c:Conf X.K G0 H0 ρ G σ H):∀ {l:List (Str × Nat × D)},CapsOk X ρ scope l →
 ∃vs:List V,IsL X.K G (l.map (·.2.2)) vs∧vs.length=l.length∧∀(i:Nat) x v,(l.map (·.1))[i]? = some x→vs[i]? = some v→∃j:Nat,X.N[j]? = some x∧σ[j]? = some (some v)∧scope.names.lookup x=some .free
 | [],_=>⟨[],by rw[List.map_nil];unfold IsL;rfl,rfl,fun i x v h _=>by simp at h⟩
 | t::r,h=>by
  obtain⟨⟨h1,h2,h3⟩,hr⟩:=h
  obtain⟨vs,i1,i2,i3⟩:=CapsOk.vals c hr
  obtain⟨v,e1,e2⟩:=c.dat _ _ h2
  refine⟨v::vs,by rw[List.map_cons];unfold IsL;exact⟨v,vs,rfl,e2,i1⟩,by simp[i2],fun i x u g1 g2=>?_⟩
  cases i with
  | zero=>simp at g1 g2;subst g1;subst g2;exact⟨_,h1,e1,h3⟩
  | succ i=>exact i3 i x u (by simpa using g1) (by simpa using g2)
section
variable {X:Cx}{ρ:Ro}{r:R}{e:Expr}{p pos:Pos}{d:D}{L:Lam}{y:Str}{k:Nat}{g:Str}{ps:List Str}{pre:Shared→Hp→List Env→List D→R→Prop}{params:Arguments}{body:Expr}{scope:Scope}{lpos:Pos}{c P:Addr}
theorem Z2x {caps:List (Str × Nat × D)}{vs:List V}{pins:List (Addr × Obj)}{σ:St}{H:Hp}{s:Shared}{f c:Addr}{ct:Value}(I:Inv X pins σ H s)(hL:L.cl=clOf scope X.env)
 (hfr:∀x∈scope.names,x.2=.free→X.env.scope.names.lookup x.1=some .cell∨X.env.scope.names.lookup x.1=some .free) (hfn:∀x,X.fn x=true) (hf:H f=some (L.ho c ct (vs.map canon)))
 (hv:∀(i:Nat) x v,(caps.map (·.1))[i]? = some x→vs[i]? = some v→∃j:Nat,X.N[j]? = some x∧σ[j]? = some (some v)∧scope.names.lookup x=some .free):FunS s H X.stack f L (caps.map (·.1)) vs:=by
 have hcells:∀x∈scope.names,x.2=.free→∃c,X.env.cells.lookup x.1=some c:=fun x hx hk=>I.ok.has x.1 (hfr x hx hk)
 have lk:∀x c,L.cl.lookup x=some c→X.env.cells.lookup x=some c:=fun x c e=>by rw[hL] at e;exact Yo hcells e
 refine⟨⟨c,ct,_,hf,JZ vs⟩,⟨fun x c e=>?_,fun x y c h1 h2=>I.ok.inj x y c (lk x c h1) (lk y c h2),fun i x v h1 h2=>?_⟩⟩
 · have e':=lk x c e
   refine⟨I.cell x c e',I.freeC x c e',fun z=>?_⟩
   rcases List.mem_cons.mp (I.stkSub c z) with q | q
   · exact I.cne x c e' q
   · obtain⟨_,o,ho,_⟩:=I.ok.funs.mem q
     exact absurd (Nat.lt_of_lt_of_le (Heap.lt_size ho) (I.ok.cab x c (hfn x) e')) (Nat.lt_irrefl _)
 · obtain⟨j,j1,j2,j3⟩:=hv i x v h1 h2
   have ho:=hfr _ (Zz j3) rfl
   obtain⟨m0,_,hl⟩:=I.loc
   obtain⟨u,rr,l⟩:=hl j x v j1 j2 (ho.elim (fun z=>.inr (.inl z)) fun z=>.inr (.inr z))
   rcases l with ⟨z,_⟩ | ⟨_,c',ec,hcell⟩
   · have z':X.env.scope.names.lookup x=some .local:=z
     rcases ho with q | q <;> (have q':X.env.scope.names.lookup x=_:=q;rw[z'] at q';cases q')
   · obtain⟨c2,ec2⟩:=Jb (env:=X.env) ⟨_,Zz j3,rfl,rfl⟩
     have e2:=Yo hcells ec2
     rw[ec] at e2
     cases e2
     exact⟨c',u,by rw[hL];exact ec2,hcell,rr⟩
end
end L2.L3
namespace L2
open PySem PySem.Spec PyProof.Rows
def OnlyT (ts:Addr→Option Str)(H:Hp):Prop:=∀b,H b=none∨(∃o xs,H b=some (.frz o (.lst xs))) ∨ ∃q,ts b=some q∧H b=some (.tbl #[.str q 0])
theorem Z0J {P0:Program}{w:World}{K:PySem.W.Frag}{mg mb:Str→Option Value}{CX:CXT}{k:Nat}{fa a:Addr}{fd:FuncData}{x:Str}{sp:Sp}{s₁:Shared}{vs:List Value}{ns:List Int}{ts:Addr→Option Str}
 (KX:K.In s₁.heap) (hns:s₁.heap.Ns mainGlobals mg) (hb:s₁.heap.Ns builtinsNs mb) (hbb:∀x:Str,x ≠ "__name__" → mb x=bootBuiltins x) (hlim:s₁.heap.NoLimit) (hg:s₁.gens = #[])
 (ha:s₁.heap.get? a=some { cls:=.type "list",data:=.seq vs.toArray }) (hi:IntsAre vs ns) (hl:ns.length≤sizeLine) (hr:Room k callerA)
 (hbm:∃bm ob,mg "__builtins__" = some (.ref bm)∧bm≠builtinsNs∧s₁.heap.get? bm=some ob∧ob.cls=.type "module" ∧ ob.dict=some builtinsNs∧ob.data=.plain)
 (ht:∀P q,ts P=some q→s₁.heap.get? P=some (PySem.W.tabObj #[])∧isCodeTable s₁.heap P∧K.lookup P=none)
 (F:∀base:Heap,K.In base→base.Ns mainGlobals mg→(∀P q,ts P=some q→L3.LamAt mg base P q)→FnOk P0 w K mg base CX k fa fd [x] sp) (hbind:∀(s:Shared) (u:Value),BindsTo s fd ⟨[u],[]⟩ [(x,u)])
 (hsp:∀H:Hp,OnlyT ts H→SqL K H a (ns.map V.int)→sp [.ref a] H (fun v _=>v=.bl true) fun _ _ _=>False)
 (hCX:∀H e s',CX [] H s₁ (fun _ _ _=>False) e s'→False) :
 codeAny (model P0 w) callerA (.call (.ref fa) ⟨[.ref a],[]⟩) (fun r s'=>r=.ok (.ret (.bool true))∧OldK s₁.heap s'.heap∧s'.os=s₁.os∧AllBare s'.gens) s₁:=by
 have rv:=vals_ints hi
 have lenV:=hi.length
 have nta:ts a=none:=by
  cases q:ts a with
  | none=>rfl
  | some z =>
   have:=(ht a z q).1
   rw[ha] at this;cases this
 have core:∀H:Hp,OnlyT ts H→SqL K H a (ns.map V.int)→HOk P0 w H s₁.heap→(∀b,H b≠none→b=a∨(ts b).isSome=true)→(∀P q,ts P=some q→H P=some (.tbl #[.str q 0]))→(H a≠none→K.lookup a=none) →
  codeAny (model P0 w) callerA (.call (.ref fa) ⟨[.ref a],[]⟩) (fun r s'=>r=.ok (.ret (.bool true))∧OldK s₁.heap s'.heap∧s'.os=s₁.os∧AllBare s'.gens) s₁:=by
  intro H hO hS hok hA hT hK
  have base_of:∀ {b:Addr} {o:Obj},s₁.heap.get? b=some o→H b=none→(hidS s₁.heap H ts).get? b=some o:=fun e n=>hidS_get e n
  have notrk:∀ {b:Addr} {o:Obj},s₁.heap.get? b=some o→(∀ws,o.data ≠ .seq ws)→o.data ≠ .fields #[]→H b=none:=fun {b o} e d1 d2=>by
   cases q:H b with
   | none=>rfl
   | some u =>
    rcases hA b (by rw[q];simp) with e' | e'
    · subst e'
      rw[ha] at e;cases e
      exact absurd rfl (d1 vs.toArray)
    · obtain⟨z,hz⟩:=Option.isSome_iff_exists.mp e'
      have:=(ht b z hz).1
      rw[e] at this;cases this
      exact absurd rfl d2
  have nsK:∀ {b:Addr} {m:Str→Option Value},s₁.heap.Ns b m→(hidS s₁.heap H ts).Ns b m:=fun {b m} ⟨o,es,ep,e,d,r⟩=>⟨o,es,ep,base_of e (notrk e (fun ws z=>by rw[d] at z;cases z) (fun z=>by rw[d] at z;cases z)),d,r⟩
  have hKb:K.In (hidS s₁.heap H ts):=fun b o e=>base_of (KX b o e) (by
   cases q:H b with
   | none=>rfl
   | some u =>
    rcases hA b (by rw[q];simp) with e' | e'
    · subst e'
      rw[hK (by rw[q];simp)] at e;cases e
    · obtain⟨z,hz⟩:=Option.isSome_iff_exists.mp e'
      rw[(ht b z hz).2.2] at e;cases e)
  have hM:Mod K mg (hidS s₁.heap H ts):=⟨hKb,nsK hns,⟨mb,nsK hb,hbb⟩,let ⟨mc,h1,h2⟩:=hlim;⟨mc,nsK h1,h2⟩⟩
  have hLm:∀P q,ts P=some q→L3.LamAt mg (hidS s₁.heap H ts) P q:=fun P q e=>by
   obtain⟨t1,_,_⟩:=ht P q e
   refine⟨scrub_marked e (by rw[hidT_size];exact Heap.lt_size t1) (hidT_none (by rw[hT P q e];simp)),?_⟩
   obtain⟨bm,ob,b1,b2,b3,b4,b5,b6⟩:=hbm
   exact⟨bm,ob,b1,b2,base_of b3 (notrk b3 (fun ws z=>by rw[b6] at z;cases z) (fun z=>by rw[b6] at z;cases z)),b4,b5,b6⟩
  have e0:Env0 P0 w K mg (hidS s₁.heap H ts) callerA [] s₁ H:=⟨rfl,hM,fun b o e=>of_hidS e,Nat.le_of_eq (hidS_size _ _ _),trivial,fun b hb=>absurd (show b∈([]:List Addr) from hb) (by simp),hok,.of_eq hg,fun P q e=>hT P q (scrub_mark e)⟩
  refine codeAny_mono ((F _ hKb (nsK hns) hLm).run callerA [] s₁ H ⟨[.ref a],[]⟩ [.ref a] [.ref a] _ _ hr e0 (hbind s₁ (.ref a)) (.cons rfl .nil) (hsp H hO hS)) fun r s' h=>?_
  cases r with
  | error e=>exact(hCX H e s' h).elim
  | ok fl =>
   cases fl with
   | next=>exact False.elim h
   | brk=>exact False.elim h
   | cont=>exact False.elim h
   | ret u =>
    obtain⟨v,H',os,bare,un,hok',r',q⟩:=h
    have q':v=.bl true:=q
    subst q'
    obtain rfl:u=Value.bool true:=r'
    refine⟨rfl,⟨fun b o e=>?_,fun b o e=>un.there b o e (by simp)⟩,os,bare⟩
    rcases hO b with z | ⟨ob,xs,z⟩ | ⟨q,hq,z⟩
    · exact .inl (un.keep b o e z (by intro y;exact absurd (show b∈([]:List Addr) from y) (by simp)) (by simp))
    · have z2:=un.frzs b ob _ z
      obtain⟨e1,_⟩:=hok b _ z
      obtain⟨e2,_⟩:=hok' b _ z2
      rw[e] at e1;cases e1
      exact .inl e2
    · obtain⟨t1,t2,_⟩:=ht b q hq
      rw[e] at t1;cases t1
      rcases hok' b _ (un.tbls b _ z) with ⟨_,_,real,_,e2,_⟩ | ⟨_,_,_,us,c,_,_,_,_,e2,_⟩
      · exact .inr (.inl ⟨t2,rfl,#[],real,rfl,by rw[Array.empty_append];exact e2⟩)
      · exact absurd (congrArg Array.size e2) (by simp)
 have tabOk:∀(H:Hp) P q,ts P=some q→ObjOk P0 w H s₁.heap P (.tbl #[.str q 0]):=fun H P q e=>.inl ⟨q,0,#[],rfl,(ht P q e).1,trivial,fun pos cv z=>by cases z⟩
 cases hk:K.lookup a with
 | some o =>
  have e:=KX a o hk
  rw[ha] at e
  cases e
  refine core (fun b=>(ts b).map fun q=>.tbl #[.str q 0]) (fun b=>?_) (.inr ⟨_,vs.toArray,_,hk,rfl,rfl,rfl,by rw[List.size_toArray,lenV];exact hl,by simpa using rv⟩) (fun b u z=>?_) (fun b z=>?_) (fun P q e=>by simp only[e,Option.map_some]) fun z=>absurd (by simp only[nta,Option.map_none]) z
  · cases q:ts b with
    | none=>exact .inl (by simp only[q,Option.map_none])
    | some z=>exact .inr (.inr ⟨z,rfl,by simp only[q,Option.map_some]⟩)
  · cases q:ts b with
    | none=>simp only[q,Option.map_none] at z;cases z
    | some y=>simp only[q,Option.map_some] at z;cases z;exact tabOk _ b y q
  · right
    cases q:ts b with
    | none=>exact absurd (by simp only[q,Option.map_none]) z
    | some y=>rfl
 | none =>
  refine core (fun b=>if b=a then some (.frz { cls:=.type "list",data:=.seq vs.toArray } (.lst (ns.map V.int))) else (ts b).map fun q=>.tbl #[.str q 0]) (fun b=>?_) (.inl (.inr ⟨{ cls:=.type "list",data:=.seq vs.toArray },if_pos rfl⟩)) (fun b u z=>?_) (fun b z=>?_) (fun P q e=>?_) fun _=>hk
  · by_cases hb:b=a
    · exact .inr (.inl ⟨_,_,if_pos hb⟩)
    · cases q:ts b with
      | none=>exact .inl (by simp only[if_neg hb,q,Option.map_none])
      | some z=>exact .inr (.inr ⟨z,rfl,by simp only[if_neg hb,q,Option.map_some]⟩)
  · by_cases hb:b=a
    · have z':=(if_pos hb).symm.trans z
      cases z'
      subst hb
      exact⟨ha,by rw[List.length_map];exact hl,vs,_,rv,ha⟩
    · cases q:ts b with
      | none=>simp only[if_neg hb,q,Option.map_none] at z;cases z
      | some y=>simp only[if_neg hb,q,Option.map_some] at z;cases z;exact tabOk _ b y q
  · by_cases hb:b=a
    · exact .inl hb
    · right
      cases q:ts b with
      | none=>exact absurd (by simp only[if_neg hb,q,Option.map_none]) z
      | some y=>rfl
  · have:P≠a:=fun z=>by rw[z,nta] at e;cases e
    simp only[if_neg this,e,Option.map_some]
theorem walk_ofT {l:PySem.W.OpenLaw}{n k:Nat}{q:Program}{loose:List Str}{XP:(Str→Option Value)→Heap→Prop}{YP:World→Heap→Prop}{d:DefRec}{K:Params→PySem.W.Frag}{CX:CXT}{sp:PySem.W.Frag→Sp}{x:Str}{ts:Addr→Option Str}
 (hn:l.most=some n) (hn2:n≤sizeLine) (hdf:d.params.defaults=[]) (hr:Room k callerA)
 (hY:∀(w:World) (h:Heap),YP w h→(K w.params).In h)
 (hT:∀(w:World) (h:Heap),YP w h→∀P q,ts P=some q→h.get? P=some (PySem.W.tabObj #[])∧isCodeTable h P∧(K w.params).lookup P=none)
 (F:∀(w:World) (mg:Str→Option Value) (fa:Addr) (h:Heap),(K w.params).In h→h.Ns mainGlobals mg→mg d.name=some (.ref fa) →
  ∃fd:FuncData,(∀(s:Shared) (u:Value),BindsTo s fd ⟨[u],[]⟩ [(x,u)]) ∧
   ∀base:Heap,(K w.params).In base→base.Ns mainGlobals mg→(∀P q,ts P=some q→L3.LamAt mg base P q)→FnOk l.prog w (K w.params) mg base CX k fa fd [x] (sp (K w.params)))
 (hsp:∀(K:PySem.W.Frag) (H:Hp) (a:Addr) (ns:List Int),ns.length≤n→OnlyT ts H→SqL K H a (ns.map V.int)→sp K [.ref a] H (fun v _=>v=.bl true) fun _ _ _=>False)
 (hCX:∀(H:Hp) (s:Shared) (e:Value) (s':Shared),CX [] H s (fun _ _ _=>False) e s'→False) :
 PySem.W.WalkO q loose XP YP l.row.toRowW d [] (fun f vs=>PySem.call f vs):=by
 refine Att.attach_call hn hdf fun w s₀ s₁ mg mb fa o pm cd doc a vs ns G Y ho hd hcd hmg hobj hints hlen hg=>?_
 have KX:=hY w _ Y
 obtain⟨fd,hb,hF⟩:=F w mg fa _ KX G.T.g hmg
 exact Z0J KX G.T.g G.T.b G.T.builtins G.T.nolimit hg hobj hints (Nat.le_trans hlen hn2) hr G.T.bmain (hT w _ Y) hF hb (fun H hO hS=>hsp (K w.params) H a ns hlen hO hS) fun H e s'=>hCX H s₁ e s'
end L2
namespace L2.L3
open PySem PySem.Spec PyProof.Rows
end L2.L3
namespace L2
open PySem PySem.Spec PyProof.Rows
end L2
namespace L2.L3
open PySem PySem.Spec PyProof.Rows
theorem vals_at {xs:List V}{us:List Value}(r:Vals xs us):∀ {i:Nat} {u:Value},us[i]? = some u→∃x,xs[i]? = some x∧RelV x u:=by
 induction r with
 | nil=>intro i u e;simp at e
 | cons a b ih =>
  intro i u e
  cases i with
  | zero=>simp at e;subst e;exact⟨_,rfl,a⟩
  | succ i=>obtain⟨x,h1,h2⟩:=ih (by simpa using e);exact⟨x,by simpa using h1,h2⟩
end L2.L3
namespace L2.Su
open PySem
open L2 L2.L3
end L2.Su
namespace L2
open PySem PySem.Spec PyProof.Rows
end L2
namespace L2.L3
open PySem PySem.Spec PyProof.Rows
end L2.L3
namespace L2.Su
open PySem L2 L2.L3
end L2.Su
namespace L2.L3
open PySem PySem.Spec PyProof.Rows
end L2.L3
namespace L2
open PySem PySem.Spec PyProof.Rows
end L2
namespace L2.L3
open PySem PySem.Spec PyProof.Rows
end L2.L3
namespace L2
open PySem PySem.Spec PyProof.Rows
end L2
namespace L2.L3
open PySem PySem.Spec PyProof.Rows
end L2.L3
namespace L2
open PySem PySem.Spec PyProof.Rows
end L2
namespace L2.L3
open PySem PySem.Spec PyProof.Rows
end L2.L3
namespace L2
open PySem PySem.Spec PyProof.Rows
namespace L3
end L3
end L2
namespace L2.Su
open PySem L2 L2.L3
end L2.Su
namespace L2.L3
open PySem L2 L2.Su
end L2.L3
namespace L2.Su
open PySem L2 L2.L3
end L2.Su
namespace L2
open PySem PySem.Spec PyProof.Rows
end L2
namespace L2.L3
open PySem PySem.Spec PyProof.Rows
end L2.L3
namespace L2
open PySem PySem.Spec PyProof.Rows
end L2
namespace L2.L3
open PySem PySem.Spec PyProof.Rows
mutual
def nodD:D→Bool
 | .non=>true
 | .bl _=>true
 | .int _=>true
 | .str _=>true
 | .tup ds=>nodDs ds
 | .lst ds=>nodDs ds
 | .exn _=>false
 | .obj _ _ _=>false
 | .dct _ _=>false
 | .dtp _ _=>false
 | .fn _ _=>false
def nodDs:List D→Bool
 | []=>true
 | d::ds=>nodD d&&nodDs ds
end
section
variable {K:PySem.W.Frag}{G:Hp}{a:Addr}{ob:HO}
theorem Z25 {b:Addr}{o:HO}(ga:G a=some ob)(hno:ob≠o)(hf:∀u,ob ≠ .frz u o)(h:Rd G b o):Rd (fun c=>if c=a then none else G c) b o:=by
 rcases h with h | ⟨u,h⟩
 · left
   show (if b=a then none else G b)=some o
   rw[if_neg (fun z=>by rw[z,ga] at h;exact hno (Option.some.inj h))];exact h
 · right
   refine⟨u,?_⟩
   show (if b=a then none else G b)=some (.frz u o)
   rw[if_neg (fun z=>by rw[z,ga] at h;exact hf u (Option.some.inj h))];exact h
mutual
theorem Is.nod (ga:G a=some ob)(h1:∀xs,ob ≠ .lst xs)(h2:∀xs,ob ≠ .tup xs)(h3:∀u o,ob ≠ .frz u o):∀ {d:D} {v:V},nodD d=true→Is K G d v→Is K (fun c=>if c=a then none else G c) d v
 | .non,v,_,i=>by unfold Is at i ⊢;exact i
 | .bl _,v,_,i=>by unfold Is at i ⊢;exact i
 | .int _,v,_,i=>by unfold Is at i ⊢;exact i
 | .str _,v,_,i=>by unfold Is at i ⊢;exact i
 | .tup ds,v,hd,i=>by
  unfold nodD at hd
  unfold Is at i ⊢
  obtain⟨b,xs,e,g,l⟩:=i
  refine⟨b,xs,e,?_,IsL.nod ga h1 h2 h3 hd l⟩
  show (if b=a then none else G b)=some _
  rw[if_neg (fun z=>by rw[z,ga] at g;exact h2 xs (Option.some.inj g))];exact g
 | .lst ds,v,hd,i=>by
  unfold nodD at hd
  unfold Is at i ⊢
  obtain⟨b,xs,e,g,l⟩:=i
  refine⟨b,xs,e,?_,IsL.nod ga h1 h2 h3 hd l⟩
  rcases g with g | g
  · exact .inl (Z25 ga (h1 xs) (fun u=>h3 u _) g)
  · exact .inr g
theorem IsL.nod (ga:G a=some ob)(h1:∀xs,ob ≠ .lst xs)(h2:∀xs,ob ≠ .tup xs)(h3:∀u o,ob ≠ .frz u o):∀ {ds:List D} {vs:List V},nodDs ds=true→IsL K G ds vs→IsL K (fun c=>if c=a then none else G c) ds vs
 | [],vs,_,i=>by unfold IsL at i ⊢;exact i
 | d::ds,vs,hd,i=>by
  unfold nodDs at hd
  rw[Bool.and_eq_true] at hd
  unfold IsL at i ⊢
  obtain⟨x,r,e,i1,i2⟩:=i
  exact⟨x,r,e,Is.nod ga h1 h2 h3 hd.1 i1,IsL.nod ga h1 h2 h3 hd.2 i2⟩
end
end
end L2.L3
namespace L2
open PySem PySem.Spec PyProof.Rows
end L2
namespace L2.L3
open PySem PySem.Spec PyProof.Rows
end L2.L3
namespace L2
open PySem PySem.Spec PyProof.Rows
end L2
namespace L2.L3
open PySem PySem.Spec PyProof.Rows
section
variable {X:Cx}{ρ:Ro}{E:XW}{e o:Expr}{x y:Str}{p p1 p2 pos:Pos}{lk:List Key}{ds:List D}
theorem zG {K:PySem.W.Frag}{G:Hp}{v:V}(h:Is K G (.dct lk ds) v):∃a es,v=.ref a∧G a=some (.dK es)∧es.map (·.1)=lk∧IsL K G ds (es.map (·.2)):=by
 unfold Is at h
 exact h
end
end L2.L3
namespace L2
open PySem PySem.Spec PyProof.Rows
end L2
namespace L2.L3
open PySem PySem.Spec PyProof.Rows
end L2.L3
namespace L2.Ge
end L2.Ge
namespace L2.L3
open PySem PySem.Spec PyProof.Rows
section
variable {X:Cx}{ρ:Ro}{r:R}{e o:Expr}{pos p1:Pos}{E:XW}{x y:Str}{lk:List Key}{vs:List D}
theorem Ji {k:Key}(hu:X.A.units+1<cLine)(he:QE X ρ e (.dat (keyD k)))(ho:QE X ρ o (.dat (.dct lk vs)))(hb:behindInMarks .NotIn o=false:=by rfl) :
 QT X ρ (.Compare e [.NotIn] [o] pos) (!(valG (lk.zip vs) k).isSome) :=
 yp (pt_cmp (pc_dnotin hu he.u ho.u) hb) fun G0 H0 G σ H Q c q=>⟨G0,H0,G,c,fun v0 G1 H1 g1 i1=>⟨G0,H0,G1,c.up g1,fun v G2 H2 g2 i2=>by
  obtain⟨a,es,rfl,h4,h5,h6⟩:=zG i2
  have he:=Ents.of h5 h6
  refine⟨a,_,rfl,by rw[zn i1];exact DGet.k (g2.sub _ _ h4),_,rfl,?_⟩
  have:=q G2 H2 (g1.trans g2)
  rcases he.val k with ⟨z1,z2⟩ | ⟨d,v,z1,z2,_⟩
  · rw[z1] at this;rw[z2];exact this
  · rw[z1] at this;rw[z2];exact this⟩⟩
end
end L2.L3
namespace L2
open PySem PySem.Spec PyProof.Rows
section
variable {X:Cx}{pins:List (Addr × Obj)}{σ:St}{H H':Hp}{s:Shared}{h':Heap}
theorem Inv.adopt {a:Addr}{o:HO}{t':Nat}(I:Inv X pins σ H s)(fp:FpOk X pins H a)(k:∀b u,b≠a→s.heap.get? b=some u→h'.get? b=some u)(new:ObjOk X.prog X.w (upd H a o) h' a o):Inv X pins σ (upd H a o) { s with heap:=h',toks:=t' }:=by
 obtain⟨f0,f1,f2,f3,f4,f5⟩:=fp
 have ne:∀b u,H b=some u→b≠a:=fun b u e z=>by rw[z,f0] at e;cases e
 refine I.step (g':=s.gens) (d':=s.drawn) (ch:=[a]) (fun b hb=>?_) (fun b o _ _ hc e _=>k b o (fun z=>hc (by simp[z])) e) (fun b o _ _ hc e _=>⟨o.slots,k b o (fun z=>hc (by simp[z])) e⟩) (fun b o hc e n=>by rw[upd_ne (fun z=>hc (by simp[z]))];exact n)
  (fun b o hc e=>⟨o,k b o (fun z=>hc (by simp[z])) e⟩) (fun b xs e=>by rw[upd_ne (ne b _ e)];exact e) (fun b o u e=>by rw[upd_ne (ne b _ e)];exact e) (fun b ps e=>by rw[upd_ne (ne b _ e)];exact e) (fun m hm=>?_) (fun b u e=>?_) I.bare
 · have e:b=a:=by simpa using hb
   subst e
   exact⟨f3,f1,f4,f5⟩
 · obtain⟨o,es,ep,ho,r⟩:=hm
   exact⟨o,es,ep,k _ o (Ne.symm f1) ho,r⟩
 · by_cases hb:b=a
   · subst hb;rw[upd_same] at e;cases e;exact new
   · rw[upd_ne hb] at e
     refine(I.hok b u e).stay (fun c v hc q=>k c v ?_ q) (fun c q=>by rw[upd_ne (ne c _ q)];exact q) (fun c xs q=>by rw[upd_ne (ne c _ q)];exact q) fun c o u q=>by rw[upd_ne (ne c _ q)];exact q
     rcases hc with z | z
     · rw[z];exact hb
     · exact ne c _ z
theorem Inv.turnedTwo {a c:Addr}{t':Nat}(I:Inv X pins σ H s)(fa:FpOk X pins H a)(fc:FpOk X pins H c)(k:∀b u,b≠a→b≠c→s.heap.get? b=some u→h'.get? b=some u)(ha:∃u,h'.get? a=some u)(hc:∃u,h'.get? c=some u):Inv X pins σ H { s with heap:=h',toks:=t' }:=by
 obtain⟨f0,f1,f2,f3,f4,f5⟩:=fa
 obtain⟨g0,g1,g2,g3,g4,g5⟩:=fc
 have nx:∀b,b∉[a,c]→b≠a∧b≠c:=fun b hb=>⟨fun z=>hb (by simp[z]),fun z=>hb (by simp[z])⟩
 have ne:∀b u,H b=some u→b≠a∧b≠c:=fun b u e=>⟨fun z=>(by rw[z,f0] at e;cases e),fun z=>(by rw[z,g0] at e;cases e)⟩
 refine I.step (g':=s.gens) (d':=s.drawn) (ch:=[a,c]) (fun b hb=>?_) (fun b o _ _ hc e _=>k b o (nx b hc).1 (nx b hc).2 e) (fun b o _ _ hc e _=>⟨o.slots,k b o (nx b hc).1 (nx b hc).2 e⟩) (fun _ _ _ _ n=>n)
  (fun b o hc e=>⟨o,k b o (nx b hc).1 (nx b hc).2 e⟩) (fun _ _ e=>e) (fun _ _ _ e=>e) (fun _ _ e=>e) (fun m hm=>?_) (fun b u e=>?_) I.bare
 · rcases List.mem_cons.mp hb with e | hb
   · subst e;exact⟨f3,f1,f4,f5⟩
   · have e:=List.mem_singleton.mp hb
     subst e;exact⟨g3,g1,g4,g5⟩
 · obtain⟨o,es,ep,ho,r⟩:=hm
   exact⟨o,es,ep,k _ o (Ne.symm f1) (Ne.symm g1) ho,r⟩
 · refine(I.hok b u e).stay (fun c' v hc q=>k c' v ?_ ?_ q) (fun _ q=>q) fun _ _ q=>q
   · rcases hc with z | z
     · rw[z];exact(ne b u e).1
     · exact(ne c' _ z).1
   · rcases hc with z | z
     · rw[z];exact(ne b u e).2
     · exact(ne c' _ z).2
theorem Z0A {ps:List (Int × Value)}:∀ {zs:List (Int × Value)},ps.Perm zs→∀ {ws:List (Int × V)},zs.map (·.1)=ws.map (·.1)→Vals (ws.map (·.2)) (zs.map (·.2))→∃qs:List (Int × V),qs.Perm ws∧ps.map (·.1)=qs.map (·.1)∧Vals (qs.map (·.2)) (ps.map (·.2)):=by
 intro zs h
 induction h with
 | nil =>
  intro ws e r
  cases ws with
  | nil=>exact⟨[],.nil,rfl,.nil⟩
  | cons _ _=>cases e
 | cons x h ih =>
  intro ws e r
  cases ws with
  | nil=>cases e
  | cons w ws =>
   rw[List.map_cons,List.map_cons] at e r
   cases r with
   | cons r1 r2 =>
    obtain⟨qs,q1,q2,q3⟩:=ih (List.cons.inj e).2 r2
    exact⟨w::qs,q1.cons w,by rw[List.map_cons,List.map_cons,q2,(List.cons.inj e).1],.cons r1 q3⟩
 | swap x y l =>
  intro ws e r
  match ws,e,r with
  | w1::w2::ws,e,r =>
   simp only[List.map_cons,List.cons.injEq] at e
   cases r with
   | cons r1 r2 =>
    cases r2 with
    | cons r2 r3=>exact⟨w2::w1::ws,.swap w1 w2 ws,by simp only[List.map_cons,e.1,e.2.1,e.2.2],.cons r2 (.cons r1 r3)⟩
 | trans h1 h2 ih1 ih2 =>
  intro ws e r
  obtain⟨qs,q1,q2,q3⟩:=ih2 e r
  obtain⟨rs,r1,r2,r3⟩:=ih1 q2 q3
  exact⟨rs,r1.trans q1,r2,r3⟩
theorem Z2t {A:Around}{E:Value→Shared→Prop}{P:PySem.Fin→Shared→Prop}{a kS:Addr}{its:List Value}{kz:List Int}{keys:Array Value}{e e1:Nat}(na:s.heap.get? a=some (seqObj "list" #[] e1))(nk:s.heap.get? kS=some (seqObj "list" keys e))(hka:kS≠a)
 (hk:IntsAre keys.toList kz) (hlen:kz.length=its.length) (h64:its.length<64)
 (h:∀h2 tk out c,(∀b u,b≠a→b≠kS→s.heap.get? b=some u→h2.get? b=some u)→(∃z,h2.get? kS=some z)→h2.get? a=some (seqObj "list" out c)→KskOut false kz its out.toList→P (.done (.ret .none)) { s with heap:=h2,toks:=tk }) :
 wpAny (model X.prog X.w) A (ksk_end a false its.toArray e1 (.ref kS) keys) P E s:=by
 have hsz:keys.size=its.length:=by
  have h1:=hk.length
  rw[Array.length_toList] at h1;omega
 have hzs:(keys.zip its.toArray).size=its.length:=by rw[Array.size_zip,hsz,List.size_toArray,Nat.min_self]
 have tail:∀st:SortSt,(arrOf st).Perm (keys.zip its.toArray)→SortedTo (arrOf st) (arrOf st).size→failedOf st=none→wpAny (model X.prog X.w) A (ksk_tail a false e1 (.ref kS) st) P E s:=fun st hp hs hf=>by
  have hsz2:(arrOf st).size=its.length:=by rw[hp.size_eq,hzs]
  have u1:=Heap.SameBut.update s.heap kS (Obj.mapSeq fun _=>(#[]:Array Value))
  have na1:=(u1.2 a hka.symm).trans na
  have u2:=Heap.SameBut.update (s.heap.update kS (Obj.mapSeq fun _=>(#[]:Array Value))) a (Obj.mapSeq fun _=>(arrOf st).map (·.2))
  have g2:=get?_update_seq na1 fun _=>(arrOf st).map (·.2)
  have g1:=get?_update_seq nk fun _=>(#[]:Array Value)
  unfold ksk_tail
  dsimp only
  refine wpAny_bind (listUpdate_at nk rfl ?_ (by rw[hsz,sizeLine_eq];omega) (Nat.zero_le _))
  refine wpAny_bind (wpAny_letGo (wpAny_bind (seqEpoch_at na1 rfl (wpAny_bind (listUpdate_at na1 rfl ?_ (Nat.zero_le _) ?_)))))
  · rw[hf]
    simp only[bne_self_eq_false,Bool.false_eq_true,if_false]
    exact wpAny_pure (h _ _ _ _ (fun b u hb hbk q=>(u2.2 b hb).trans ((u1.2 b hbk).trans q)) ⟨_,(u2.2 kS hka).trans g1⟩ g2 (ksk_out (b:=false) hk hp hs))
  · simp only[Bool.false_eq_true,if_false,Array.size_map]
    rw[hsz2,sizeLine_eq];omega
 unfold ksk_end
 simp only[Bool.false_eq_true,if_false]
 by_cases h2:its.toArray.size<2
 · rw[if_pos h2,if_pos h2]
   refine wpAny_bind (wpAny_pure ?_)
   rw[StateT.run_pure]
   refine wpAny_bind (wpAny_pure (tail _ (Array.Perm.refl _) (fun i j hij hj=>?_) rfl))
   have hj2:j<(keys.zip its.toArray).size:=hj
   rw[hzs] at hj2
   rw[List.size_toArray] at h2
   have:i=j:=by omega
   subst this
   exact Int.le_refl _
 · rw[if_neg h2,if_neg h2]
   rw[List.size_toArray] at h2
   rw[ksk_kind hk (by rw[hsz];omega)]
   refine wpAny_bind (wpAny_pure (wpAny_bind (wpAny_mono (wpS_sortRuns (a₀:=keys.zip its.toArray) (st:=SortSt.mk' oneType' (keys.zip its.toArray) #[] 7 none) (Q:=fun _ st'=>(arrOf st').Perm (keys.zip its.toArray)∧failedOf st'=none∧SortedTo (arrOf st') (keys.zip its.toArray).size)
    (ksk_intKeys hk) ⟨Array.Perm.refl _,rfl,rfl,rfl⟩ (by rw[hzs];omega) (by rw[hzs];exact h64) fun st' a1 a2 a3=>⟨a1,a2,a3⟩) ?_ fun _ _ e=>e)))
   rintro⟨⟨⟩,st'⟩ s' ⟨rfl,hp,hf,hs⟩
   exact tail st' hp (by rw[hp.size_eq];exact hs) hf
theorem Z1y {A:Around}{E:Value→Shared→Prop}{P:PySem.Fin→Shared→Prop}{f:Value}{a:Addr}{its:List Value}{kz:List Int}{n:Nat}(I:Inv X pins σ H s)(fa:FpOk X pins H a)(ho:s.heap.get? a=some (seqObj "list" its.toArray n))(hlen:kz.length=its.length)(h64:its.length<64)
 (turn:∀(i:Nat) v k,its[i]? = some v→kz[i]? = some k→∀pins' H1 s1,Same H H1→Inv X pins' σ H1 s1→wpAny (model X.prog X.w) A (call f [v]) (fun u s2=>∃t H2,u=.int k t∧Same H1 H2∧Inv X pins' σ H2 s2) (fun _ _=>False) s1)
 (h:∀H2 s2 h2 tk out c,Same H H2→Inv X pins σ H2 s2→FpOk X pins H2 a→(∀b u,b≠a→s2.heap.get? b=some u→h2.get? b=some u)→h2.get? a=some (seqObj "list" out c)→KskOut false kz its out.toList→P (.done (.ret .none)) { s2 with heap:=h2,toks:=tk }) :
 wpAny (model X.prog X.w) A (ksk_tree a f false) P E s:=by
 obtain⟨f0,f1,f2,f3,f4,f5⟩:=id fa
 have ha:a<s.heap.objs.size:=Heap.lt_size ho
 have u1:=Heap.SameBut.update s.heap a (Obj.mapSeq fun _=>(#[]:Array Value))
 obtain⟨e1,ho1⟩:∃e1,(s.heap.update a (Obj.mapSeq fun _=>(#[]:Array Value))).get? a=some (seqObj "list" #[] e1):=⟨_,get?_update_seq ho fun _=>#[]⟩
 unfold ksk_tree
 refine wpAny_bind (listItems_at ho rfl (wpAny_bind (listUpdate_at ho rfl ?_ (by rw[List.size_toArray,sizeLine_eq];omega) (Nat.zero_le _))))
 refine wpAny_bind (seqEpoch_at ho1 rfl (wpAny_bind (wpAny_newTuple (wpAny_bind (wpAny_newList (wpAny_holding ?_) (Nat.zero_le _))) (by show its.length≤_;rw[sizeLine_eq];omega))))
 have I1:Inv X pins σ H { s with heap:=s.heap.update a (Obj.mapSeq fun _=>(#[]:Array Value)),toks:=s.toks }:=I.turned (it:=a) (fun b o hb q=>(u1.2 b hb).trans q) f0 f1 f3 f4 f5
 have I2:Inv X pins σ H { s with heap:=(s.heap.update a (Obj.mapSeq fun _=>(#[]:Array Value))).push (seqObj "tuple" its.toArray 0),toks:=s.toks }:=I1.kept fun b o q=>Heap.get?_push_of_some _ q
 have fk:∀H',H' ((s.heap.update a (Obj.mapSeq fun _=>(#[]:Array Value))).push (seqObj "tuple" its.toArray 0)).objs.size=none→FpOk X pins H' ((s.heap.update a (Obj.mapSeq fun _=>(#[]:Array Value))).push (seqObj "tuple" its.toArray 0)).objs.size:=fun H' hn=>I2.fpOk (Nat.le_refl _) hn
 have nk0:=I2.hok.fresh (Nat.le_refl _)
 have I3:Inv X pins σ H { s with heap:=((s.heap.update a (Obj.mapSeq fun _=>(#[]:Array Value))).push (seqObj "tuple" its.toArray 0)).push (seqObj "list" #[] 0),toks:=s.toks }:=I2.kept fun b o q=>Heap.get?_push_of_some _ q
 have hk3:=Heap.get?_push_size ((s.heap.update a (Obj.mapSeq fun _=>(#[]:Array Value))).push (seqObj "tuple" its.toArray 0)) (o:=seqObj "list" #[] 0) rfl
 have ha3:=Heap.get?_push_of_some (seqObj "list" #[] 0) (Heap.get?_push_of_some (seqObj "tuple" its.toArray 0) ho1)
 have hka:((s.heap.update a (Obj.mapSeq fun _=>(#[]:Array Value))).push (seqObj "tuple" its.toArray 0)).objs.size≠a:=by
  rw[size_push',Heap.size_update]
  exact Nat.ne_of_gt (Nat.lt_succ_of_lt ha)
 dsimp only at nk0
 show wpAny _ _ (ksk_rest a f false its.toArray e1 (.ref ((s.heap.update a (Obj.mapSeq fun _=>(#[]:Array Value))).push (seqObj "tuple" its.toArray 0)).objs.size)) P E { s with heap:=((s.heap.update a (Obj.mapSeq fun _=>(#[]:Array Value))).push (seqObj "tuple" its.toArray 0)).push (seqObj "list" #[] 0) }
 generalize ((s.heap.update a (Obj.mapSeq fun _=>(#[]:Array Value))).push (seqObj "tuple" its.toArray 0)).objs.size=kS at fk nk0 hk3 hka ⊢
 unfold ksk_rest
 refine wpAny_bind (wpAny_rule ?_)
 rw[List.forIn_toArray]
 refine wpAny_bind (ksk_fold (fun i s'=>∃H' kA e,Same H H'∧Inv X pins σ H' s'∧H' a=none∧H' kS=none∧s'.heap.get? a=some (seqObj "list" #[] e1)∧s'.heap.get? kS=some (seqObj "list" kA e)∧IntsAre kA.toList (kz.take i)) its 0 _ ⟨H,#[],0,Same.refl H,I3,f0,nk0,ha3,hk3,by simpa using IntsAre.nil⟩ ?step ?done)
 case step =>
  rintro j x s' hx ⟨H',kA,e,sH,J,n1,n2,g1,g2,hk⟩
  simp only[Nat.zero_add] at hk ⊢
  have hj:j<its.length:=(List.getElem?_eq_some_iff.mp hx).1
  obtain⟨k,hkj⟩:∃k,kz[j]? = some k:=⟨_,List.getElem?_eq_getElem (by omega)⟩
  have hz:kA.size≤its.length:=by
   have h1:=hk.length
   rw[Array.length_toList,List.length_take] at h1;omega
  have Jp:=J.pinned (fp:=[a,kS]) (fun b hb=>by
   rcases List.mem_cons.mp hb with rfl | hb
   · exact⟨n1,f1,f2,f3,f4,f5⟩
   · rw[List.mem_singleton.mp hb];exact fk H' n2) (fun b hb=>by
   rcases List.mem_cons.mp hb with rfl | hb
   · exact⟨_,g1,fun v z=>by cases z⟩
   · rw[List.mem_singleton.mp hb];exact⟨_,g2,fun v z=>by cases z⟩)
  refine wpAny_bind (wpAny_attempt (wpAny_mono (turn j x k hx hkj _ H' s' sH Jp) (fun u s2 hu=>?_) fun _ _ z=>z.elim))
  obtain⟨t2,H2,rfl,sH2,J2⟩:=hu
  have pa:=J2.pin (a,seqObj "list" #[] e1) (List.mem_append_right _ (List.mem_append_right _ (mem_pinsAt (List.mem_cons_self) g1)))
  have pk:=J2.pin (kS,seqObj "list" kA e) (List.mem_append_right _ (List.mem_append_right _ (mem_pinsAt (List.mem_cons_of_mem _ List.mem_cons_self) g2)))
  have J3:=J2.unpinned
  have u3:=Heap.SameBut.update s2.heap kS (Obj.mapSeq (·.push (.int k t2)))
  have g3:=get?_update_seq pk.1 (·.push (.int k t2))
  obtain⟨_,q1,q2,q3,q4,q5⟩:=fk H2 pk.2.1
  refine wpAny_bind (listUpdate_at pk.1 rfl ?_ (by rw[sizeLine_eq];omega) (Nat.le_trans (Nat.le_of_eq (Array.size_push ..)) (by rw[sizeLine_eq];omega)))
  refine wpAny_pure ⟨rfl,H2,kA.push (.int k t2),_,sH.trans sH2,J3.turned (it:=kS) (fun b o hb q=>(u3.2 b hb).trans q) pk.2.1 q1 q3 q4 q5,pa.2.1,pk.2.1,(u3.2 a hka.symm).trans pa.1,g3,?_⟩
  have ek:kz.take (j+1)=kz.take j++[k]:=by rw[List.take_add_one,hkj];simp
  rw[ek,Array.toList_push]
  exact ksk_snoc hk
 case done =>
  rintro s' ⟨H',kA,e,sH,J,n1,n2,g1,g2,hk⟩
  have hk':IntsAre kA.toList kz:=by
   rw[List.take_of_length_le (by omega)] at hk
   exact hk
  refine wpAny_bind (listItems_at g2 rfl (Z2t (X:=X) g1 g2 hka hk' hlen h64 fun h2 tk out c k1 k2 k3 k4=>?_))
  have fa':FpOk X pins H' a:=⟨n1,f1,f2,f3,f4,f5⟩
  exact h H' { s' with heap:=h2,toks:=tk } h2 tk out c sH (J.turnedTwo fa' (fk H' n2) k1 ⟨_,k3⟩ k2) fa' (fun _ _ _ q=>q) k3 k4
theorem jW {A:Around}{E:Value→Shared→Prop}{Q:Value→Shared→Prop}{q l:Addr}{its:List Value}{xs:List V}{kz:List Int}(I:Inv X pins σ H s)(r:Vals xs its)(hl:s.heap.IsList l its.toArray)(hlen:kz.length=xs.length)(h64:xs.length<64)
 (turn:∀(i:Nat) v x k,its[i]? = some v→xs[i]? = some x→kz[i]? = some k→∀pins' H1 s1,Same H H1→Inv X pins' σ H1 s1→wpAny (model X.prog X.w) A.in1.in1 (call (.ref q) [v]) (fun u s2=>∃t H2,u=.int k t∧Same H1 H2∧Inv X pins' σ H2 s2) (fun _ _=>False) s1)
 (h:∀a ps H2 s2,H a=none→Same H H2→H2 a=none→List.Perm ps (kz.zip xs)→ps.Pairwise (fun p q=>p.1≤q.1)→Inv X pins σ (upd H2 a (.lst (ps.map Prod.snd))) s2→Q (.ref a) s2) :
 wpAny (model X.prog X.w) A (call (.builtin "sorted") [.ref l] [(Str.ofString "key",.ref q)]) Q E s:=by
 have hli:xs.length=its.length:=r.length
 refine call_function_entry_kw kind_sorted plain_sorted entry_sorted (ksk_s1 _ _) ?_
 unfold Builtin.«sorted»
 refine wpAny_bind (m:=checkCount "sorted" 1 1 _) (wpAny_pure (wpAny_bind (collect_list hl (wpAny_bind (wpAny_newList ?_ (by rw[sizeLine_eq];omega))) (by rw[sizeLine_eq];omega))))
 have keep:∀b o,s.heap.get? b=some o→((s.heap.push (seqObj "list" #[] 0)).update s.heap.objs.size (Obj.mapSeq (· ++ its.toArray))).get? b=some o:=fun b o q=>by
  rw[Heap.get?_update_ne _ _ _ _ (Nat.ne_of_lt (Heap.lt_size q))]
  exact Heap.get?_push_of_some _ q
 have I1:Inv X pins σ H { s with heap:=(s.heap.push (seqObj "list" #[] 0)).update s.heap.objs.size (Obj.mapSeq (· ++ its.toArray)),toks:=s.toks }:=I.kept keep
 have I2:Inv X pins σ H { s with heap:=((s.heap.push (seqObj "list" #[] 0)).update s.heap.objs.size (Obj.mapSeq (· ++ its.toArray))).push (seqObj "list" its.toArray 0),toks:=s.toks }:=I1.kept fun b o q=>Heap.get?_push_of_some _ q
 have hD:=Heap.get?_push_size ((s.heap.push (seqObj "list" #[] 0)).update s.heap.objs.size (Obj.mapSeq (· ++ its.toArray))) (o:=seqObj "list" its.toArray 0) rfl
 have nD:=I1.hok.fresh (Nat.le_refl _)
 have fD:=I1.fpOk (Nat.le_refl _) nD
 dsimp only at nD fD
 show wpAny _ _ _ _ _ { s with heap:=((s.heap.push (seqObj "list" #[] 0)).update s.heap.objs.size (Obj.mapSeq (· ++ its.toArray))).push (seqObj "list" its.toArray 0) }
 refine wpAny_bind (wpAny_holding (wpAny_call_entry_kw slot_list_sort ⟨_,hD,rfl⟩ entry_list_sort ?_ (ksk_l1 _ _)))
 rw[ksk_t1]
 refine Z1y (kz:=kz) I2 fD hD (by omega) (by omega) (fun i v k h1 h2 pins' H1 s1 sH J=>?_) fun H2 s2 h2 tk out c sH J fa k1 k2 k3=>⟨_,rfl,?_⟩
 · obtain⟨x,hx⟩:∃x,xs[i]? = some x:=⟨_,List.getElem?_eq_getElem (by rw[hli];exact(List.getElem?_eq_some_iff.mp h1).1)⟩
   exact turn i v x k h1 hx h2 pins' H1 s1 sH J
 · obtain⟨ps,p1,p2,p3⟩:=k3
   have e1:(kz.zip its).map (·.1)=(kz.zip xs).map (·.1):=by
    rw[List.map_fst_zip (by omega),List.map_fst_zip (by omega)]
   have e2:Vals ((kz.zip xs).map (·.2)) ((kz.zip its).map (·.2)):=by
    rw[List.map_snd_zip (by omega),List.map_snd_zip (by omega)];exact r
   obtain⟨qs,q1,q2,q3⟩:=Z0A p1 e1 e2
   refine wpAny_pure ⟨_,rfl,h _ qs H2 _ nD sH fa.1 q1 ?_ (J.adopt (t':=tk) fa k1 ⟨?_,out.toList,c,?_,?_⟩)⟩
   · have:(ps.map (·.1)).Pairwise (· ≤ ·):=by
      rw[List.pairwise_map]
      exact p3.imp fun {p q} z=>by simpa using z
     rw[q2,List.pairwise_map] at this
     exact this
   · rw[List.length_map,q1.length_eq,List.length_zip,sizeLine_eq];omega
   · rw[p2];exact q3
   · rw[k2]
end
end L2
namespace L2.L3
open PySem PySem.Spec PyProof.Rows
def atA (X:Cx)(A:Around):Cx:={ X with A:=A,xe:=fun _ _=>False }
section
variable {X:Cx}{pins:List (Addr × Obj)}{σ:St}{H:Hp}{s:Shared}{A:Around}
theorem Z3s (I:Inv X pins σ H s)(h1:A.handled=X.A.handled)(h2:A.frames=X.A.frames):Inv (atA X A) pins σ H s :=
 ⟨⟨I.ok.mod,I.ok.kind,I.ok.glob,I.ok.blt,I.ok.above,I.ok.inj,I.ok.has,I.ok.cab,fun c=>h1.trans (I.ok.hd c),h2.trans I.ok.frames,I.ok.stk,I.ok.exf,I.ok.bs,I.ok.bsz,I.ok.noex,I.ok.exfs,I.ok.funs,I.ok.frf,I.ok.tabs⟩,I.os,I.bare,I.base,I.loc,I.cell,I.free,I.freeC,I.pin,I.hok,I.len⟩
theorem Z0O (I:Inv (atA X A) pins σ H s)(h1:A.handled=X.A.handled)(h2:A.frames=X.A.frames):Inv X pins σ H s :=
 ⟨⟨I.ok.mod,I.ok.kind,I.ok.glob,I.ok.blt,I.ok.above,I.ok.inj,I.ok.has,I.ok.cab,fun c=>h1.symm.trans (I.ok.hd c),h2.symm.trans I.ok.frames,I.ok.stk,I.ok.exf,I.ok.bs,I.ok.bsz,I.ok.noex,I.ok.exfs,I.ok.funs,I.ok.frf,I.ok.tabs⟩,I.os,I.bare,I.base,I.loc,I.cell,I.free,I.freeC,I.pin,I.hok,I.len⟩
end
theorem Z1l {K:PySem.W.Frag}{G:Hp}{ps:List (Int × V)}:∀ {zs:List (Int × V)},ps.Perm zs→∀ {ws:List (Int × D)},zs.map (·.1)=ws.map (·.1)→IsL K G (ws.map (·.2)) (zs.map (·.2))→∃qs:List (Int × D),qs.Perm ws∧ps.map (·.1)=qs.map (·.1)∧IsL K G (qs.map (·.2)) (ps.map (·.2)):=by
 intro zs h
 induction h with
 | nil =>
  intro ws e r
  cases ws with
  | nil=>exact⟨[],.nil,rfl,r⟩
  | cons _ _=>cases e
 | cons x h ih =>
  intro ws e r
  cases ws with
  | nil=>cases e
  | cons w ws =>
   rw[List.map_cons,List.map_cons] at e r
   unfold IsL at r
   obtain⟨v,vs,e1,r1,r2⟩:=r
   obtain⟨rfl,rfl⟩:=List.cons.inj e1
   obtain⟨qs,q1,q2,q3⟩:=ih (List.cons.inj e).2 r2
   exact⟨w::qs,q1.cons w,by rw[List.map_cons,List.map_cons,q2,(List.cons.inj e).1],by rw[List.map_cons,List.map_cons];unfold IsL;exact⟨_,_,rfl,r1,q3⟩⟩
 | swap x y l =>
  intro ws e r
  cases ws with
  | nil=>cases e
  | cons w1 ws =>
   cases ws with
   | nil=>simp at e
   | cons w2 ws =>
    simp only[List.map_cons,List.cons.injEq] at e r
    unfold IsL at r
    obtain⟨v,vs,e1,r1,r2⟩:=r
    obtain⟨rfl,rfl⟩:=List.cons.inj e1
    unfold IsL at r2
    obtain⟨v,vs,e1,r2,r3⟩:=r2
    obtain⟨rfl,rfl⟩:=List.cons.inj e1
    refine⟨w2::w1::ws,.swap w1 w2 ws,by simp only[List.map_cons,e.1,e.2.1,e.2.2],?_⟩
    simp only[List.map_cons]
    unfold IsL;refine⟨_,_,rfl,r2,?_⟩
    unfold IsL;exact⟨_,_,rfl,r1,r3⟩
 | trans h1 h2 ih1 ih2 =>
  intro ws e r
  obtain⟨qs,q1,q2,q3⟩:=ih2 e r
  obtain⟨rs,r1,r2,r3⟩:=ih1 q2 q3
  exact⟨rs,r1.trans q1,r2,r3⟩
theorem isl_atV {K:PySem.W.Frag}{G:Hp}:∀ {ds:List D} {xs:List V} {i:Nat} {x:V},IsL K G ds xs→xs[i]? = some x→∃d,ds[i]? = some d∧Is K G d x
 | [],xs,i,x,h,e=>by
  unfold IsL at h
  subst h;simp at e
 | d::ds,xs,i,x,h,e=>by
  unfold IsL at h
  obtain⟨v,vs,rfl,h1,h2⟩:=h
  cases i with
  | zero=>simp at e;subst e;exact⟨d,rfl,h1⟩
  | succ i=>exact isl_atV (i:=i) h2 (by simpa using e)
section
variable {X:Cx}{ρ:Ro}{o:Expr}{p pos kp lpos:Pos}{L:Lam}{y:Str}{k:Nat}{params:Arguments}{body:Expr}{scope:Scope}{c P:Addr}
theorem jp {ds out:List D}{kz:List Int}(caps:List (Str × Nat × D))(hr:Room (k+3) X.A)(he:QE X ρ o (.dat (.lst ds)))(hlen:kz.length=ds.length)(h64:ds.length<64)
 (lam:∀(i:Nat) d z,ds[i]? = some d→kz[i]? = some z→LamOk X.prog X.w X.K X.mg X.base k L y (caps.map (·.1)) d (caps.map (·.2.2)) (.dat (.int z))) (S:LamScope L y (caps.map (·.1)))
 (hone:∀qs:List (Int × D),qs.Perm (kz.zip ds)→qs.Pairwise (fun p q=>p.1≤q.1)→qs.map (·.2)=out)
 (hL:L=⟨X.env.qual ++ "<lambda>",params,body,scope,clOf scope X.env,(X.mg "__name__").getD .none⟩) (hcode:X.env.code=.ref c) (hC:PySem.W.codeHdIn X.K c P=true) (hm:LamAt X.mg X.base P L.qual)
 (hfr:∀x∈scope.names,x.2=.free→X.env.scope.names.lookup x.1=some .cell∨X.env.scope.names.lookup x.1=some .free) (hfn:∀x,X.fn x=true) (hcaps:CapsOk X ρ scope caps) (hms:X.mg "sorted" = none)
 (hdef:defaultsOf params X.env=([],[]):=by rfl) (hc:X.calm=true:=by rfl) (hg:Gl X "sorted" := by rfl)
 (h1:backTo pos (starEach [o] X.env)=(false,eval o X.env)::backTo pos (starEach [] X.env):=by rfl) (hpl:(backTo pos (starEach [o] X.env)).any (·.1)=false:=by rfl) :
 QE X ρ (.Call (.Name "sorted" p) [o] [⟨some "key",.Lambda params body scope lpos,kp⟩] pos) (.own out):=by
 refine⟨fun pins s σ H Q I ⟨G0,H0,G,cf,q⟩=>?_⟩
 obtain⟨vs,il,vl,vv⟩:=hcaps.vals cf
 refine wpAny_Call_Name_kw (ld_blt I hg hms Jy ?_ (by decide) (by decide))
 refine callWith_kw ?_ h1 hpl rfl rfl
 rw[h1]
 refine Calls.spliced_cons (thn (he.u pins s σ H (fun x H1=>∃G1,Grow G H G1 H1∧Is X.K G1 (.lst ds) x) I ⟨G0,H0,G,cf,fun v G1 H1 g1 o1=>⟨G1,g1,o1⟩⟩) fun u s1 ⟨x,H1,I1,rx,G1,g1,i1⟩=>Calls.spliced_nil ?_)
 obtain⟨l,xs,rfl,sq,ix⟩:=ZB i1
 obtain rfl:u=Value.ref l:=rx
 refine kws_cons (thn (Z0B hL hcode hC hm hfr hdef pins s1 σ H1 (fun v H2=>∃f c' ct,v=.ref f∧H1 f=none∧Same H1 H2∧H2 f=some (L.ho c' ct (vs.map canon))) I1 ⟨vs.map canon,fun f c' ct H2 hf1 sm hf2=>⟨f,c',ct,rfl,hf1,sm,hf2⟩⟩) fun fv s2 ⟨v,H2,I2,rv,f,c',ct,hv,hf1,sm,hf2⟩=>kws_nil ?_)
 subst hv
 obtain rfl:fv=Value.ref f:=rv
 have s12:Same G1 H2:=g1.sub.trans sm
 obtain⟨its,r',pl,hz⟩:=I2.list (s12.seq sq)
 have hxl:=ix.len
 refine jW (kz:=kz) I2 r' pl.isList (by omega) (by omega) (fun i v x z e1 e2 e3 pins' H3 s3 sH J=>?_) fun a ps H4 s4 na sH n4 hp hs J=>?_
 · obtain⟨d,hd,id⟩:=isl_atV ix e2
   have J':=Z3s (A:=X.A.in1.in1) J rfl rfl
   have hf3:H3 f=some (L.ho c' ct (vs.map canon)):=sH _ _ hf2
   have F:=Z2x (X:=atA X X.A.in1.in1) (caps:=caps) J' (by rw[hL];rfl) hfr hfn hf3 vv
   have rv:RelV x v:=by
    obtain⟨w,w1,w2⟩:=vals_at r' e1
    rw[e2] at w1;cases w1;exact w2
   have hr2:Room (k+1) X.A.in1.in1:=hr.in1.in1
   refine wpAny_mono (Z20 (X:=atA X X.A.in1.in1) (k:=k) (Q:=fun w H'=>w=.int z∧Same H3 H') J' hr2 S F (by rw[vl,List.length_map]) rv (fun c=>(lam i d z hd e3 _ f c X.A.in1.in1 X.stack s3 H3 rfl (hr2.deeper _)).u) fun c''=>?_) (fun u s5 hu=>?_) fun _ _ w=>w
   · have sG:Same G H3:=(cf.sub.trans g1.same).trans (sm.trans sH)
     refine⟨H3,H3,H3,ZE (show IsL X.K H3 (d::caps.map (·.2.2)) (x::vs) by unfold IsL;exact⟨x,vs,rfl,Zb (s12.trans sH) id,Zk sG il⟩) (Same.refl H3),fun v3 G3 H5 g3 o3=>⟨Z8 o3,g3.same⟩⟩
   · obtain⟨w,H5,J5,rw5,rfl,s5⟩:=hu
     obtain⟨t,rfl⟩:∃t,u=.int z t:=rw5
     exact⟨t,H5,rfl,s5,Z0O J5 rfl rfl⟩
 · have e1:(kz.zip xs).map (·.1)=(kz.zip ds).map (·.1):=by rw[List.map_fst_zip (by omega),List.map_fst_zip (by omega)]
   have e2:IsL X.K G1 ((kz.zip ds).map (·.2)) ((kz.zip xs).map (·.2)):=by rw[List.map_snd_zip (by omega),List.map_snd_zip (by omega)];exact ix
   obtain⟨qs,q1,q2,q3⟩:=Z1l hp e1 e2
   have eo:qs.map (·.2)=out:=hone qs q1 (by
    have:(ps.map (·.1)).Pairwise (· ≤ ·):=by rw[List.pairwise_map];exact hs
    rw[q2,List.pairwise_map] at this
    exact this)
   rw[eo] at q3
   have sN:Same H4 (upd H4 a (.lst (ps.map Prod.snd))):=Same.new n4
   have na1:H1 a=none:=Same.dead sm na
   refine⟨.ref a,_,J,rfl,q _ G1 _ ⟨((g1.same.trans sm).trans sH).trans sN,g1.old,((s12.trans sH)).trans sN⟩ ⟨a,_,rfl,Same.dead s12 na,Same.dead (g1.same.trans sm) na,upd_same,q3⟩⟩
end
structure MDefC (K:PySem.W.Frag)(C:Addr)(m qual:Str)(st:Stmt)(c P:Addr):Prop where
 ex:∃(f:Addr) (oc:Value) (od:Option Addr) (kV doc pm:Value) (an:Option Addr) (ct:Value) (osl:Array (Option Value)),
  K.lookup f=some ⟨oc,od,.func (PySem.W.fnOf m qual (defArgs st) (defBody st) (defScope st) .none kV doc pm an (.ref c) ct),osl⟩∧PySem.W.codeIn K (.ref c) qual=true∧PySem.W.keepIn K (.ref f)=true∧Meth K C m f
 hd:PySem.W.codeHdIn K c P=true
theorem Z3k {P:Program}{w:World}{K:PySem.W.Frag}{mg:Str→Option Value}{base:Heap}{C:Addr}{m qual:Str}{st:Stmt}{N ps:List Str}{k:Nat}{pre:List D→R→Prop}{c T:Addr}(d:MDefC K C m qual st c T)(S:FnScope N ps (defScope st))
 (hb:∀(kV doc pm:Value) (an:Option Addr) (cdv ct:Value) (us:List Value),us.length=ps.length→bindArgs (PySem.W.fnOf m qual (defArgs st) (defBody st) (defScope st) .none kV doc pm an cdv ct) ⟨us,[]⟩=pure (ps.zip us))
 (len:∀ds r,pre ds r→ds.length=ps.length)
 (hbody:∀(X:Cx) (f:Addr) (A:Around) (outer:List Env) (s:Shared) (H:Hp) (E:XK),X=(cxOf CX0 P w K mg base N qual (defScope st) f (.ref c) A outer s H E).nox→Room k X.A→∀ds r,pre ds r→QK X noX (start0 N ds) [defBody st] (.rt r)) :
 Mt P w K mg base (k+1) C m ps pre:=by
 obtain⟨f,oc,od,kV,doc,pm,an,ct,osl,lk,hcd,kp,M⟩:=d.ex
 refine⟨⟨f,_,fn_of lk hcd S (fun vs H Q E h=>?_) fun A outer s H vs Q E hr h=>?_,M,.all (hb kV doc pm an (.ref c) ct)⟩⟩
 · obtain⟨ds,G,r,hp,_,i,_⟩:=h
   rw[i.len];exact len ds r hp
 · obtain⟨ds,G,r,hp,sg,i,q⟩:=h
   refine⟨_,(QK.s (hbody _ f A outer s H E rfl hr ds r hp)).u.nox,?_⟩
   exact⟨G,H,G,ZE i sg,fun v G' H' _ g o=>q v G' H' g o⟩
def mrsp (pre:List V→Hp→(V→Hp→Prop)→Prop):Sp:=fun vs H Q _=>∃R,pre vs H R∧∀v H',R v H'→Q v H'
abbrev MtR (P : Program) (w : World) (K : PySem.W.Frag) (mg : Str → Option Value) (base : Heap) (k : Nat) (C : Addr) (m : Str) (ps : List Str) (pre : List V → Hp → (V → Hp → Prop) → Prop) : Prop := MCallee P w K mg base CX0 k C m ps (mrsp pre)
theorem Z3m {P:Program}{w:World}{K:PySem.W.Frag}{mg:Str→Option Value}{base:Heap}{C:Addr}{m qual:Str}{st:Stmt}{N ps:List Str}{k:Nat}{pre:List V→Hp→(V→Hp→Prop)→Prop}(d:MDef K C m qual st)(S:FnScope N ps (defScope st))
 (hb:∀(kV doc pm:Value) (an:Option Addr) (cdv ct:Value) (us:List Value),us.length=ps.length→bindArgs (PySem.W.fnOf m qual (defArgs st) (defBody st) (defScope st) .none kV doc pm an cdv ct) ⟨us,[]⟩=pure (ps.zip us))
 (len:∀vs H R,pre vs H R→vs.length=ps.length)
 (hbody:∀(X:Cx) (f:Addr) (cdv:Value) (A:Around) (outer:List Env) (s:Shared) (H:Hp) (E:XK),X=(cxOf CX0 P w K mg base N qual (defScope st) f cdv A outer s H E).nox→Room k X.A→∀vs R,pre vs H R→∀D:Ends,(∀σ H',R .non H'→D.nx σ H')→(∀v H',R v H'→D.rt v H')→RK X (fun σ H1=>σ=start N vs∧H1=H) [defBody st] D) :
 MtR P w K mg base (k+1) C m ps pre:=by
 obtain⟨f,fd,F,M⟩:=d.ex
 refine⟨f,fd,F.ok S (fun vs H Q E h=>?_) (fun cdv A outer s H vs Q E hr h=>?_),M,F.binds hb⟩
 · obtain⟨R,hp,_⟩:=h
   exact len vs H R hp
 · obtain⟨R,hp,q⟩:=h
   exact⟨_,Z9,(hbody _ f cdv A outer s H E rfl hr vs R hp { nx:=fun _ H'=>Q .non H',rt:=Q } (fun _ H' z=>q _ H' z) q).ws ⟨rfl,rfl⟩⟩
def irsp (pre:List V→Hp→(Hp→Prop)→Prop):Sp:=fun vs H Q _=>∃R,pre vs H R∧∀H',R H'→Q .non H'
structure IniR (P:Program)(w:World)(K:PySem.W.Frag)(mg:Str→Option Value)(base:Heap)(k:Nat)(C:Addr)(ps:List Str)(pre:List V→Hp→(Hp→Prop)→Prop):Prop where
 ex:∃f fd,FnOk P w K mg base CX0 k f fd ps (irsp pre)∧Mk K C f∧Binds K fd ps []
theorem Z2w {P:Program}{w:World}{K:PySem.W.Frag}{mg:Str→Option Value}{base:Heap}{C:Addr}{qual:Str}{st:Stmt}{N ps:List Str}{k:Nat}{pre:List V→Hp→(Hp→Prop)→Prop}(d:IDef K C qual st)(S:FnScope N ps (defScope st))
 (hb:∀(kV doc pm:Value) (an:Option Addr) (cdv ct:Value) (us:List Value),us.length=ps.length→bindArgs (PySem.W.fnOf "__init__" qual (defArgs st) (defBody st) (defScope st) .none kV doc pm an cdv ct) ⟨us,[]⟩=pure (ps.zip us))
 (len:∀vs H R,pre vs H R→vs.length=ps.length)
 (hbody:∀(X:Cx) (f:Addr) (cdv:Value) (A:Around) (outer:List Env) (s:Shared) (H:Hp) (E:XK),X=(cxOf CX0 P w K mg base N qual (defScope st) f cdv A outer s H E).nox→Room k X.A→∀vs R,pre vs H R→∀D:Ends,(∀σ H',R H'→D.nx σ H')→RK X (fun σ H1=>σ=start N vs∧H1=H) [defBody st] D) :
 IniR P w K mg base (k+1) C ps pre:=by
 obtain⟨f,fd,F,M⟩:=d.ex
 refine⟨f,fd,F.ok S (fun vs H Q E h=>?_) (fun cdv A outer s H vs Q E hr h=>?_),M,F.binds hb⟩
 · obtain⟨R,hp,_⟩:=h
   exact len vs H R hp
 · obtain⟨R,hp,q⟩:=h
   exact⟨_,Z9,(hbody _ f cdv A outer s H E rfl hr vs R hp { nx:=fun _ H'=>Q .non H',rt:=Q } (fun _ H' z=>q H' z)).ws ⟨rfl,rfl⟩⟩
section
variable {X:Cx}{P P':St→Hp→Prop}{r:R}{e e1 e2:Expr}{es:List Expr}{bl:List Stmt}{ks:List (List Stmt)}{De:Ends}{pos p p2 pos':Pos}{x y f:Str}{C:Addr}{d:D}{ds:List D}{k:Nat}{ps:List Str}
theorem jB (j:Nat)(ρ:Ro)(he:QE X ρ e r)(cl:Cls X.K C)(na:NoAttr X.K C f)(hP:∀σ H,P σ H→Al X.K H ρ σ)
 (step:∀σ H v H',P σ H→Same H H'→Res X.K H H' r v→∃a dx fs,σ[j]? = some (some (.ref a))∧H' a=some (.ins C dx fs)∧fs.length<1000∧P' σ (upd H' a (.ins C dx (putF f v fs)))) (h2:RK X P' (bl::ks) De)
 (hN:X.N[j]? = some y:=by rfl) (hv:Vis X.env.scope y:=by first | exact Or.inl rfl | exact Or.inr (Or.inl rfl) | exact Or.inr (Or.inr rfl)) (hd:(y==("__debug__" : Str))=false:=by decide) (hcd:(y==("__classdict__" : Str))=false:=by decide)
 (hs:swapsWith e (some (.Attribute (.Name y p) f pos')) pos.line X.env=pure false:=by rfl):RK X P ((.Assign [.Attribute (.Name y p) f pos'] e pos::bl)::ks) De :=
 ⟨fun σ H hp pins s I=>by
  refine pss_cons (ps_fld (pe_var hN hv hd hcd) he.u hs) Z9 pins s σ H _ I ⟨H,H,H,(hP σ H hp).snap,fun v G' H' g o=>?_⟩
  obtain⟨a,dx,fs,s0,ha,hl,q⟩:=step σ H v H' hp (YJ g o).1 (YJ g o).2
  exact⟨.ref a,s0,a,C,dx,fs,rfl,ha,cl,na,hl,h2.u _ _ q⟩⟩
theorem Z19 (j:Nat)(ρ:Ro){kk:Key}(hu:X.A.units+1<cLine)(hk:QE X ρ e1 (.dat (keyD kk)))(he:QE X ρ e2 (.dat d))(cl:Cls X.K C)(na:NoAttr X.K C f)(hP:∀σ H,P σ H→Al X.K H ρ σ)
 (step:∀σ H v H',P σ H→Same H H'→Is X.K H' d v→∃a dx fs w kvs,σ[j]? = some (some (.ref a))∧H' a=some (.ins C dx fs)∧fs.lookup f=some (.ref w)∧H' w=some (.dK kvs)∧kvs.length<sizeLine∧∀H'',Same H' H''→P' σ (upd H'' w (.dK (putK kvs kk v)))) (h2:RK X P' (bl::ks) De)
 (hb:attributeBase (.Name y p) f X.env (eval (.Name y p) X.env)=eval (.Name y p) X.env:=by rfl)
 (hN:X.N[j]? = some y:=by rfl) (hv:Vis X.env.scope y:=by first | exact Or.inl rfl | exact Or.inr (Or.inl rfl) | exact Or.inr (Or.inr rfl)) (hd:(y==("__debug__" : Str))=false:=by decide) (hcd:(y==("__classdict__" : Str))=false:=by decide)
 (hs:swapsWith e2 (some (.Subscript (.Attribute (.Name y p) f p2) e1 pos')) pos.line X.env=pure false:=by rfl):RK X P ((.Assign [.Subscript (.Attribute (.Name y p) f p2) e1 pos'] e2 pos::bl)::ks) De :=
 ⟨fun σ H hp pins s I=>by
  refine pss_cons (ps_dput hu (pe_fld (pe_var hN hv hd hcd) hb) hk.u he.u hs) Z9 pins s σ H _ I ⟨H,H,H,(hP σ H hp).snap,fun v G' H' g o=>?_⟩
  have iv:Is X.K H' d v:=Zb g.sub o
  obtain⟨a,dx,fs,w,kvs,s0,ha,hf,hw,hl,q⟩:=step σ H v H' hp g.same iv
  refine⟨.ref a,s0,a,C,dx,fs,.ref w,rfl,ha,cl,na,hf,H',H',H',(Z08 g.same (hP σ H hp)).snap,fun z G2 H2 g2 i2=>?_⟩
  rw[zn i2]
  exact⟨w,_,rfl,DPut.k (g2.same _ _ hw) hl,h2.u _ _ (q H2 g2.same)⟩⟩
theorem Z17 (i:Nat)(ρ:Ro){fp cp:Pos}{pre:List V→Hp→(Hp→Prop)→Prop}(c:IniR X.prog X.w X.K X.mg X.base k C ps pre)(hm:X.mg f=some (.ref C))(hr:Room (k+1) X.A)(ha:QA X ρ (e::es) ds)(hP:∀σ H,P σ H→Al X.K H ρ σ)
 (step:∀σ H vs H1 a dx,P σ H→Same H H1→IsL X.K H1 ds vs→H1 a=none→H1 dx=none→dx≠a→∃R,pre (.ref a::vs) (upd (upd H1 dx (.own a)) a (.ins C dx [])) R∧∀H',R H'→P' (σ.set i (some (.ref a))) H') (h2:RK X P' (bl::ks) De) (hN:X.N.Nodup)
 (hi:X.N[i]? = some x:=by rfl) (hx:Loc X.env.scope x:=by first | exact Or.inl rfl | exact Or.inr rfl)
 (hs:swapsWith (.Call (.Name f fp) (e::es) [] cp) (some (.Name x p)) pos.line X.env=pure false:=by rfl) (hf:X.fn x=true∨X.env.scope.names.lookup x=some .local:=by first | exact .inl rfl | exact .inr rfl | assumption)
 (hg:Gl X f:=by rfl) (hdb:(f==("__debug__" : Str))=false:=by decide) (he:starEach (e::es) X.env=(false,eval e X.env)::starEach es X.env:=by rfl) (hpl:(backTo cp (starEach es X.env)).any (·.1)=false:=by rfl) :
 RK X P ((.Assign [.Name x p] (.Call (.Name f fp) (e::es) [] cp) pos::bl)::ks) De :=
 ⟨fun σ H h pins s I=>by
  obtain⟨fa,fd,F,M,B⟩:=c.ex
  refine pss_cons (ps_set hN hi hx (pe_make M F hr hg hm B .nil pass0 ha.u hdb he hpl) hs hf) Z9 pins s σ H _ I ⟨H,H,H,(hP σ H h).snap,fun vs G1 H1 g1 i1 a dx h1 h3 ne=>?_⟩
  obtain⟨R,hp,q⟩:=step σ H vs H1 a dx h g1.same (Zk g1.sub i1) h1 h3 ne
  refine⟨R,?_,fun H' hR=>⟨rfl,h2.u _ _ (q H' hR)⟩⟩
  rw[List.append_nil];exact hp⟩
theorem Z18 (j:Nat)(ρ:Ro){m:Str}{ap cp:Pos}{pl:Sem Bool}{pre:List V→Hp→(V→Hp→Prop)→Prop}(c:MtR X.prog X.w X.K X.mg X.base k C m ps pre)(cl:Cls X.K C)(hr:Room k X.A)(ha:QA X ρ (e::es) ds)(hP:∀σ H,P σ H→Al X.K H ρ σ)
 (at_:∀σ H,P σ H→∃a dx fs,σ[j]? = some (some (.ref a))∧H a=some (.ins C dx fs)∧fs.lookup m=none∧∀vs H1,Same H H1→IsL X.K H1 ds vs→∃R,pre (.ref a::vs) H1 R∧∀v H',R v H'→P' σ H') (h2:RK X P' (bl::ks) De)
 (hN:X.N[j]? = some y:=by rfl) (hv:Vis X.env.scope y:=by first | exact Or.inl rfl | exact Or.inr (Or.inl rfl) | exact Or.inr (Or.inr rfl)) (hd:(y==("__debug__" : Str))=false:=by decide) (hcd:(y==("__classdict__" : Str))=false:=by decide)
 (hst:starEach (e::es) X.env=(false,eval e X.env)::starEach es X.env:=by rfl) (hpl:(backTo cp (starEach es X.env)).any (·.1)=false:=by rfl)
 (ht:eval (.Call (.Attribute (.Name y p) m ap) (e::es) [] cp) X.env=(do
  let ov ←eval (.Name y p) X.env
  standAt ap.atName
  let (f,first) ←holding [ov] (getMethod ov m pl)
  callWith cp f first (backTo cp (starEach (e::es) X.env)) (backToKw cp (keywordEach [] X.env))):=by rfl)
 (hsw:swapsWith (.Call (.Attribute (.Name y p) m ap) (e::es) [] cp) none pos.line X.env=pure false:=by rfl) :
 RK X P ((.Expr (.Call (.Attribute (.Name y p) m ap) (e::es) [] cp) pos::bl)::ks) De :=
 ⟨fun σ H h pins s I=>by
  obtain⟨fa,fd,F,M,B⟩:=c.ex
  obtain⟨a,dx,fs,s0,ha',hl,q⟩:=at_ σ H h
  refine pss_cons (ps_expr (pe_meth (pe_var hN hv hd hcd) cl M F hr B .nil pass0 ha.u hst hpl ht) hsw) Z9 pins s σ H _ I ⟨.ref a,s0,a,dx,fs,rfl,ha',hl,H,H,H,(hP σ H h).snap,fun vs G1 H1 g1 i1=>?_⟩
  obtain⟨R,hp,w⟩:=q vs H1 g1.same (Zk g1.sub i1)
  refine⟨R,?_,fun v H' hR=>h2.u _ _ (w v H' hR)⟩
  rw[List.append_nil];exact hp⟩
end
end L2.L3
namespace L2
open PySem PySem.Spec PyProof.Rows
section
variable {X:Cx}
theorem Z0H (hu:X.A.units+64<cLine):MtM X "list.index" (fun x vs H Q=>∃(l:Addr) (xs:List V) (ds:List D) (dx:D) (y:V) (j:Nat),x=.ref l∧vs=[y]∧SqL X.K H l xs∧IsL X.K H ds xs∧Is X.K H dx y∧dep dx<1000∧depL ds≤30∧(∃d,ds[j]? = some d∧eqD d dx=true)∧(∀m d,m<j→ds[m]? = some d→eqD d dx=false)∧Q (.int j) H):=by
 intro pins s σ H x vs v us Q I rx rv h
 obtain⟨l,xs,ds,dx,y,j,rfl,rfl,hH,il,iy,hx,hl,⟨dj,hj,ej⟩,hno,q⟩:=h
 cases rx
 obtain⟨u,rfl,ru⟩:=rv.one
 obtain⟨its,r,pl,hz⟩:=I.list hH
 obtain⟨⟨cls,dd,data,sl⟩,ho,hc,n,hd⟩:=pl.isList
 simp only at hc hd
 subst hc hd
 have hlen:its.length=ds.length:=by rw[←r.length,il.len]
 have hjl:j<ds.length:=(List.getElem?_eq_some_iff.mp hj).1
 have hsm:(j:Int)<2 ^ 63-1:=by
  have h1:its.length≤sizeLine:=by rw[←r.length];exact hz
  have h2:sizeLine<2 ^ 62:=by decide
  omega
 obtain⟨_,h2⟩:=L3.eqW_all I ru iy hx X.A.in1 (by show X.A.units+1+31<cLine;omega) hl il r
 have hdep:∀d∈ds,dep d≤30:=fun d hd=>by
  have:∀(l:List D),d∈l→dep d≤depL l:=by
   intro l
   induction l with
   | nil=>intro z;cases z
   | cons a l ih =>
    intro z
    unfold depL
    rcases List.mem_cons.mp z with z | z
    · subst z;exact Nat.le_max_left _ _
    · exact Nat.le_trans (ih z) (Nat.le_max_right _ _)
  exact Nat.le_trans (this ds hd) hl
 have key:∀m (hm:m<its.length) d,ds[m]? = some d→L3.eqW X.K H dx its[m]=eqD d dx:=fun m hm d e=>by
  obtain⟨x,e1,e2⟩:=L3.vals_at r (List.getElem?_eq_getElem hm)
  obtain⟨d',e3,e4⟩:=L3.isl_atV il e1
  rw[e] at e3;cases e3
  exact L3.eqW_of I e2 e4 (Nat.lt_of_le_of_lt (hdep d (List.mem_of_getElem? e)) (by decide))
 refine call_meets F.slot_list_index ⟨_,ho,rfl⟩ F.entry_list_index (F.args_list_index_2 _ _) (SeqAt.list_indexAt l its.toArray n dd sl u (L3.eqW X.K H dx) j (by simpa using (show j<its.length by omega)) hsm ?_ fun m hm hmj=>?_) ⟨ho,fun y hy=>h2 y (by simpa using hy),⟨.int j,H,I.tok _,⟨_,rfl⟩,q⟩⟩
 · simp only[List.getElem_toArray]
   rw[key j (by omega) dj hj];exact ej
 · have hm':m<its.length:=by simpa using hm
   simp only[List.getElem_toArray]
   rw[key m hm' _ (List.getElem?_eq_getElem (by omega))]
   exact hno m _ hmj (List.getElem?_eq_getElem (by omega))
end
namespace L3
section
variable {X:Cx}{ρ:Ro}{e o:Expr}{pos ap cp:Pos}{lk:List Key}{vs:List D}
theorem zW {ds:List D}{dx:D}{j:Nat}{dj:D}(hu:X.A.units+64<cLine)(ho:QE X ρ o (.dat (.lst ds)))(he:QE X ρ e (.dat dx))(hx:dep dx<1000)(hl:depL ds≤30)(hj:ds[j]? = some dj)(ej:eqD dj dx=true)(hno:∀m d,m<j→ds[m]? = some d→eqD d dx=false)
 (hbase:attributeBase o "index" X.env (eval o X.env)=eval o X.env:=by rfl)
 (hfew:((backTo cp (starEach [e] X.env)).all (fun x=>!x.1)&&(backToKw cp (keywordEach [] X.env)).all (fun x=>x.1.isSome)
  && decide ([e].length+([]:List Keyword).length+(if ([]:List Keyword).isEmpty then 0 else 1)<30))=true:=by rfl)
 (hline:(ap.endLine==cp.line)=true:=by rfl) (hs:starEach [e] X.env=[(false,eval e X.env)]:=by rfl) :
 QE X ρ (.Call (.Attribute o "index" ap) [e] [] cp) (.dat (.int j)) :=
 Zf (pe_bm PySem.F.plainAttrs_list PySem.F.slot_list_index PySem.F.type_list_index (Z0H hu) ho.u (pa_cons he.u pa_nil hs) hbase hfew hline hs rfl) fun G0 H0 G σ H Q c q=>⟨G0,H0,G,c,fun v G1 H1 g1 i1=>by
  obtain⟨a,xs,rfl,h1,h2⟩:=ZB i1
  refine⟨.inl ⟨rfl,xs,g1.sub.seq h1⟩,G0,H0,G1,c.up g1,fun w G2 H2 g2 i2=>?_⟩
  exact⟨a,xs,ds,dx,w,j,rfl,rfl,(g1.sub.trans g2.same).seq h1,Zk (g1.sub.trans g2.same) h2,Zb g2.sub i2,hx,hl,⟨dj,hj,ej⟩,hno,q _ G2 H2 (g1.trans g2) Zl⟩⟩
theorem Z0u {k:Key}(hu:X.A.units+1<cLine)(he:QE X ρ e (.dat (keyD k)))(ho:QE X ρ o (.dat (.dct lk vs)))(hb:behindInMarks .NotIn o=false:=by rfl) :
 QE X ρ (.Compare e [.NotIn] [o] pos) (.dat (.bl (!(valG (lk.zip vs) k).isSome))) :=
 Zf (pe_cmp (pc_dnotin hu he.u ho.u) hb) fun G0 H0 G σ H Q c q=>⟨G0,H0,G,c,fun v0 G1 H1 g1 i1=>⟨G0,H0,G1,c.up g1,fun v G2 H2 g2 i2=>by
  obtain⟨a,es,rfl,h4,h5,h6⟩:=zG i2
  have he:=Ents.of h5 h6
  refine⟨a,_,rfl,by rw[zn i1];exact DGet.k (g2.sub _ _ h4),?_⟩
  have:=q _ G2 H2 (g1.trans g2) ZF
  rcases he.val k with ⟨z1,z2⟩ | ⟨d,v,z1,z2,_⟩
  · rw[z1] at this;rw[z2];exact this
  · rw[z1] at this;rw[z2];exact this⟩⟩
theorem Z1h {k:Key}(hu:X.A.units+1<cLine)(ho:QE X ρ o (.dat (.dct lk vs)))(he:QE X ρ e (.dat (keyD k)))(hm:M1 X o "get" ap e cp:=by exact⟨rfl,rfl,rfl,rfl⟩) :
 QE X ρ (.Call (.Attribute o "get" ap) [e] [] cp) (.dat ((valG (lk.zip vs) k).getD .non)) :=
 Zf (pe_dget1 hu ho.u he.u hm) fun G0 H0 G σ H Q c q=>⟨G0,H0,G,c,fun v0 G1 H1 g1 i1=>by
  obtain⟨a,es,rfl,h4,h5,h6⟩:=zG i1
  have he:=Ents.of h5 h6
  refine⟨a,rfl,.inl ⟨_,.inl (g1.sub _ _ h4)⟩,G0,H0,G1,c.up g1,fun v G2 H2 g2 i2=>?_⟩
  rw[zn i2]
  refine⟨_,DGet.k (g2.same _ _ (g1.sub _ _ h4)),?_⟩
  rcases he.val k with ⟨z1,z2⟩ | ⟨d,v',z1,z2,z3⟩
  · rw[z1] at q;rw[z2];exact q _ G2 H2 (g1.trans g2) yP
  · rw[z1] at q;rw[z2];exact q v' G2 H2 (g1.trans g2) (Zb (g2.gg g1.sub) z3)⟩
end
end L3
theorem Z3o {g:TG}{tt:TT}{te:TE}{D:Addr}{σ0:St}{H0:Hp}{Q:Hp→Prop}{n:Nat}(Pv:Nat→List V→St→Hp→Prop)(h0:Pv 0 [] σ0 H0)(hl:∀i ys σ H,i≤n→Pv i ys σ H→H D=some (.lst ys))
 (hs:∀i ys σ H,i<n→Pv i ys σ H→g (.int (2*i)) σ H fun σ4 H4=>tt σ4 H4 fun b H5 =>
  if b=true then te σ4 H5 fun y H6=>H6 D=some (.lst ys)∧ys.length<sizeLine∧Pv (i+1) (ys++[y]) σ4 (upd H6 D (.lst (ys++[y]))) else Pv (i+1) ys σ4 H5)
 (hd:∀ys σ H,Pv n ys σ H→Q H):LCW (It2 n) g tt te D σ0 H0 Q:=by
 refine⟨fun i ys σ H m=>m=n-i∧i≤n∧Pv i ys σ H,⟨n,by simp,Nat.zero_le _,h0⟩,?_⟩
 rintro i ys σ H m ⟨rfl,hi,p⟩
 refine⟨hl i ys σ H hi p,?_⟩
 by_cases hlt:i<n
 · refine .inr ⟨hlt,Pv (i+1),fun zs σ' H' p'=>⟨n-(i+1),by omega,rfl,hlt,p'⟩,fun x H3 y=>?_⟩
   obtain⟨e,y⟩:=y
   subst e y
   exact hs i ys σ _ hlt p
 · have e:i=n:=by omega
   subst e
   exact .inl ⟨Nat.le_refl _,hd ys σ H p⟩
namespace L3
section
variable {X:Cx}{ρ:Ro}{elt tg a b c':Expr}{pos p2 cp:Pos}{N:List Str}{scope:Scope}
theorem Z1f {n:Nat}{F:Nat→D}(js:List (Option Nat))(S:BlkScope N scope X.env.scope)(Z:Slots X.N N scope (sbOf js))(ha:QE X ρ a (.dat (.int 0)))(hb:QE X ρ b (.dat (.int (2*(n:Nat)))))(hc':QE X ρ c' (.dat (.int 2)))(hn:(n:Int)<2 ^ 60)(hg:∀C fp s H,PG (X.blk N scope C fp s H) tg (gName 0))
 (turn:∀i,i<n→∀C fp s H,QE (X.blk N scope C fp s H) ((rb js ρ).set 0 (.dat (.int (2*(i:Nat))))) elt (.dat (F i))) (hl:n≤sizeLine) (hm:X.mg "range" = none) (hgl:Gl X "range" := by rfl)
 (hsA:starEach [a,b,c'] X.env=[(false,eval a X.env),(false,eval b X.env),(false,eval c' X.env)]:=by rfl) (hsB:starEach [b,c'] X.env=[(false,eval b X.env),(false,eval c' X.env)]:=by rfl) (hsC:starEach [c'] X.env=[(false,eval c' X.env)]:=by rfl) (hc:X.calm=true:=by rfl) (hs:∀x,foldedSetIterable (.Call (.Name "range" p2) [a,b,c'] [] cp) X.env x=pure x:=by intro _;rfl) :
 QE X ρ (.ListComp elt [⟨tg,(.Call (.Name "range" p2) [a,b,c'] [] cp),[],0⟩] scope pos) (.own ((List.range n).map F)) :=
 Zf (JC hc S Z (Z39 hgl hm (pa_cons ha.u (pa_cons hb.u (pa_cons hc'.u pa_nil hsC) (by rw[hsB,hsC])) (by rw[hsA,hsB])) hsA hsB) hg (fun _ _ _ _=>YB) (fun _ _ _ _=>Jm) hs) fun G0 H0 G σ H Q c q =>
  ⟨G0,H0,G,c,fun v0 G1 H1 g1 i1=>⟨G0,H0,G1,c.up g1,fun v1 G2 H2 g2 i2=>⟨G0,H0,G2,c.up (g1.trans g2),fun v2 G3 H3 g3 i3=>by
   have g123:=(g1.trans g2).trans g3
   refine⟨n,by rw[Z8 i1,Z8 i2,Z8 i3],hn,fun Dd hD=>?_⟩
   refine Z3o (fun i ys σ' H2=>LcI X.K G3 H3 js σ Dd ((List.range i).map F) ys σ' H2) (JR g123.sub hD) ?_ ?_ ?_
   · rintro i ys σ' H2 _ ⟨G2,g2,k1,k2,_⟩
     exact k2
   · rintro i ys σ' H2 hi h
     exact zF (c.up g123) hD (.inl ⟨.dat (F i),fun _ _ _ _=>YK,turn i hi,by rw[List.range_succ,List.map_append];rfl,by rw[List.length_map,List.length_range];omega⟩) Zl h
   · rintro ys σ' H2 h
     exact yY c g123 hD q h⟩⟩⟩
end
end L3
end L2
namespace L2.L3
open PySem PySem.Spec PyProof.Rows
section
variable {X:Cx}{ρ:Ro}{it elt tg:Expr}{ds:List D}{pos:Pos}{N:List Str}{js:List (Option Nat)}{scope:Scope}{G0 H0 G:Hp}{σ:St}{H:Hp}{α:Type}{ifs:List Expr}
theorem Z0I {G1 H1 H2:Hp}{Dd:Addr}{ys:List V}{zs ws:List L2.D}{σ':St}{d d2:L2.D}{v:V}(c:Conf X.K G0 H0 ρ G1 σ H1)(hD:H1 Dd=none)(hj:js[1]? = some none)(t:LcT X N scope (((rb js ρ).set 0 (.dat d)).set 1 (.dat d2)) ifs elt zs ws)(iv:Is X.K G1 (.tup [d,d2]) v)
 (h:LcI2 X.K G1 H1 js σ Dd zs ys σ' H2) :
 gTup X.K 2 (gCons (gName 0) (gCons (gName 1) gNil)) v σ' H2 fun σ4 H4=>tTc X N scope ifs σ4 H4 fun b H5=>if b=true then tEc X N scope elt σ4 H5 fun y H6=>H6 Dd=some (.lst ys)∧ys.length<sizeLine∧LcI2 X.K G1 H1 js σ Dd ws (ys++[y]) σ4 (upd H6 Dd (.lst (ys++[y])))
  else LcI2 X.K G1 H1 js σ Dd ws ys σ4 H5:=by
 obtain⟨G2,g2,k1,k2,k3,k4,k5⟩:=h
 have sg:Same G1 G2:=g2.gg c.sub
 obtain⟨ad,xs,rfl,t1,t2⟩:=is_tup iv
 obtain⟨v1,v2,rfl,i1,i2⟩:=IsL.two_of t2
 refine⟨ad,_,rfl,(sg.trans g2.sub).tuple t1,rfl,_,_,rfl,_,_,rfl,rfl,?_⟩
 have cb:=JO (js:=js) (σ':=σ') c sg g2.sub (Zb sg i1) (Zb sg i2) k4 hj k5
 have len':((σ'.set 0 (some v1)).set 1 (some v2)).length=js.length:=by rw[List.length_set,List.length_set];exact k4
 have tail':∀k:Nat,2≤k→((σ'.set 0 (some v1)).set 1 (some v2))[k]? = (sbOf js σ)[k]?:=fun k hk=>by rw[List.getElem?_set_ne (by omega),List.getElem?_set_ne (by omega)];exact k5 k hk
 rcases t with ⟨r,ht,he,rfl,hz⟩ | ⟨ht,rfl⟩
 · intro C fp s0 H0' pins s I
   refine(ht C fp s0 H0').u pins s _ H2 _ I ⟨G2,H2,G2,cb,fun G5 H5 g5=>iteT ?_⟩
   intro C fp s0 H0' pins s I
   refine(he C fp s0 H0').u pins s _ H5 _ I ⟨G2,H2,G5,cb.up g5,fun y G6 H6 g6 o6=>?_⟩
   obtain⟨G7,g7,i7⟩:=o6.share g6
   have g57:=g5.trans g7
   have hG7:G7 Dd=none:=(g57.old _ (Y4 k2)).trans k1
   have g17:=g2.trans g57
   refine⟨g57.same _ _ k2,by rw[k3.len];exact hz,G7,⟨fun b u q=>?_,g17.old,fun b u q=>?_⟩,hG7,upd_same,(Zk (g57.gg g2.sub) k3).snoc i7,len',tail'⟩
   · rw[upd_ne (ne_of_none q hD)];exact g17.same b u q
   · rw[upd_ne (ne_of_none q hG7)];exact g17.sub b u q
 · intro C fp s0 H0' pins s I
   refine(ht C fp s0 H0').u pins s _ H2 _ I ⟨G2,H2,G2,cb,fun G5 H5 g5=>iteF ?_⟩
   exact⟨G5,g2.trans g5,(g5.old _ (Y4 k2)).trans k1,g5.same _ _ k2,Zk (g5.gg g2.sub) k3,len',tail'⟩
theorem Z1g {gl:List α}{f1 f2 F:α→D}{p:α→Bool}{cd:Expr}{x y:Str}{px py pt:Pos}{kk:Nat}(js:List (Option Nat))(S:BlkScope N scope X.env.scope)(Z:Slots X.N N scope (sbOf js))(hi:QE X ρ it (.dat (.lst (gl.map fun g=>.tup [f1 g,f2 g]))))(hg:∀C fp s H,PG (X.blk N scope C fp s H) (.Tuple [.Name x px,.Name y py] kk pt) (gTup X.K 2 (gCons (gName 0) (gCons (gName 1) gNil))))
 (hj:js[1]? = some none) (test:∀g,g∈gl→∀C fp s H,QTs (X.blk N scope C fp s H) (((rb js ρ).set 0 (.dat (f1 g))).set 1 (.dat (f2 g))) [cd] (p g)) (turn:∀g,g∈gl→p g=true→∀C fp s H,QE (X.blk N scope C fp s H) (((rb js ρ).set 0 (.dat (f1 g))).set 1 (.dat (f2 g))) elt (.dat (F g))) (hl:gl.length≤sizeLine) (hc:X.calm=true:=by rfl) (hs:∀z,foldedSetIterable it X.env z=pure z:=by intro _;rfl) :
 QE X ρ (.ListComp elt [⟨.Tuple [.Name x px,.Name y py] kk pt,it,[cd],0⟩] scope pos) (.own ((gl.filter p).map F)) :=
 Zf (JC hc S Z (pi_list hi.u) hg (fun _ _ _ _=>YB) (fun _ _ _ _=>Jm) hs) fun G0 H0 G σ H Q c q=>⟨G0,H0,G,c,fun v G1 H1 g1 i1=>by
  obtain⟨ad,xs,rfl,h1,h2⟩:=ZB i1
  refine⟨ad,rfl,⟨xs,g1.sub.seq h1⟩,fun Dd hD=>JF (xs:=xs) (fun i ys σ' H2=>LcI2 X.K G1 H1 js σ Dd (((gl.take i).filter p).map F) ys σ' H2) ?_ ?_ ?_ ?_⟩
  · exact⟨G1,Grow.newOwn g1.sub hD,Same.dead g1.sub hD,upd_same,.nil,by simp[sbOf],fun _ _=>rfl⟩
  · rintro i ys σ' H2 _ ⟨G2,g2,k1,k2,_⟩
    exact⟨g2.same |>.seq (g1.sub.seq h1),k2⟩
  · rintro i w ys σ' H2 hi2 h
    obtain⟨d,e1,iv⟩:=h2.got hi2
    obtain⟨g,hgi,rfl⟩:=Y5 e1
    have hlt:i<gl.length:=(List.getElem?_eq_some_iff.mp hgi).1
    have hm:=List.mem_of_getElem? hgi
    have e:gl.take (i+1)=gl.take i++[g]:=by rw[List.take_add_one,hgi];rfl
    have t:=test g hm
    refine Z0I (c.up g1) hD hj ?_ iv h
    cases hp:p g with
    | true =>
     rw[hp] at t
     refine .inl ⟨.dat (F g),t,turn g hm hp,?_,?_⟩
     · rw[e,List.filter_append,List.filter_cons_of_pos hp,List.map_append];rfl
     · rw[List.length_map]
       exact Nat.lt_of_le_of_lt (List.length_filter_le _ _) (by rw[List.length_take];omega)
    | false =>
     rw[hp] at t
     refine .inr ⟨t,?_⟩
     rw[e,List.filter_append,List.filter_cons_of_neg (by rw[hp];exact Bool.false_ne_true),List.filter_nil,List.append_nil]
  · rintro ys σ' H2 ⟨G2,g2,k1,k2,k3,_,_⟩
    have e:((gl.take xs.length).filter p).map F=(gl.filter p).map F:=by rw[h2.len,List.length_map,List.take_length]
    rw[e] at k3
    exact q _ G2 H2 (g1.trans g2) ⟨Dd,ys,rfl,k1,Same.dead g1.same hD,k2,k3⟩⟩
end
theorem zX {X:Cx}{ρ:Ro}{pos:Pos}:QE X ρ (.Dict [] [] pos) (.od (.dk [])) :=
 ⟨fun pins s σ H Q I ⟨G0,H0,G,c,q⟩=>by
  have big:sysModules<s.heap.objs.size:=Nat.lt_trans (by decide) (I.mod.glob.keeps I.bk).lt
  have fr:H s.heap.objs.size=none:=I.hok.fresh (Nat.le_refl _)
  refine wpAny_Dict_empty ⟨.ref s.heap.objs.size,upd H s.heap.objs.size (.dK []),I.laid (a:=s.heap.objs.size) (o:=.dK []) (t':=s.toks) (fun _ _ e=>Heap.get?_push_of_some _ e) (Nat.le_refl _) ⟨Nat.zero_le _,beq_eq_false_iff_ne.mpr (Ne.symm (Nat.ne_of_lt big)),[],.nil,Heap.DictOf.new _⟩,rfl,?_⟩
  exact q _ G _ (Grow.newOwn c.sub fr) ⟨_,_,rfl,rfl,Same.dead c.sub fr,fr,upd_same,[],rfl,.nil⟩⟩
mutual
def nkD:D→Bool
 | .non=>true
 | .bl _=>true
 | .int _=>true
 | .str _=>true
 | .tup ds=>nkDs ds
 | .lst ds=>nkDs ds
 | _=>false
def nkDs:List D→Bool
 | []=>true
 | d::ds=>nkD d&&nkDs ds
end
theorem zE:∀ {ds:List D},(∀d∈ds,nkD d=true)→nkDs ds=true
 | [],_=>by unfold nkDs;rfl
 | d::ds,h=>by
  unfold nkDs
  rw[h d List.mem_cons_self,zE fun x hx=>h x (List.mem_cons_of_mem _ hx)];rfl
theorem ZX (i:Int):nkD (.int i)=true:=by unfold nkD;rfl
theorem Z3i {ds:List D}(h:∀d∈ds,nkD d=true):nkD (.lst ds)=true:=by unfold nkD;exact zE h
theorem Z3h {ds:List D}(h:∀d∈ds,nkD d=true):nkD (.tup ds)=true:=by unfold nkD;exact zE h
section
variable {K:PySem.W.Frag}{H:Hp}{wa:Addr}{kvs:List (Key × V)}{o:HO}
theorem Z3E {a:Addr}{u:HO}(hw:H wa=some (.dK kvs))(hu:u ≠ .dK kvs)(h:Rd H a u):Rd (upd H wa o) a u:=by
 rcases h with h | ⟨ob,h⟩
 · exact .inl (by rw[upd_ne (fun z=>by rw[z,hw] at h;exact hu (Option.some.inj h).symm)];exact h)
 · exact .inr ⟨ob,by rw[upd_ne (fun z=>by rw[z,hw] at h;cases h)];exact h⟩
mutual
theorem Is.nk (hw:H wa=some (.dK kvs)):∀ {d:D} {v:V},nkD d=true→Is K H d v→Is K (upd H wa o) d v
 | .non,v,_,h=>by unfold Is at h ⊢;exact h
 | .bl b,v,_,h=>by unfold Is at h ⊢;exact h
 | .int i,v,_,h=>by unfold Is at h ⊢;exact h
 | .str x,v,_,h=>by unfold Is at h ⊢;exact h
 | .tup ds,v,f,h=>by
  unfold Is at h ⊢
  unfold nkD at f
  obtain⟨a,xs,e,h1,h2⟩:=h
  exact⟨a,xs,e,by rw[upd_ne (fun z=>by rw[z,hw] at h1;cases h1)];exact h1,IsL.nk hw f h2⟩
 | .lst ds,v,f,h=>by
  unfold Is at h ⊢
  unfold nkD at f
  obtain⟨a,xs,e,h1,h2⟩:=h
  refine⟨a,xs,e,?_,IsL.nk hw f h2⟩
  rcases h1 with h1 | h1
  · exact .inl (Z3E hw (fun z=>nomatch z) h1)
  · exact .inr h1
 | .exn C,v,f,h=>by unfold nkD at f;cases f
 | .obj C ns ds,v,f,h=>by unfold nkD at f;cases f
 | .dct ks ds,v,f,h=>by unfold nkD at f;cases f
 | .dtp ks ds,v,f,h=>by unfold nkD at f;cases f
 | .fn _ _,v,f,h=>by unfold nkD at f;cases f
theorem IsL.nk (hw:H wa=some (.dK kvs)):∀ {ds:List D} {xs:List V},nkDs ds=true→IsL K H ds xs→IsL K (upd H wa o) ds xs
 | [],xs,_,h=>by unfold L2.IsL at h ⊢;exact h
 | d::ds,xs,f,h=>by
  unfold nkDs at f
  rw[Bool.and_eq_true] at f
  unfold L2.IsL at h ⊢
  obtain⟨x,r,e,h1,h2⟩:=h
  exact⟨x,r,e,Is.nk hw f.1 h1,IsL.nk hw f.2 h2⟩
end
end
def nkS:Slot→Bool
 | .un=>true
 | .dat d=>nkD d
 | _=>false
def nkR:Ro→Prop
 | []=>True
 | s::ρ=>nkS s=true∧nkR ρ
theorem Al.nk {K:PySem.W.Frag}{H:Hp}{wa:Addr}{kvs:List (Key × V)}{o:HO}(hw:H wa=some (.dK kvs)):∀ {ρ:Ro} {σ:St},nkR ρ→Al K H ρ σ→Al K (upd H wa o) ρ σ
 | [],[],_,_=>trivial
 | s::ρ,v::σ,n,h=>⟨by
  cases s with
  | un=>trivial
  | dat d=>obtain⟨u,e,i⟩:=h.1;exact⟨u,e,Is.nk hw n.1 i⟩
  | own ds=>exact h.1
  | dk kvs=>exact h.1
  | dt kvs=>exact h.1,Al.nk hw n.2 h.2⟩
def flatS:Slot→Bool
 | .un=>true
 | .dat d=>flatD d
 | _=>false
def flatR (ρ:Ro):Prop:=ρ.all flatS=true
theorem Al.fl {K:PySem.W.Frag}{H H':Hp}(k:TupsK H H'):∀ {ρ:Ro} {σ:St},flatR ρ→Al K H ρ σ→Al K H' ρ σ
 | [],[],_,_=>trivial
 | s::ρ,v::σ,n,h=>by
  unfold flatR at n
  rw[List.all_cons,Bool.and_eq_true] at n
  refine⟨?_,Al.fl k n.2 h.2⟩
  cases s with
  | un=>trivial
  | dat d=>obtain⟨u,e,i⟩:=h.1;exact⟨u,e,Is.flat k n.1 i⟩
  | own ds=>exact h.1
  | dk kvs=>exact h.1
  | dt kvs=>exact h.1
theorem Al.setD {K:PySem.W.Frag}{H:Hp}{d:D}{v:V}:∀ {ρ:Ro} {σ:St} {j:Nat},Al K H ρ σ→σ[j]? = some (some v)→Is K H d v→Al K H (ρ.set j (.dat d)) σ
 | [],[],j,_,e,_=>by simp at e
 | s::ρ,u::σ,0,h,e,i=>⟨⟨v,by simpa using e,i⟩,h.2⟩
 | s::ρ,u::σ,j+1,h,e,i=>⟨h.1,Al.setD h.2 (by simpa using e) i⟩
theorem Al.put {K:PySem.W.Frag}{H:Hp}{d:D}{v:V}(i:Is K H d v):∀ {ρ:Ro} {σ:St} {j:Nat},Al K H ρ σ→Al K H (ρ.set j (.dat d)) (σ.set j (some v))
 | [],[],j,h=>by simpa using h
 | s::ρ,u::σ,0,h=>⟨⟨v,rfl,i⟩,h.2⟩
 | s::ρ,u::σ,j+1,h=>⟨h.1,Al.put i h.2⟩
theorem Al.putU {K:PySem.W.Frag}{H:Hp}{v:V}:∀ {ρ:Ro} {σ:St} {j:Nat},Al K H ρ σ→Al K H (ρ.set j .un) (σ.set j (some v))
 | [],[],j,h=>by simpa using h
 | s::ρ,u::σ,0,h=>⟨trivial,h.2⟩
 | s::ρ,u::σ,j+1,h=>⟨h.1,Al.putU h.2⟩
theorem Al.weak {K:PySem.W.Frag}{H:Hp}:∀ {ρ' ρ:Ro} {σ:St},Wk ρ' ρ→Al K H ρ σ→Al K H ρ' σ
 | [],[],[],_,_=>trivial
 | s'::ρ',s::ρ,u::σ,w,h=>⟨by
  rcases w.1 with z | z
  · rw[z];trivial
  · rw[z];exact h.1,Al.weak w.2 h.2⟩
def wrt (H:Hp)(b:Addr):Prop:=(∃kvs,H b=some (.dK kvs)) ∨ ∃xs,H b=some (.lst xs)
theorem wrt.tups {H:Hp}{b:Addr}{o:HO}(h:wrt H b):TupsK H (upd H b o):=by
 rcases h with ⟨kvs,h⟩ | ⟨xs,h⟩
 · exact⟨fun c ys e=>by rw[upd_ne (fun z=>by rw[z,h] at e;cases e)];exact e,fun c ob u e=>by rw[upd_ne (fun z=>by rw[z,h] at e;cases e)];exact e⟩
 · exact TupsK.lst h
def SameX (as:List Addr)(H H':Hp):Prop:=∀b o,b∉as→H b=some o→H' b=some o
theorem SameX.refl (as:List Addr)(H:Hp):SameX as H H:=fun _ _ _ h=>h
theorem SameX.up {as:List Addr}{H H' H'':Hp}(s:SameX as H H')(t:Same H' H''):SameX as H H'':=fun b o n h=>t b o (s b o n h)
theorem SameX.write {as:List Addr}{H H':Hp}{a:Addr}{o:HO}(s:SameX as H H')(h:a∈as∨H a=none):SameX as H (upd H' a o):=fun b u n e=>by
 rw[upd_ne (fun z=>by
  rcases h with h | h
  · exact n (z▸h)
  · rw[z,h] at e;cases e)]
 exact s b u n e
theorem SameX.nil {H H':Hp}(s:SameX [] H H'):Same H H':=fun b o e=>s b o (List.not_mem_nil) e
theorem SameX.tups {ws:List Addr}{H H':Hp}(s:SameX ws H H')(h:∀b∈ws,wrt H b):TupsK H H':=by
 refine⟨fun c ys e=>s c _ (fun z=>?_) e,fun c ob u e=>s c _ (fun z=>?_) e⟩
 all_goals rcases h c z with ⟨kvs,q⟩ | ⟨xs,q⟩ <;> rw[q] at e <;> cases e
theorem SameX.upd1 {H:Hp}{b:Addr}{o:HO}:SameX [b] H (upd H b o):=fun c u n e=>by
 rw[upd_ne (fun z=>n (List.mem_singleton.mpr z))];exact e
structure Mu where
 j:Nat
 v:V
 a:Option Addr
 d:D
 F:Hp→Prop
 sup:Addr→Prop
structure MuOk (K:PySem.W.Frag)(m:Mu):Prop where
 is:∀H,m.F H→Is K H m.d m.v
 mono:∀H H',m.F H→Same H H'→m.F H'
 otherX:∀H H' ws,m.F H→SameX ws H H'→(∀b∈ws,¬m.sup b∧wrt H b)→m.F H'
 live:∀H b,m.F H→m.sup b→H b≠none
 own:∀b,m.a=some b→m.sup b
def MsOk (K:PySem.W.Frag)(ms:List Mu):Prop:=∀m∈ms,MuOk K m
theorem MsOk.nil {K:PySem.W.Frag}:MsOk K []:=fun _ h=>nomatch h
theorem MsOk.cons {K:PySem.W.Frag}{m:Mu}{ms:List Mu}(h:MuOk K m)(hs:MsOk K ms):MsOk K (m::ms):=fun x hx=>by
 rcases List.mem_cons.mp hx with z | z
 · rw[z];exact h
 · exact hs x z
theorem MuOk.other {K:PySem.W.Frag}{m:Mu}(ok:MuOk K m)(H:Hp)(b:Addr)(o:HO)(h:m.F H)(n:¬m.sup b)(hw:wrt H b):m.F (upd H b o) :=
 ok.otherX H _ [b] h SameX.upd1 fun c hc=>by rw[List.mem_singleton.mp hc];exact⟨n,hw⟩
def Dis2 (m n:Mu):Prop:=(∀b,m.a=some b→¬n.sup b)∧∀b,n.a=some b→¬m.sup b
def Dis (ms:List Mu):Prop:=ms.Pairwise Dis2
theorem Dis2.symm {m n:Mu}(h:Dis2 m n):Dis2 n m:=⟨h.2,h.1⟩
theorem Dis.at {m n:Mu}:∀ {ms:List Mu} {i j:Nat},Dis ms→ms[i]? = some m→ms[j]? = some n→i≠j→Dis2 m n
 | [],i,j,_,e,_,_=>by simp at e
 | a::ms,0,0,_,_,_,h=>absurd rfl h
 | a::ms,0,j+1,d,e1,e2,_=>by
  have:a=m:=by simpa using e1
  subst this
  exact(List.pairwise_cons.mp d).1 n (List.mem_of_getElem? (by simpa using e2))
 | a::ms,i+1,0,d,e1,e2,_=>by
  have:a=n:=by simpa using e2
  subst this
  exact((List.pairwise_cons.mp d).1 m (List.mem_of_getElem? (by simpa using e1))).symm
 | a::ms,i+1,j+1,d,e1,e2,h=>Dis.at (List.pairwise_cons.mp d).2 (by simpa using e1) (by simpa using e2) (by omega)
def fillM (ρ:Ro):List Mu→Ro
 | []=>ρ
 | m::ms=>fillM (ρ.set m.j (.dat m.d)) ms
structure Wd (K:PySem.W.Frag)(ρ:Ro)(ms:List Mu)(as:List Addr)(Hs:Hp)(σ:St)(H:Hp):Prop where
 al:Al K H ρ σ
 at_:∀m∈ms,σ[m.j]? = some (some m.v)∧m.F H
 fr:SameX as Hs H
section
variable {K:PySem.W.Frag}{ρ ρ':Ro}{ms:List Mu}{as:List Addr}{Hs H H':Hp}{σ:St}
theorem jT:∀ {ms:List Mu} {ρ:Ro},(∀m∈ms,Is K H m.d m.v∧σ[m.j]? = some (some m.v))→Al K H ρ σ→Al K H (fillM ρ ms) σ
 | [],ρ,_,h=>h
 | m::ms,ρ,q,h=>jT (ms:=ms) (fun x hx=>q x (List.mem_cons_of_mem _ hx)) (h.setD (q m List.mem_cons_self).2 (q m List.mem_cons_self).1)
theorem Wd.fill (o:MsOk K ms)(w:Wd K ρ ms as Hs σ H):Al K H (fillM ρ ms) σ:=jT (fun m hm=>⟨(o m hm).is H (w.at_ m hm).2,(w.at_ m hm).1⟩) w.al
theorem Wd.mono (o:MsOk K ms)(w:Wd K ρ ms as Hs σ H)(s:Same H H'):Wd K ρ ms as Hs σ H' :=
 ⟨Z08 s w.al,fun m hm=>⟨(w.at_ m hm).1,(o m hm).mono H H' (w.at_ m hm).2 s⟩,w.fr.up s⟩
theorem Wd.weak (w:Wd K ρ ms as Hs σ H)(h:Wk ρ' ρ):Wd K ρ' ms as Hs σ H:=⟨w.al.weak h,w.at_,w.fr⟩
theorem zt {i:Nat}{u:Option V}(hi:(ms.all fun m=>m.j != i)=true)(h:∀m∈ms,σ[m.j]? = some (some m.v)∧m.F H):∀m∈ms,(σ.set i u)[m.j]? = some (some m.v)∧m.F H:=fun m hm=>by
 have:m.j≠i:=by
  have:=List.all_eq_true.mp hi m hm
  simpa using this
 refine⟨?_,(h m hm).2⟩
 rw[List.getElem?_set_ne (Ne.symm this)];exact(h m hm).1
theorem Wd.put {i:Nat}{d:D}{v:V}(w:Wd K ρ ms as Hs σ H)(hi:(ms.all fun m=>m.j != i)=true)(iv:Is K H d v):Wd K (ρ.set i (.dat d)) ms as Hs (σ.set i (some v)) H :=
 ⟨w.al.put iv,zt hi w.at_,w.fr⟩
end
def R.plain:R→Bool
 | .od _=>false
 | _=>true
theorem Z2Z {K:PySem.W.Frag}{H H':Hp}{r:R}{v:V}(hp:r.plain=true)(h:Res K H H' r v):Is K H' r.d v:=by
 cases r with
 | dat d=>exact h
 | own ds =>
  obtain⟨a,xs,rfl,_,h2,h3⟩:=h
  exact Is.ofLst (SqL.of h2) h3
 | od t=>cases hp
section
variable {X:Cx}{ρ ρ':Ro}{ms:List Mu}{as:List Addr}{Hs:Hp}{P:St→Hp→Prop}{r:R}{e:Expr}{bl:List Stmt}{ks:List (List Stmt)}{D:Ends}{pos:Pos}{x y:Str}
theorem jZ {α:Type}{Q:α→Prop}{Pf:α→St→Hp→Prop}(h:∀a,Q a→RK X (Pf a) ks D):RK X (fun σ H=>∃a,Q a∧Pf a σ H) ks D:=⟨fun σ H ⟨a,q,p⟩=>(h a q).u σ H p⟩
theorem Ym (i:Nat){p:Pos}(ok:MsOk X.K ms)(h:QE X (fillM ρ ms) e r)(h2:RK X (Wd X.K (ρ.set i (.dat r.d)) ms as Hs) (bl::ks) D)(hN:X.N.Nodup)(hp:r.plain=true:=by rfl)(hm:(ms.all fun m=>m.j != i)=true:=by rfl)
 (hi:X.N[i]? = some x:=by rfl) (hx:Loc X.env.scope x:=by first | exact Or.inl rfl | exact Or.inr rfl) (hs:swapsWith e (some (.Name x p)) pos.line X.env=pure false:=by rfl)
 (hf:X.fn x=true∨X.env.scope.names.lookup x=some .local:=by first | exact .inl rfl | exact .inr rfl | assumption):RK X (Wd X.K ρ ms as Hs) ((.Assign [.Name x p] e pos::bl)::ks) D :=
 Z0m i (fillM ρ ms) h (fun σ H w=>w.fill ok) (fun σ H v H' w s q=>(w.mono ok s).put hm (Z2Z hp q)) h2 hN hi hx hs hf
theorem Je {c:Expr}{t u:List Stmt}{bv:Bool}(ok:MsOk X.K ms)(hc:QT X (fillM ρ ms) c bv)(h1:bv=true→RK X (Wd X.K ρ ms as Hs) (t::bl::ks) D)(h2:bv=false→RK X (Wd X.K ρ ms as Hs) (u::bl::ks) D):RK X (Wd X.K ρ ms as Hs) ((.If c t u pos::bl)::ks) D :=
 Z1H (fillM ρ ms) hc (fun σ H w=>w.fill ok) (fun σ H H' w s=>w.mono ok s) h1 h2
theorem Z3z (ok:MsOk X.K ms)(h:QE X (fillM ρ ms) e r)(fin:∀σ H v H',Wd X.K ρ ms as Hs σ H'→Same H H'→Res X.K H H' r v→D.rt v H'):RK X (Wd X.K ρ ms as Hs) ((.Return (some e) pos::bl)::ks) D :=
 Z2Y (fillM ρ ms) h (fun σ H w=>w.fill ok) fun σ H v H' w s q=>fin σ H v H' (w.mono ok s) s q
theorem Z11 (h:Wk ρ' ρ)(h2:RK X (Wd X.K ρ' ms as Hs) ks D):RK X (Wd X.K ρ ms as Hs) ks D:=yC h2 fun σ H w=>w.weak h
theorem Z2P {E:XW}{o:O}(ok:MsOk X.K ms)(h:QK X E (fillM ρ ms) ks o)(fin:∀σ H,Wd X.K ρ ms as Hs σ H→Fin X.K E H H H D o):RK X (Wd X.K ρ ms as Hs) ks D :=
 ⟨fun σ H w=>h.u D σ H ⟨H,H,H,(w.fill ok).snap,fin σ H w⟩⟩
theorem yu (j:Nat){a:Expr}{n:Nat}{body:List Stmt}{p p2 cp:Pos}(ρs:Nat→Ro)(mss:Nat→List Mu)(ok:∀i,i≤n→MsOk X.K (mss i))(ha:QE X (fillM ρ ms) a (.dat (.int n)))(hn:(n:Int)<2 ^ 62)(h0:Wk (ρs 0) ρ)(hm0:mss 0=ms)
 (turn:∀i,i<n→∀D':Ends,D'.rt=D.rt→(∀σ H,Wd X.K (ρs (i+1)) (mss (i+1)) as Hs σ H→D'.nx σ H)→RK X (Wd X.K ((ρs i).set j (.dat (.int i))) (mss i) as Hs) [body] D')
 (h2:RK X (Wd X.K (ρs n) (mss n) as Hs) (bl::ks) D) (hm:X.mg "range" = none) (hN:X.N.Nodup) (hp:PassesOwn (model X.prog X.w) X.A X.env X.xe) (hj':∀i,i<n→((mss i).all fun m=>m.j != j)=true) (hg:Gl X "range" := by rfl) (hsA:starEach [a] X.env=[(false,eval a X.env)]:=by rfl) (hc:X.calm=true:=by rfl) (hj:X.N[j]? = some x:=by rfl) (hx:Loc X.env.scope x:=by first | exact Or.inl rfl | exact Or.inr rfl)
 (hf:X.fn x=true∨X.env.scope.names.lookup x=some .local:=by first | exact .inl rfl | exact .inr rfl | assumption) (hs:∀x,foldedSetIterable (.Call (.Name "range" p2) [a] [] cp) X.env x=pure x:=by intro _;rfl) :
 RK X (Wd X.K ρ ms as Hs) ((.For (.Name x p) (.Call (.Name "range" p2) [a] [] cp) body [] pos::bl)::ks) D:=by
 subst hm0
 refine Z22 j (fillM ρ (mss 0)) (fun i=>Wd X.K (ρs i) (mss i) as Hs) ha hn (fun σ H w=>w.fill (ok 0 (Nat.zero_le _))) (fun σ H H' w s=>(w.mono (ok 0 (Nat.zero_le _)) s).weak h0) (fun i σ H D' hr hnx hi w=>?_) h2 hm hN hp hg hsA hc hj hx hf hs
 exact RK.ws (turn i hi D' hr hnx) (w.put (hj' i hi) Zl)
theorem Z2M (i j:Nat){d1 d2:L2.D}{px py pt:Pos}{kt:Nat}(ok:MsOk X.K ms)(he:QE X (fillM ρ ms) e (.dat (.tup [d1,d2])))(h2:RK X (Wd X.K ((ρ.set i (.dat d1)).set j (.dat d2)) ms as Hs) (bl::ks) D)(hN:X.N.Nodup)(hmi:(ms.all fun m=>m.j != i)=true:=by rfl)(hmj:(ms.all fun m=>m.j != j)=true:=by rfl)
 (hi:X.N[i]? = some x:=by rfl) (hj:X.N[j]? = some y:=by rfl) (hx:Loc X.env.scope x:=by first | exact Or.inl rfl | exact Or.inr rfl) (hy:Loc X.env.scope y:=by first | exact Or.inl rfl | exact Or.inr rfl) (hc:X.calm=true:=by rfl)
 (hf:X.fn x=true∨X.env.scope.names.lookup x=some .local:=by first | exact .inl rfl | exact .inr rfl | assumption) (hf2:X.fn y=true∨X.env.scope.names.lookup y=some .local:=by first | exact .inl rfl | exact .inr rfl | assumption)
 (hn:(assignEach [.Name x px,.Name y py] X.env).length=2:=by rfl) (hst:(assignEach [.Name x px,.Name y py] X.env).findIdx? (·.1)=none:=by rfl)
 (hs:swapsWithSole [.Tuple [.Name x px,.Name y py] kt pt] e pos.line X.env=pure false:=by rfl) (hw:swappedStores [.Tuple [.Name x px,.Name y py] kt pt] e X.env=pure none:=by rfl)
 (h1:(assignEach [.Tuple [.Name x px,.Name y py] kt pt] X.env).map (·.2)=[assign (.Tuple [.Name x px,.Name y py] kt pt) X.env]:=by rfl) :
 RK X (Wd X.K ρ ms as Hs) ((.Assign [.Tuple [.Name x px,.Name y py] kt pt] e pos::bl)::ks) D :=
 JN (ps_asg he.u (pg_tup hc (pgs_cons (pg_name hN hi hx hf) (pgs_cons (pg_name hN hj hy hf2) pgs_nil)) hn hst) hs hw h1) (fun σ H w D' hr hnx=>⟨H,H,H,(w.fill ok).snap,fun v G1 H1 g1 i1=>by
  have w1:=w.mono ok g1.same
  obtain⟨a,xs,rfl,h1,h2⟩:=is_tup i1
  unfold IsL at h2
  obtain⟨x1,r1,rfl,k1,h2⟩:=h2
  unfold IsL at h2
  obtain⟨x2,r2,rfl,k2,h2⟩:=h2
  unfold IsL at h2
  subst h2
  exact⟨a,_,rfl,g1.sub.tuple h1,rfl,x1,[x2],rfl,x2,[],rfl,rfl,hnx _ _ ((w1.put hmi (Zb g1.sub k1)).put hmj (Zb g1.sub k2))⟩⟩) h2
end
theorem YD {m':Mu}:∀ {ms:List Mu} {q:Nat} {x:Mu},x∈ms.set q m'→x=m' ∨ ∃i,i≠q∧ms[i]? = some x
 | [],q,x,h=>by simp at h
 | m::ms,0,x,h=>by
  rcases List.mem_cons.mp h with z | z
  · exact .inl z
  · obtain⟨i,hi⟩:=List.getElem?_of_mem z
    exact .inr ⟨i+1,by omega,by simpa using hi⟩
 | m::ms,q+1,x,h=>by
  rcases List.mem_cons.mp h with z | z
  · exact .inr ⟨0,by omega,by rw[z];rfl⟩
  · rcases YD z with z | ⟨i,hi,e⟩
    · exact .inl z
    · exact .inr ⟨i+1,by omega,by simpa using e⟩
def KeepR (K:PySem.W.Frag)(ρ:Ro)(H:Hp)(a:Addr):Prop:=∀σ o,Al K H ρ σ→Al K (upd H a o) ρ σ
theorem jN {K:PySem.W.Frag}{ρ:Ro}{H:Hp}{a:Addr}{kvs:List (Key × V)}(h:H a=some (.dK kvs))(n:nkR ρ):KeepR K ρ H a:=fun σ o al=>al.nk h n
theorem Z0L {K:PySem.W.Frag}{ρ:Ro}{H:Hp}{a:Addr}(h:wrt H a)(n:flatR ρ):KeepR K ρ H a:=fun σ o al=>al.fl h.tups n
theorem Wd.write {K:PySem.W.Frag}{ρ:Ro}{ms:List Mu}{as:List Addr}{Hs H H1:Hp}{σ:St}{q:Nat}{m m':Mu}{a:Addr}{o:HO}(ok:MsOk K ms)(dis:Dis ms)(hq:ms[q]? = some m)(ha:m.a=some a)(h1:m'.j=m.j)(h2:m'.v=m.v)(hw:a∈as∨Hs a=none)
 (w:Wd K ρ ms as Hs σ H) (s:Same H H1) (hwr:wrt H1 a) (kp:KeepR K ρ H1 a) (hf:m'.F (upd H1 a o)):Wd K ρ (ms.set q m') as Hs σ (upd H1 a o):=by
 have w1:=w.mono ok s
 have hm:=List.mem_of_getElem? hq
 refine⟨kp σ o w1.al,fun x hx=>?_,w1.fr.write hw⟩
 rcases YD hx with z | ⟨i,hi,e⟩
 · subst z
   rw[h1,h2]
   exact⟨(w1.at_ m hm).1,hf⟩
 · have hx':=List.mem_of_getElem? e
   exact⟨(w1.at_ x hx').1,(ok x hx').other H1 a o (w1.at_ x hx').2 ((dis.at hq e (Ne.symm hi)).1 a ha) hwr⟩
theorem Dis.set {m':Mu}:∀ {ms:List Mu} {q:Nat} {m:Mu},Dis ms→ms[q]? = some m→m'.a=m.a→m'.sup=m.sup→Dis (ms.set q m')
 | [],q,m,_,e,_,_=>by simp at e
 | x::ms,0,m,d,e,h1,h2=>by
  have:x=m:=by simpa using e
  subst this
  have d':=List.pairwise_cons.mp d
  refine List.pairwise_cons.mpr ⟨fun n hn=>?_,d'.2⟩
  have:=d'.1 n hn
  exact⟨by rw[h1];exact this.1,by rw[h2];exact this.2⟩
 | x::ms,q+1,m,d,e,h1,h2=>by
  have d':=List.pairwise_cons.mp d
  refine List.pairwise_cons.mpr ⟨fun n hn=>?_,Dis.set d'.2 (by simpa using e) h1 h2⟩
  rcases YD hn with z | ⟨i,_,hi⟩
  · subst z
    have:=d'.1 m (List.mem_of_getElem? (by simpa using e))
    exact⟨by rw[h2];exact this.1,by rw[h1];exact this.2⟩
  · exact d'.1 n (List.mem_of_getElem? hi)
theorem Dis.new {K:PySem.W.Frag}{ρ:Ro}{ms:List Mu}{as:List Addr}{Hs H:Hp}{σ:St}{m:Mu}(ok:MsOk K ms)(w:Wd K ρ ms as Hs σ H)(hn:∀b,m.sup b→H b=none)(ho:∀b,m.a=some b→m.sup b):∀x∈ms,Dis2 m x:=fun x hx =>
 ⟨fun b e z=>(ok x hx).live H b (w.at_ x hx).2 z (hn b (ho b e)),fun b e z=>(ok x hx).live H b (w.at_ x hx).2 ((ok x hx).own b e) (hn b z)⟩
abbrev Kv:=List (Int × Int)
def kvV (kvs:Kv):List (Key × V):=kvs.map fun q=>(.inl q.1,.int q.2)
def kvD (kvs:Kv):D:=.dct (kvs.map fun q=>(.inl q.1:Key)) (kvs.map fun q=>D.int q.2)
def muD (j:Nat)(a:Addr)(kvs:Kv):Mu:=⟨j,.ref a,some a,kvD kvs,fun H=>H a=some (.dK (kvV kvs)),fun b=>b=a⟩
theorem Z0K {K:PySem.W.Frag}{G:Hp}:∀kvs:Kv,L2.IsL K G (kvs.map fun q=>D.int q.2) ((kvV kvs).map (·.2))
 | []=>by show L2.IsL K G [] [];unfold L2.IsL;rfl
 | q::l=>by
  show L2.IsL K G (.int q.2::l.map fun q=>D.int q.2) (.int q.2::(kvV l).map (·.2))
  unfold L2.IsL
  exact⟨_,_,rfl,Zl,Z0K l⟩
theorem Z3I {K:PySem.W.Frag}{H:Hp}{a:Addr}{kvs:Kv}(h:H a=some (.dK (kvV kvs))):Is K H (kvD kvs) (.ref a):=by
 unfold kvD Is
 exact⟨a,kvV kvs,rfl,h,by unfold kvV;rw[List.map_map];rfl,Z0K kvs⟩
theorem zm {K:PySem.W.Frag}{j:Nat}{a:Addr}{kvs:Kv}:MuOk K (muD j a kvs) :=
 ⟨fun H h=>Z3I h,fun H H' h s=>s _ _ h,fun H H' ws h s hb=>s _ _ (fun z=>(hb a z).1 rfl) h,fun H b h e=>by
  have e':b=a:=e
  rw[e',show H a=_ from h];exact(fun z=>nomatch z),fun b e=>by
  have:some a=some b:=e
  exact(Option.some.inj this).symm⟩
def muA (j:Nat)(v:V)(d:D)(Ha:Hp):Mu:=⟨j,v,none,d,fun H=>Same Ha H,fun b=>Ha b≠none⟩
theorem yT {K:PySem.W.Frag}{j:Nat}{v:V}{d:D}{Ha:Hp}(i:Is K Ha d v):MuOk K (muA j v d Ha) :=
 ⟨fun H h=>Zb h i,fun H H' h s=>h.trans s,fun H H' ws h s hb=>fun c u e=>s c u (fun z=>(hb c z).1 (by show Ha c≠none;rw[e];exact(fun w=>nomatch w))) (h c u e),fun H b h e=>Same.live h e,fun b e=>nomatch e⟩
def muL (K:PySem.W.Frag)(j:Nat)(a:Addr)(ds:List D):Mu:=⟨j,.ref a,some a,.lst ds,fun H=>∃xs,H a=some (.lst xs)∧IsL K H ds xs,fun b=>b=a⟩
theorem Z3j {K:PySem.W.Frag}{j:Nat}{a:Addr}{ds:List D}(fl:flatDs ds=true):MuOk K (muL K j a ds) :=
 ⟨fun H ⟨xs,h1,h2⟩=>Is.ofLst (SqL.of h1) h2,fun H H' ⟨xs,h1,h2⟩ s=>⟨xs,s _ _ h1,Zk s h2⟩,fun H H' ws ⟨xs,h1,h2⟩ s hb=>⟨xs,s _ _ (fun z=>(hb a z).1 rfl) h1,IsL.flat (s.tups fun b hz=>(hb b hz).2) fl h2⟩,fun H b ⟨xs,h1,h2⟩ e=>by
  have e':b=a:=e
  rw[e',h1];exact(fun z=>nomatch z),fun b e=>by
  have:some a=some b:=e
  exact(Option.some.inj this).symm⟩
section
variable {X:Cx}{ρ ρ':Ro}{ms:List Mu}{as:List Addr}{Hs:Hp}{r:R}{e e1 e2:Expr}{es:List Expr}{bl:List Stmt}{ks:List (List Stmt)}{De:Ends}{pos p p2 pos':Pos}{x y f:Str}{C:Addr}{d:D}{ds:List D}{k:Nat}{ps:List Str}
theorem Z0c (q:Nat){j:Nat}{a:Addr}{kvs:Kv}{kk vv:Int}(hq:ms[q]? = some (muD j a kvs))(ok:MsOk X.K ms)(dis:Dis ms)(nk:nkR ρ)(hw:a∈as∨Hs a=none)(hl:kvs.length<sizeLine)(hnew:∀z∈kvs,z.1≠kk)(hu:X.A.units+1<cLine)
 (hk:QE X (fillM ρ ms) e1 (.dat (.int kk))) (he:QE X (fillM ρ ms) e2 (.dat (.int vv))) (h2:RK X (Wd X.K ρ (ms.set q (muD j a (kvs++[(kk,vv)]))) as Hs) (bl::ks) De)
 (hN:X.N[j]? = some y:=by rfl) (hv:Vis X.env.scope y:=by first | exact Or.inl rfl | exact Or.inr (Or.inl rfl) | exact Or.inr (Or.inr rfl)) (hd:(y==("__debug__" : Str))=false:=by decide) (hcd:(y==("__classdict__" : Str))=false:=by decide)
 (hs:swapsWith e2 (some (.Subscript (.Name y p) e1 pos')) pos.line X.env=pure false:=by rfl):RK X (Wd X.K ρ ms as Hs) ((.Assign [.Subscript (.Name y p) e1 pos'] e2 pos::bl)::ks) De :=
 JN (ps_dput hu (pe_var hN hv hd hcd) hk.u he.u hs) (fun σ H w D' hr hnx=>by
  have hm:=List.mem_of_getElem? hq
  refine⟨H,H,H,(w.fill ok).snap,fun v G1 H1 g1 i1=>?_⟩
  have w1:=w.mono ok g1.same
  rw[Z8 i1]
  refine⟨_,(w1.at_ _ hm).1,H1,H1,H1,(w1.fill ok).snap,fun z G2 H2 g2 i2=>?_⟩
  have w2:=w1.mono ok g2.same
  rw[Z8 i2]
  have hF:H2 a=some (.dK (kvV kvs)):=(w2.at_ _ hm).2
  refine⟨a,_,rfl,DPut.k (k:=.inl kk) hF (by unfold kvV;rw[List.length_map];exact hl),hnx _ _ ?_⟩
  have e:putK (kvV kvs) (.inl kk) (.int vv)=kvV (kvs++[(kk,vv)]):=by
   have e0:((kvV kvs).any fun kv=>decide (kv.1=(.inl kk:Key)))=false:=by
    rw[List.any_eq_false]
    intro z hz
    obtain⟨u,hu',rfl⟩:=List.mem_map.mp hz
    have:(Sum.inl u.1:Key) ≠ .inl kk:=fun w=>hnew u hu' (Sum.inl.inj w)
    simpa using this
   have e1:putK (kvV kvs) (.inl kk) (.int vv)=kvV kvs++[(.inl kk,.int vv)]:=by simp[putK,e0]
   rw[e1];unfold kvV;rw[List.map_append];rfl
  rw[e]
  exact w2.write (m':=muD j a (kvs++[(kk,vv)])) ok dis hq rfl rfl rfl hw (Same.refl _) (.inl ⟨_,hF⟩) (jN hF nk) upd_same) h2
theorem Z2O (i:Nat){pd:Pos}(ok:MsOk X.K ms)
 (dis:Dis ms) (h2:∀a,(a∈as∨Hs a=none)→Dis (muD i a []::ms)→RK X (Wd X.K (ρ.set i .un) (muD i a []::ms) as Hs) (bl::ks) De) (hN:X.N.Nodup) (hln:X.N.length=ρ.length) (hm:(ms.all fun m=>m.j != i)=true:=by rfl)
 (hi:X.N[i]? = some x:=by rfl) (hx:Loc X.env.scope x:=by first | exact Or.inl rfl | exact Or.inr rfl) (hs:swapsWith (.Dict [] [] pd) (some (.Name x p)) pos.line X.env=pure false:=by rfl)
 (hf:X.fn x=true∨X.env.scope.names.lookup x=some .local:=by first | exact .inl rfl | exact .inr rfl | assumption):RK X (Wd X.K ρ ms as Hs) ((.Assign [.Name x p] (.Dict [] [] pd) pos::bl)::ks) De :=
 Z0m i (P':=fun σ H=>∃a,((a∈as∨Hs a=none)∧Dis (muD i a []::ms))∧Wd X.K (ρ.set i .un) (muD i a []::ms) as Hs σ H) (fillM ρ ms) zX (fun σ H w=>w.fill ok) (fun σ H v H' w s ⟨a,o,ev,_,h1,h3,hd⟩=>by
  subst ev
  obtain⟨es,rfl,en⟩:=hd
  cases en
  have w1:=w.mono ok s
  refine⟨a,⟨?_,List.pairwise_cons.mpr ⟨Dis.new ok w (fun b e=>(show b=a from e)▸h1) (zm (K:=X.K)).own,dis⟩⟩,w1.al.putU,fun m hm'=>?_,w1.fr⟩
  · by_cases z:a∈as
    · exact .inl z
    · right
      cases q:Hs a with
      | none=>rfl
      | some u=>rw[w.fr a u z q] at h1;cases h1
  · rcases List.mem_cons.mp hm' with z | z
    · subst z
      refine⟨List.getElem?_set_self ?_,h3⟩
      rw[w.al.len,←hln]
      exact(List.getElem?_eq_some_iff.mp hi).1
    · exact zt hm w1.at_ m z) (jZ fun a q=>h2 a q.1 q.2) hN hi hx hs hf
theorem Z3K (i:Nat){fp cp:Pos}{pre:List V→Hp→(Hp→Prop)→Prop}(Q:Mu→Prop)(ok:MsOk X.K ms)(c:IniR X.prog X.w X.K X.mg X.base k C ps pre)(hmg:X.mg f=some (.ref C))(hr:Room (k+1) X.A)(ha:QA X (fillM ρ ms) (e::es) ds)
 (step:∀vs H1 a dx,IsL X.K H1 ds vs→H1 a=none→H1 dx=none→dx≠a→∃R,pre (.ref a::vs) (upd (upd H1 dx (.own a)) a (.ins C dx [])) R∧∀H',R H'→Same H1 H'∧∃m:Mu,m.j=i∧m.v=.ref a∧(∀b,m.sup b→H1 b=none)∧(∀b,m.a=some b→m.sup b)∧Q m∧m.F H')
 (dis:Dis ms) (h2:∀m:Mu,Q m→(∀b,m.a=some b→b∈as∨Hs b=none)→Dis (m::ms)→RK X (Wd X.K (ρ.set i .un) (m::ms) as Hs) (bl::ks) De) (hN:X.N.Nodup) (hln:X.N.length=ρ.length) (hm:(ms.all fun m=>m.j != i)=true:=by rfl)
 (hi:X.N[i]? = some x:=by rfl) (hx:Loc X.env.scope x:=by first | exact Or.inl rfl | exact Or.inr rfl)
 (hs:swapsWith (.Call (.Name f fp) (e::es) [] cp) (some (.Name x p)) pos.line X.env=pure false:=by rfl) (hf:X.fn x=true∨X.env.scope.names.lookup x=some .local:=by first | exact .inl rfl | exact .inr rfl | assumption)
 (hg:Gl X f:=by rfl) (hdb:(f==("__debug__" : Str))=false:=by decide) (he:starEach (e::es) X.env=(false,eval e X.env)::starEach es X.env:=by rfl) (hpl:(backTo cp (starEach es X.env)).any (·.1)=false:=by rfl) :
 RK X (Wd X.K ρ ms as Hs) ((.Assign [.Name x p] (.Call (.Name f fp) (e::es) [] cp) pos::bl)::ks) De :=
 Z17 i (P':=fun σ H=>∃m:Mu,(Q m∧(∀b,m.a=some b→b∈as∨Hs b=none)∧Dis (m::ms))∧Wd X.K (ρ.set i .un) (m::ms) as Hs σ H) (fillM ρ ms) c hmg hr ha (fun σ H w=>w.fill ok) (fun σ H vs H1 a dx w s il h1 h3 ne=>by
  have w1:=w.mono ok s
  obtain⟨R,hp,q⟩:=step vs H1 a dx il h1 h3 ne
  refine⟨R,hp,fun H' hR=>?_⟩
  obtain⟨s2,m,mj,mv,mn,mo,mq,mf⟩:=q H' hR
  have w2:=w1.mono ok s2
  refine⟨m,⟨mq,fun b e=>?_,List.pairwise_cons.mpr ⟨Dis.new ok w1 mn mo,dis⟩⟩,w2.al.putU,fun x hx'=>?_,w2.fr⟩
  · by_cases z:b∈as
    · exact .inl z
    · right
      cases q':Hs b with
      | none=>rfl
      | some u=>have:=mn b (mo b e);rw[w1.fr b u z q'] at this;cases this
  · rcases List.mem_cons.mp hx' with z | z
    · subst z
      rw[mj,mv]
      refine⟨List.getElem?_set_self ?_,mf⟩
      rw[w.al.len,←hln]
      exact(List.getElem?_eq_some_iff.mp hi).1
    · exact zt hm w2.at_ x z) (jZ fun m q=>h2 m q.1 q.2.1 q.2.2) hN hi hx hs hf hg hdb he hpl
theorem zv (q:Nat){mn:Str}{ap cp:Pos}{pl:Sem Bool}{pre:List V→Hp→(V→Hp→Prop)→Prop}{m m':Mu}{wa:Addr}(hq:ms[q]? = some m)(hwa:m.a=some wa)(hj:m'.j=m.j)(hv':m'.v=m.v)(ok:MsOk X.K ms)(dis:Dis ms)(nk:nkR ρ)(hw:wa∈as∨Hs wa=none)
 (c:MtR X.prog X.w X.K X.mg X.base k C mn ps pre) (cl:Cls X.K C) (hr:Room k X.A) (ha:QA X (fillM ρ ms) (e::es) ds) (hat:∀H,m.F H→∃a dx fs,m.v=.ref a∧H a=some (.ins C dx fs)∧fs.lookup mn=none)
 (step:∀H vs,m.F H→IsL X.K H ds vs→∃R,pre (m.v::vs) H R∧∀v H',R v H'→∃H1 o kvs,Same H H1∧H1 wa=some (.dK kvs)∧H'=upd H1 wa o∧m'.F H') (h2:RK X (Wd X.K ρ (ms.set q m') as Hs) (bl::ks) De)
 (hN:X.N[m.j]? = some y:=by rfl) (hv:Vis X.env.scope y:=by first | exact Or.inl rfl | exact Or.inr (Or.inl rfl) | exact Or.inr (Or.inr rfl)) (hd:(y==("__debug__" : Str))=false:=by decide) (hcd:(y==("__classdict__" : Str))=false:=by decide)
 (hst:starEach (e::es) X.env=(false,eval e X.env)::starEach es X.env:=by rfl) (hpl:(backTo cp (starEach es X.env)).any (·.1)=false:=by rfl)
 (ht:eval (.Call (.Attribute (.Name y p) mn ap) (e::es) [] cp) X.env=(do
  let ov ←eval (.Name y p) X.env
  standAt ap.atName
  let (f,first) ←holding [ov] (getMethod ov mn pl)
  callWith cp f first (backTo cp (starEach (e::es) X.env)) (backToKw cp (keywordEach [] X.env))):=by rfl)
 (hsw:swapsWith (.Call (.Attribute (.Name y p) mn ap) (e::es) [] cp) none pos.line X.env=pure false:=by rfl) :
 RK X (Wd X.K ρ ms as Hs) ((.Expr (.Call (.Attribute (.Name y p) mn ap) (e::es) [] cp) pos::bl)::ks) De :=
 Z18 m.j (fillM ρ ms) c cl hr ha (fun σ H w=>w.fill ok) (fun σ H w=>by
  have hm:=List.mem_of_getElem? hq
  obtain⟨a,dx,fs,ev,hi,hl⟩:=hat H (w.at_ m hm).2
  refine⟨a,dx,fs,by rw[(w.at_ m hm).1,ev],hi,hl,fun vs H1 s il=>?_⟩
  have w1:=w.mono ok s
  obtain⟨R,hp,z⟩:=step H1 vs (w1.at_ m hm).2 il
  rw[ev] at hp
  refine⟨R,hp,fun v H' hR=>?_⟩
  obtain⟨H2,o,kvs,s2,hk,rfl,hf⟩:=z v H' hR
  exact w1.write ok dis hq hwa hj hv' hw s2 (.inl ⟨_,hk⟩) (jN hk nk) hf) h2 hN hv hd hcd hst hpl ht hsw
end
abbrev FnR (P:Program)(w:World)(K:PySem.W.Frag)(mg:Str→Option Value)(base:Heap)(k:Nat)(x:Str)(ps:List Str)(pre:List V→Hp→(V→Hp→Prop)→Prop):Prop:=Callee P w K mg base CX0 k x ps (mrsp pre)
theorem Z0T {P:Program}{w:World}{K:PySem.W.Frag}{mg:Str→Option Value}{base:Heap}{x:Str}{st:Stmt}{N ps:List Str}{k:Nat}{pre:List V→Hp→(V→Hp→Prop)→Prop}(d:Def K mg x st)(S:FnScope N ps (defScope st))
 (hb:∀(kV doc pm:Value) (an:Option Addr) (cdv ct:Value) (us:List Value),us.length=ps.length→bindArgs (PySem.W.fnOf x x (defArgs st) (defBody st) (defScope st) .none kV doc pm an cdv ct) ⟨us,[]⟩=pure (ps.zip us))
 (len:∀vs H R,pre vs H R→vs.length=ps.length)
 (hbody:∀(X:Cx) (f:Addr) (cdv:Value) (A:Around) (outer:List Env) (s:Shared) (H:Hp) (E:XK),X=(cxOf CX0 P w K mg base N x (defScope st) f cdv A outer s H E).nox→Room k X.A→∀vs R,pre vs H R→∀D:Ends,(∀σ H',R .non H'→D.nx σ H')→(∀v H',R v H'→D.rt v H')→RK X (fun σ H1=>σ=start N vs∧H1=H) [defBody st] D) :
 FnR P w K mg base (k+1) x ps pre:=by
 refine d.callee S hb (fun vs H Q E h=>?_) fun f cdv A outer s H vs Q E hr h=>?_
 · obtain⟨R,hp,_⟩:=h
   exact len vs H R hp
 · obtain⟨R,hp,q⟩:=h
   exact⟨_,Z9,(hbody _ f cdv A outer s H E rfl hr vs R hp { nx:=fun _ H'=>Q .non H',rt:=Q } (fun _ H' z=>q _ H' z) q).ws ⟨rfl,rfl⟩⟩
structure WA (X:Cx)(ρ:Ro)(ms:List Mu)(as:List Addr)(Hs:Hp)(es:List Expr)(A:List V→Hp→Prop):Prop where
 ex:∃ta,PA X es ta∧∀σ H,Wd X.K ρ ms as Hs σ H→∀Q:List V→Hp→Prop,(∀vs H',Same H H'→A vs H'→Q vs H')→ta σ H Q
section
variable {X:Cx}{ρ:Ro}{ms:List Mu}{as:List Addr}{Hs:Hp}{e:Expr}{es:List Expr}{A:List V→Hp→Prop}{d:D}{r:R}{p pos:Pos}{y x f:Str}{k:Nat}{ps:List Str}{bl:List Stmt}{ks:List (List Stmt)}{De:Ends}
theorem Z0a:WA X ρ ms as Hs [] (fun vs _=>vs=[]):=⟨tNil,pa_nil,fun σ H w Q q=>q [] H (Same.refl H) rfl⟩
theorem JY (ok:MsOk X.K ms)(h:QE X (fillM ρ ms) e (.dat d))(t:WA X ρ ms as Hs es A)(hs:starEach (e::es) X.env=(false,eval e X.env)::starEach es X.env:=by rfl):WA X ρ ms as Hs (e::es) (fun vs H=>∃v r,vs=v::r∧Is X.K H d v∧A r H):=by
 obtain⟨ta,ha,q⟩:=t.ex
 refine⟨_,pa_cons h.u ha hs,fun σ H w Q z=>⟨H,H,H,(w.fill ok).snap,fun v G1 H1 g1 i1=>?_⟩⟩
 refine q σ H1 (w.mono ok g1.same) _ fun vs H2 s2 a2=>z _ _ (g1.same.trans s2) ⟨v,vs,rfl,Zb (g1.sub.trans s2) i1,a2⟩
theorem JX (q:Nat){m:Mu}(hq:ms[q]? = some m)(t:WA X ρ ms as Hs es A)(hN:X.N[m.j]? = some y:=by rfl)(hv:Vis X.env.scope y:=by first | exact Or.inl rfl | exact Or.inr (Or.inl rfl) | exact Or.inr (Or.inr rfl))(hd:(y==("__debug__" : Str))=false:=by decide)(hcd:(y==("__classdict__" : Str))=false:=by decide)
 (hs:starEach (.Name y p::es) X.env=(false,eval (.Name y p) X.env)::starEach es X.env:=by rfl):WA X ρ ms as Hs (.Name y p::es) (fun vs H=>∃r,vs=m.v::r∧A r H):=by
 obtain⟨ta,ha,z⟩:=t.ex
 refine⟨_,pa_cons (pe_var hN hv hd hcd) ha hs,fun σ H w Q g=>⟨_,(w.at_ m (List.mem_of_getElem? hq)).1,?_⟩⟩
 exact z σ H w _ fun vs H2 s2 a2=>g _ _ s2 ⟨vs,rfl,a2⟩
theorem Z0d {pre:List V→Hp→(V→Hp→Prop)→Prop}{P':V→St→Hp→Prop}{fp:Pos}(c:FnR X.prog X.w X.K X.mg X.base k f ps pre)(hr:Room k X.A)(ok:MsOk X.K ms)(ha:WA X ρ ms as Hs (e::es) A)
 (step:∀σ H vs,Wd X.K ρ ms as Hs σ H→A vs H→∃R,pre vs H R∧∀v H',R v H'→P' v σ H')
 (hg:Gl X f:=by rfl) (hdb:(f==("__debug__" : Str))=false:=by decide) (he:starEach (e::es) X.env=(false,eval e X.env)::starEach es X.env:=by rfl) (hpl:(backTo pos (starEach es X.env)).any (·.1)=false:=by rfl) :
 ∃te,PE X (.Call (.Name f fp) (e::es) [] pos) te∧∀σ H,Wd X.K ρ ms as Hs σ H→∀Q:VK,(∀v H',P' v σ H'→Q v H')→te σ H Q:=by
 obtain⟨ta,hpa,z⟩:=ha.ex
 refine⟨_,Z1M c hr hpa hg hdb he hpl,fun σ H w Q q=>z σ H w _ fun vs H1 s1 a1=>?_⟩
 obtain⟨R,hp,g⟩:=step σ H1 vs (w.mono ok s1) a1
 rw[List.append_nil]
 exact⟨R,hp,fun v H' hR=>q v H' (g v H' hR)⟩
theorem Z3C {pre:List V→Hp→(V→Hp→Prop)→Prop}{P':St→Hp→Prop}{fp:Pos}(c:FnR X.prog X.w X.K X.mg X.base k f ps pre)(hr:Room k X.A)(ok:MsOk X.K ms)(ha:WA X ρ ms as Hs (e::es) A)
 (step:∀σ H vs,Wd X.K ρ ms as Hs σ H→A vs H→∃R,pre vs H R∧∀v H',R v H'→P' σ H') (h2:RK X P' (bl::ks) De)
 (hg:Gl X f:=by rfl) (hdb:(f==("__debug__" : Str))=false:=by decide) (he:starEach (e::es) X.env=(false,eval e X.env)::starEach es X.env:=by rfl) (hpl:(backTo pos (starEach es X.env)).any (·.1)=false:=by rfl)
 (hs:swapsWith (.Call (.Name f fp) (e::es) [] pos) none p.line X.env=pure false:=by rfl):RK X (Wd X.K ρ ms as Hs) ((.Expr (.Call (.Name f fp) (e::es) [] pos) p::bl)::ks) De:=by
 obtain⟨te,hte,q⟩:=Z0d (P':=fun _=>P') (fp:=fp) c hr ok ha step hg hdb he hpl
 exact JN (ps_expr hte hs) (fun σ H w D' hr hnx=>q σ H w _ fun v H' z=>hnx σ H' z) h2
end
section
variable {X:Cx}{pins:List (Addr × Obj)}{σ:St}{H:Hp}{s:Shared}
def rInTD (K:PySem.W.Frag)(neg:Bool):R2:=fun x y H Q=>∃dx p xs ds,y=.ref p∧SqT K H p xs∧IsL K H ds xs∧Is K H dx x∧dep dx<1000∧depL ds≤30∧Q (.bl (if neg then !inD dx ds else inD dx ds)) H
theorem Z2n (hu:X.A.units+64<cLine):OpR X (compareOp .In) (rInTD X.K false):=by
 intro pins s σ H x y v u Q I rx ry h
 obtain⟨dx,p,xs,ds,rfl,hq,il,ix,hx,hl,q⟩:=h
 cases ry
 obtain⟨its,r,pl,hz⟩:=I.tuple hq
 obtain⟨h1,h2⟩:=eqW_all I rx ix hx X.A.in1 (by show X.A.units+1+31<cLine;omega) hl il r
 refine SeqAt.in_tupleAt (eqW X.K H dx) (show s.heap.IsTuple p its.toArray from pl) (fun w hw=>h2 w (by simpa using hw)) ⟨.bl _,H,I,rfl,?_⟩
 rw[show its.toArray.any (eqW X.K H dx)=its.any (eqW X.K H dx) by simp,h1]
 exact q
end
section
variable {K:PySem.W.Frag}{da:D}{ds:List D}
theorem Z2p (hx:dep da<1000)(hl:dep (.tup ds)≤30)(neg:Bool):OpD K (rInTD K neg) da (.tup ds) (.dat (.bl (if neg then !inD da ds else inD da ds))):=fun G H x y Q s g1 g2 q=>by
 obtain⟨a,xs,rfl,k1,k2⟩:=is_tup g2
 unfold dep at hl
 exact⟨da,a,xs,ds,rfl,s.tuple k1,Zk s k2,Zb s g1,hx,by omega,q _ G H (Grow.refl s) ZF⟩
end
section
variable {X:Cx}{ρ:Ro}{a b c e:Expr}{pos:Pos}
theorem Z27 {da:D}{ds:List D}(hu:X.A.units+64<cLine)(ha:QE X ρ a (.dat da))(hb:QE X ρ b (.dat (.tup ds)))(hx:dep da<1000)(hl:dep (.tup ds)≤30)(hm:behindInMarks .In b=false:=by rfl):QT X ρ (.Compare a [.In] [b] pos) (inD da ds) :=
 Zi (Z2n hu) (Z2p hx hl false) ha hb hm
end
def datS:Slot→Bool
 | .un=>true
 | .dat _=>true
 | _=>false
theorem yi {K:PySem.W.Frag}{H:Hp}:∀ {ρ:Ro} {σ:St},ρ.all datS=true→σ.length=ρ.length→(∀(i:Nat) d,ρ[i]? = some (.dat d)→∃v,σ[i]? = some (some v)∧Is K H d v)→Al K H ρ σ
 | [],[],_,_,_=>trivial
 | s::ρ,v::σ,h,hl,q=>by
  rw[List.all_cons,Bool.and_eq_true] at h
  refine⟨?_,yi h.2 (by simpa using hl) fun i d e=>by simpa using q (i+1) d (by simpa using e)⟩
  cases s with
  | un=>trivial
  | dat d =>
   obtain⟨u,e,i⟩:=q 0 d rfl
   exact⟨u,by simpa using e,i⟩
  | own ds=>cases h.1
  | dk kvs=>cases h.1
  | dt kvs=>cases h.1
theorem Z09 {K:PySem.W.Frag}{G0 H0 G H:Hp}{ρ:Ro}{σ:St}(h:ρ.all datS=true)(c:Conf K G0 H0 ρ G σ H):Al K H ρ σ :=
 yi h c.len fun i d e=>by
  obtain⟨v,h1,h2⟩:=c.dat i d e
  exact⟨v,h1,Zb c.sub h2⟩
theorem Bs.end_ {G0 H0 G Hs H':Hp}{K:PySem.W.Frag}{D:Ends}{E:XW}{b:Bool}(bs:Bs G0 H0 G Hs)(f:Fin K E G0 H0 G D (.rt (.dat (.bl b))))(s:SameX [] Hs H'):D.rt (.bl b) H':=(bs.mono s.nil).tells f
theorem Z1X {X:Cx}{ρ:Ro}{ms:List Mu}{G0 H0 G Hs:Hp}{ks:List (List Stmt)}{De:Ends}{E E2:XW}{b:Bool}(ok:MsOk X.K ms)(bs:Bs G0 H0 G Hs)(f:Fin X.K E2 G0 H0 G De (.rt (.dat (.bl b))))(h:QK X E (fillM ρ ms) ks (.rt (.dat (.bl b)))):RK X (Wd X.K ρ ms [] Hs) ks De :=
 Z2P ok h fun σ H w v G' H' s g o=>by
  rw[Y9 o]
  exact bs.end_ f (w.fr.up g.same)
section
variable {X:Cx}{ρ ρ':Ro}{ms ms':List Mu}{as:List Addr}{Hs:Hp}{r:R}{e e1 e2:Expr}{es:List Expr}{bl:List Stmt}{ks:List (List Stmt)}{De:Ends}{pos p p2 pos':Pos}{x y f:Str}{C:Addr}{d:D}{ds:List D}{k:Nat}{ps:List Str}
theorem Z2C {K:PySem.W.Frag}{H:Hp}{σ:St}{a:Addr}(w:Wd K ρ ms as Hs σ H)(h:H a=none):a∈as∨Hs a=none:=by
 by_cases z:a∈as
 · exact .inl z
 · right
   cases q':Hs a with
   | none=>rfl
   | some u=>rw[w.fr a u z q'] at h;cases h
theorem Z2N (q l:Nat){j:Nat}{a:Addr}{ns:List Int}{i:Int}{ap cp:Pos}(hq:ms[q]? = some (muL X.K j a (ns.map D.int)))(ok:MsOk X.K ms)(dis:Dis ms)(fl:flatR ρ)(hw:a∈as∨Hs a=none)(he:QE X (fillM ρ ms) e (.dat (.int i)))(h0:0≤i)(hi:i<ns.length)(hi2:i<2 ^ 62)
 (h2:RK X (Wd X.K (ρ.set l (.dat (.int (ns.getD i.toNat 0)))) (ms.set q (muL X.K j a ((ns.eraseIdx i.toNat).map D.int))) as Hs) (bl::ks) De) (hnd:X.N.Nodup)
 (hml:((ms.set q (muL X.K j a ((ns.eraseIdx i.toNat).map D.int))).all fun m=>m.j != l)=true:=by rfl) (hN:X.N[j]? = some y:=by rfl) (hv:Vis X.env.scope y:=by first | exact Or.inl rfl | exact Or.inr (Or.inl rfl) | exact Or.inr (Or.inr rfl)) (hd:(y==("__debug__" : Str))=false:=by decide) (hcd:(y==("__classdict__" : Str))=false:=by decide)
 (hbase:attributeBase (.Name y p) "pop" X.env (eval (.Name y p) X.env)=eval (.Name y p) X.env:=by rfl)
 (hfew:((backTo cp (starEach [e] X.env)).all (fun x=>!x.1)&&(backToKw cp (keywordEach [] X.env)).all (fun x=>x.1.isSome)
  && decide ([e].length+([]:List Keyword).length+(if ([]:List Keyword).isEmpty then 0 else 1)<30))=true:=by rfl)
 (hline:(ap.endLine==cp.line)=true:=by rfl) (hs:starEach [e] X.env=[(false,eval e X.env)]:=by rfl)
 (hl:X.N[l]? = some x:=by rfl) (hx:Loc X.env.scope x:=by first | exact Or.inl rfl | exact Or.inr rfl) (hsw:swapsWith (.Call (.Attribute (.Name y p) "pop" ap) [e] [] cp) (some (.Name x p2)) pos.line X.env=pure false:=by rfl)
 (hf:X.fn x=true∨X.env.scope.names.lookup x=some .local:=by first | exact .inl rfl | exact .inr rfl | assumption) :
 RK X (Wd X.K ρ ms as Hs) ((.Assign [.Name x p2] (.Call (.Attribute (.Name y p) "pop" ap) [e] [] cp) pos::bl)::ks) De :=
 JN (ps_set hnd hl hx (pe_bm PySem.F.plainAttrs_list PySem.F.slot_list_pop PySem.F.type_list_pop mt_popAt (pe_var hN hv hd hcd) (pa_cons he.u pa_nil hs) hbase hfew hline hs rfl) hsw hf) (fun σ H w D' hr hnx=>by
  have hm:=List.mem_of_getElem? hq
  have hk:i.toNat<ns.length:=by omega
  obtain⟨e1,xs,h1,h3⟩:=w.at_ _ hm
  refine⟨_,e1,.inl ⟨rfl,xs,SqL.of h1⟩,H,H,H,(w.fill ok).snap,fun v G1 H1 g1 i1=>?_⟩
  have w1:=w.mono ok g1.same
  obtain⟨_,ys,h4,h5⟩:=w1.at_ _ hm
  have ey:=ja h5
  subst ey
  have wr:wrt H1 a:=.inr ⟨_,h4⟩
  refine⟨a,ns.map V.int,i,i.toNat,.int (ns.getD i.toNat 0),rfl,by rw[Z8 i1],h4,by omega,by omega,?_,?_,hnx _ _ ?_⟩
  · exact PySem.StrLaws.seqIndex_nonneg h0 (by rw[List.length_map];exact hi)
  · rw[List.getElem?_map,List.getElem?_eq_getElem hk]
    simp[List.getD,List.getElem?_eq_getElem hk]
  · refine Wd.put (w1.write (m':=muL X.K j a ((ns.eraseIdx i.toNat).map D.int)) ok dis hq rfl rfl rfl hw (Same.refl _) wr (Z0L wr fl) ⟨_,upd_same,?_⟩) hml Zl
    rw[yd]
    exact IsL.ints _) h2
end
theorem zS {X:Cx}{N:List Str}{vs:List V}{H:Hp}{ρ:Ro}{ms:List Mu}{as:List Addr}{ks:List (List Stmt)}{De:Ends}(al:Al X.K H ρ (start N vs))(hm:∀m∈ms,(start N vs)[m.j]? = some (some m.v)∧m.F H)
 (h2:RK X (Wd X.K ρ ms as H) ks De):RK X (fun σ H1=>σ=start N vs∧H1=H) ks De :=
 yC h2 fun σ H1 ⟨e1,e2⟩=>by
  subst e1 e2
  exact⟨al,hm,SameX.refl _ _⟩
theorem Z3B {X:Cx}{ρ:Ro}{ms:List Mu}{as:List Addr}{Hs:Hp}{P':St→Hp→Prop}{c:Expr}{t u bl:List Stmt}{ks:List (List Stmt)}{De:Ends}{pos:Pos}{bv:Bool}(ok:MsOk X.K ms)(hc:QT X (fillM ρ ms) c bv)
 (h1:bv=true→∀D':Ends,D'.rt=De.rt→(∀σ H,P' σ H→D'.nx σ H)→RK X (Wd X.K ρ ms as Hs) [t] D') (h2:bv=false→∀D':Ends,D'.rt=De.rt→(∀σ H,P' σ H→D'.nx σ H)→RK X (Wd X.K ρ ms as Hs) [u] D') (h3:RK X P' (bl::ks) De) :
 RK X (Wd X.K ρ ms as Hs) ((.If c t u pos::bl)::ks) De :=
 JN (ps_if hc.u Z9 Z9) (fun σ H w D' hr hnx=>⟨H,H,H,(w.fill ok).snap,fun G' H' g=>by
  have w':=w.mono ok g.same
  cases bv with
  | true=>exact iteT (RK.ws (h1 rfl D' hr hnx) w')
  | false=>exact iteF (RK.ws (h2 rfl D' hr hnx) w')⟩) h3
theorem yQ (ns:List Int):nodD (.lst (ns.map D.int))=true:=by
 unfold nodD
 induction ns with
 | nil=>unfold nodDs;rfl
 | cons a l ih =>
  rw[List.map_cons]
  unfold nodDs
  rw[ih];unfold nodD;rfl
section
variable {K:PySem.W.Frag}{H H':Hp}{ws:List Addr}
mutual
theorem isNk (hw:∀b∈ws,∃kvs,H b=some (.dK kvs))(s:SameX ws H H'):∀ {d:D} {v:V},nkD d=true→Is K H d v→Is K H' d v
 | .non,v,_,h=>by unfold Is at h ⊢;exact h
 | .bl b,v,_,h=>by unfold Is at h ⊢;exact h
 | .int i,v,_,h=>by unfold Is at h ⊢;exact h
 | .str x,v,_,h=>by unfold Is at h ⊢;exact h
 | .tup ds,v,f,h=>by
  unfold Is at h ⊢
  unfold nkD at f
  obtain⟨a,xs,e,h1,h2⟩:=h
  exact⟨a,xs,e,s _ _ (fun z=>by obtain⟨kvs,q⟩:=hw a z;rw[q] at h1;cases h1) h1,islNk hw s f h2⟩
 | .lst ds,v,f,h=>by
  unfold Is at h ⊢
  unfold nkD at f
  obtain⟨a,xs,e,h1,h2⟩:=h
  refine⟨a,xs,e,?_,islNk hw s f h2⟩
  rcases h1 with (h1 | ⟨ob,h1⟩) | h1
  · exact .inl (.inl (s _ _ (fun z=>by obtain⟨kvs,q⟩:=hw a z;rw[q] at h1;cases h1) h1))
  · exact .inl (.inr ⟨ob,s _ _ (fun z=>by obtain⟨kvs,q⟩:=hw a z;rw[q] at h1;cases h1) h1⟩)
  · exact .inr h1
 | .exn C,v,f,h=>by unfold nkD at f;cases f
 | .obj C ns ds,v,f,h=>by unfold nkD at f;cases f
 | .dct ks ds,v,f,h=>by unfold nkD at f;cases f
 | .dtp ks ds,v,f,h=>by unfold nkD at f;cases f
 | .fn _ _,v,f,h=>by unfold nkD at f;cases f
theorem islNk (hw:∀b∈ws,∃kvs,H b=some (.dK kvs))(s:SameX ws H H'):∀ {ds:List D} {xs:List V},nkDs ds=true→L2.IsL K H ds xs→L2.IsL K H' ds xs
 | [],xs,_,h=>by unfold L2.IsL at h ⊢;exact h
 | d::ds,xs,f,h=>by
  unfold nkDs at f
  rw[Bool.and_eq_true] at f
  unfold L2.IsL at h ⊢
  obtain⟨x,r,e,h1,h2⟩:=h
  exact⟨x,r,e,isNk hw s f.1 h1,islNk hw s f.2 h2⟩
end
end
theorem Al.nkX {K:PySem.W.Frag}{H H':Hp}{ws:List Addr}(hw:∀b∈ws,∃kvs,H b=some (.dK kvs))(s:SameX ws H H'):∀ {ρ:Ro} {σ:St},nkR ρ→Al K H ρ σ→Al K H' ρ σ
 | [],[],_,_=>trivial
 | sl::ρ,v::σ,n,h=>⟨by
  cases sl with
  | un=>trivial
  | dat d=>obtain⟨u,e,i⟩:=h.1;exact⟨u,e,isNk hw s n.1 i⟩
  | own ds=>exact h.1
  | dk kvs=>exact h.1
  | dt kvs=>exact h.1,Al.nkX hw s n.2 h.2⟩
theorem Wd.called {K:PySem.W.Frag}{ρ:Ro}{ms ms':List Mu}{as ws:List Addr}{Hs H H':Hp}{σ:St}(w:Wd K ρ ms as Hs σ H)(s:SameX ws H H')(hd:∀b∈ws,∃kvs,H b=some (.dK kvs))(nk:nkR ρ)(ha:∀b∈ws,b∈as∨Hs b=none)(hm:∀m∈ms',σ[m.j]? = some (some m.v)∧m.F H'):Wd K ρ ms' as Hs σ H' :=
 ⟨w.al.nkX hd s nk,hm,fun b o n e=>s b o (fun z=>by
  rcases ha b z with q | q
  · exact n q
  · rw[q] at e;cases e) (w.fr b o n e)⟩
end L2.L3
namespace L2.Tim
open PySem PyProof.Rows
def Tr3At (h:Heap)(v:Value)(a b c:Int):Prop:=∃r t u x,v=.ref r∧IsTup h r #[.int a t,.int b u,.int c x]
theorem Tr3At.keep {h h':Heap}{v:Value}{a b c:Int}(x:Tr3At h v a b c)(k:∀b o,h.get? b=some o→h'.get? b=some o):Tr3At h' v a b c :=
 let ⟨r,t,u,y,e,o,ho,hr⟩:=x;⟨r,t,u,y,e,o,k _ _ ho,hr⟩
def frOf (h:Heap):Value→Int
 | .ref r=>match h.get? r with
  | some o=>(match o.data with
   | .seq xs _=>numOf (xs.getD 0 .none)
   | _=>0)
  | none=>0
 | _=>0
theorem frOf_at {h:Heap}{v:Value}{a b c:Int}(x:Tr3At h v a b c):frOf h v=a:=by
 obtain⟨r,t,u,y,rfl,o,ho,hc,n,hd⟩:=x
 unfold frOf
 simp only[ho,hd]
 rfl
def kv3 (h:Heap):Kv:=fun p=>frOf h p.1
section
variable {prog:Program}{w:World}{A:Around}{E:Value→Shared→Prop}{s:Shared}
theorem Z2T {o:Bool}{x y:Value}{a b c a' b' c':Int}{Q:Bool→Shared→Prop}(hx:Tr3At s.heap x a b c)(hy:Tr3At s.heap y a' b' c')(hs:a=a'→b=b'∧c=c')(h:Q (decide (a<a')) s) :
 wpAny (model prog w) A (keyLt' (tuples' o) x y) Q E s:=by
 obtain⟨r,t,u,z,rfl,o1,ho1,hc1,n1,hd1⟩:=hx
 obtain⟨r2,t2,u2,z2,rfl,o2,ho2,hc2,n2,hd2⟩:=hy
 rw[ym]
 refine wpAny_bind (listItems_at ho1 hd1 (wpAny_bind (listItems_at ho2 hd2 ?_)))
 simp only[List.zip_cons_cons,List.zip_nil_right,List.zipIdx_cons,List.zipIdx_nil,List.forIn_cons,List.forIn_nil]
 refine wpAny_bind (wpAny_bind (wpAny_bind (wpAny_eqBool_int ?_)))
 by_cases h1:a=a'
 · obtain⟨h2,h3⟩:=hs h1
   have e1:(a==a')=true:=by simpa using h1
   have e2:(b==b')=true:=by simpa using h2
   have e3:(c==c')=true:=by simpa using h3
   rw[e1]
   simp only[Bool.not_true,Bool.false_eq_true,if_false]
   refine wpAny_pure ?_
   dsimp only
   refine wpAny_bind (wpAny_bind (wpAny_eqBool_int ?_))
   rw[e2]
   simp only[Bool.not_true,Bool.false_eq_true,if_false]
   refine wpAny_pure ?_
   dsimp only
   refine wpAny_bind (wpAny_bind (wpAny_eqBool_int ?_))
   rw[e3]
   simp only[Bool.not_true,Bool.false_eq_true,if_false]
   refine wpAny_pure (wpAny_pure ?_)
   dsimp only
   refine wpAny_pure ?_
   have e3:decide (a<a')=false:=by simp;omega
   rw[e3] at h
   exact h
 · have e1:(a==a')=false:=by simpa using h1
   rw[e1]
   simp only[Bool.not_false,if_true]
   refine wpAny_bind (yj (wpAny_pure ?_))
   dsimp only
   refine wpAny_pure (wpAny_pure ?_)
   exact h
theorem Z0V {x:Value}{a b c:Int}{Q:Option Value→Shared→Prop}(hx:Tr3At s.heap x a b c)(h:∀t,Q (some (.int a t)) s):wpAny (model prog w) A (firstOfTuple' x) Q E s:=by
 obtain⟨r,t,u,z,rfl,o1,ho1,hc1,n1,hd1⟩:=hx
 rw[JT]
 refine wpAny_bind (wpAny_typeOf (T := "tuple") ⟨o1,ho1,hc1⟩ ?_)
 rw[if_neg (by decide)]
 refine wpAny_bind (listItems_at ho1 hd1 (wpAny_pure ?_))
 exact h t
theorem zq:∀ {vs:List Value} {Q:List (Option Value)→Shared→Prop},(∀v∈vs,∃a b c,Tr3At s.heap v a b c) →
 (∀us:List (Option Value),us.length=vs.length→(∀x∈us,∃n t,x=some (.int n t))→Q us s)→wpAny (model prog w) A (vs.mapM firstOfTuple') Q E s
 | [],Q,_,h=>by
  rw[List.mapM_nil]
  exact wpAny_pure (h [] rfl fun x hx=>nomatch hx)
 | v::vs,Q,hv,h=>by
  rw[List.mapM_cons]
  obtain⟨a,b,c,hp⟩:=hv v (List.mem_cons_self ..)
  refine wpAny_bind (Z0V hp fun t=>wpAny_bind (zq (fun x hx=>hv x (List.mem_cons_of_mem _ hx)) fun us hl hu=>wpAny_pure (h _ (by simp[hl]) fun x hx=>?_)))
  rcases List.mem_cons.mp hx with rfl | hx
  · exact⟨a,t,rfl⟩
  · exact hu x hx
theorem ju {vs:List Value}{Q:SortKind→Shared→Prop}(hv:∀v∈vs,∃a b c,Tr3At s.heap v a b c)(h2:2≤vs.length)(h:Q (tuples' true) s) :
 wpAny (model prog w) A (keyKind' vs.toArray) Q E s:=by
 rw[keyKind'_eq,List.mapM_toArray]
 rw[map_eq_pure_bind,bind_assoc]
 refine wpAny_bind (zq hv fun us hl hu=>?_)
 rw[pure_bind]
 have hall:(us.toArray.all fun x=>x.isSome)=true:=by
  simp only[List.all_toArray,List.all_eq_true]
  intro x hx
  obtain⟨n,t,rfl⟩:=hu x hx
  rfl
 rw[if_pos hall]
 refine wpAny_bind (wpAny_rule ?_)
 obtain⟨ws,ns,e1,e2⟩:∃ws ns,us.toArray.filterMap id=List.toArray ws∧IntsAre ws ns∧ws.length=us.length:=by
  clear hall hl
  have key:∀us:List (Option Value),(∀x∈us,∃n t,x=some (.int n t))→∃ws ns,us.filterMap id=ws∧IntsAre ws ns∧ws.length=us.length:=by
   intro us
   induction us with
   | nil=>intro _;exact⟨[],[],rfl,.nil,rfl⟩
   | cons x us ih =>
    intro hu
    obtain⟨n,t,rfl⟩:=hu x (List.mem_cons_self ..)
    obtain⟨ws,ns,e1,e2,e3⟩:=ih fun x hx=>hu x (List.mem_cons_of_mem _ hx)
    exact⟨.int n t::ws,n::ns,by simp[e1],.cons n t e2,by simp[e3]⟩
  obtain⟨ws,ns,e1,e2,e3⟩:=key us hu
  exact⟨ws,ns,by simp[e1],e2,e3⟩
 rw[e1]
 obtain⟨e2,e3⟩:=e2
 rw[oneTypeOnly'_eq,List.mapM_toArray,mapM_typeOf_ints e2]
 simp only[map_pure,pure_bind]
 match ws,e3,e2 with
 | [],e3,_=>rw[List.length_nil] at e3;omega
 | v1::ws,e3,e2 =>
  have hall:((List.map (fun _=>Value.type "int") (v1::ws)).toArray.all fun x=>x==Value.type "int")=true:=by
   simp only[List.all_toArray,List.all_map,List.all_eq_true]
   intro _ _
   rfl
  have h0:(List.map (fun _=>Value.type "int") (v1::ws)).toArray[0]? = some (Value.type "int"):=by simp
  rw[h0]
  simp only[hall,if_true]
  refine wpAny_bind (wpAny_pure (wpAny_pure ?_))
  exact h
end
theorem ord_tri {prog:Program}{w:World}{h:Heap}{vs:List Value}(hv:∀v∈vs,∃a b c,Tr3At h v a b c)(hd:∀v∈vs,∀u∈vs,∀a b c b' c',Tr3At h v a b c→Tr3At h u a b' c'→b=b'∧c=c') :
 Ord prog w h vs (tuples' true) (kv3 h) (fun p=>p.1∈vs):=by
 refine⟨fun A E s Q k h2 hQ=>ju (fun v hm=>?_) h2 hQ,fun A E s k=>⟨fun x y st Q hx hy hk hQ=>?_⟩,fun v hm=>hm⟩
 · obtain⟨a,b,c,hp⟩:=hv v hm
   exact⟨a,b,c,hp.keep k⟩
 · obtain⟨a,b,c,hp⟩:=hv _ hx
   obtain⟨a',b',c',hp2⟩:=hv _ hy
   rw[lt'_eq]
   refine wpS_bind (wpS_get ?_)
   rw[hk]
   refine wpS_bind (wpS_lift (wpAny_attempt (Z2T (hp.keep k) (hp2.keep k) (fun e=>hd _ hx _ hy a b c b' c' hp (e▸hp2)) ⟨rfl,?_⟩)))
   refine wpS_pure ?_
   have e:decide (kv3 h x<kv3 h y)=decide (a<a'):=by
    unfold kv3
    rw[frOf_at hp,frOf_at hp2]
   rw[e] at hQ
   exact hQ
end L2.Tim
namespace L2
open PySem PySem.Spec PyProof.Rows
abbrev Tr:=Int × Int × Int
def triD (p:Tr):D:=.tup [.int p.1,.int p.2.1,.int p.2.2]
section
variable {X:Cx}
theorem Z1A {a b c:Int}{us:List Value}(r:Vals [.int a,.int b,.int c] us):∃t u x,us=[.int a t,.int b u,.int c x]:=by
 cases r with
 | cons r1 r2 =>
  cases r2 with
  | cons r3 r4 =>
   cases r4 with
   | cons r5 r6 =>
    cases r6
    obtain⟨t,rfl⟩:=r1
    obtain⟨u,rfl⟩:=r3
    obtain⟨x,rfl⟩:=r5
    exact⟨t,u,x,rfl⟩
def TrRel (K:PySem.W.Frag)(H:Hp)(h:Heap)(x:V × Tr)(u:Value):Prop:=RelV x.1 u∧Is K H (triD x.2) x.1∧Tim.Tr3At h u x.2.1 x.2.2.1 x.2.2.2
theorem Z0e {pins:List (Addr × Obj)}{σ:St}{H:Hp}{s:Shared}(I:Inv X pins σ H s):∀ {ps:List Tr} {xs:List V} {us:List Value},IsL X.K H (ps.map triD) xs→Vals xs us →
 ∃zs:List (V × Tr),zs.map (·.1)=xs∧zs.map (·.2)=ps∧Paired (TrRel X.K H s.heap) zs us
 | [],xs,us,h,r=>by
  rw[List.map_nil] at h
  unfold IsL at h
  subst h
  cases r
  exact⟨[],rfl,rfl,.nil⟩
 | p::ps,xs,us,h,r=>by
  rw[List.map_cons] at h
  unfold IsL at h
  obtain⟨y,ys,rfl,h1,h2⟩:=h
  cases r with
  | cons r1 r2 =>
   obtain⟨zs,e1,e2,e3⟩:=Z0e I h2 r2
   refine⟨(y,p)::zs,by simp[e1],by simp[e2],.cons ⟨r1,h1,?_⟩ e3⟩
   unfold triD at h1
   obtain⟨a,vs,rfl,k1,k2⟩:=L3.is_tup h1
   have e4:vs=[.int p.1,.int p.2.1,.int p.2.2]:=by
    have:=IsL.ints' (ns:=[p.1,p.2.1,p.2.2]) k2
    simpa using this
   subst e4
   obtain⟨its,q1,q2,_⟩:=I.tuple k1
   obtain⟨t,u,x,rfl⟩:=Z1A q1
   obtain rfl:_=Value.ref a:=r1
   exact⟨a,t,u,x,rfl,q2⟩
theorem J6 {K:PySem.W.Frag}{H:Hp}{h:Heap}:∀ {zs:List (V × Tr)} {us:List Value},Paired (TrRel K H h) zs us→Vals (zs.map (·.1)) us∧IsL K H ((zs.map (·.2)).map triD) (zs.map (·.1))∧∀(i:Nat) u,us[i]? = some u→∃p,(zs.map (·.2))[i]? = some p∧Tim.Tr3At h u p.1 p.2.1 p.2.2
 | _,_,.nil=>⟨.nil,by unfold IsL;rfl,fun i u e=>by simp at e⟩
 | _,_,.cons r t=>by
  obtain⟨a1,a2,a3⟩:=J6 t
  refine⟨.cons r.1 a1,IsL.cons r.2.1 a2,fun i u e=>?_⟩
  cases i with
  | zero=>simp at e;subst e;exact⟨_,rfl,r.2.2⟩
  | succ i=>simpa using a3 i u (by simpa using e)
theorem isl_zip3 {K:PySem.W.Frag}{G:Hp}:∀ {zs:List (V × Tr)},IsL K G ((zs.map (·.2)).map triD) (zs.map (·.1)) ↔ ∀z∈zs,Is K G (triD z.2) z.1
 | []=>⟨fun _ z hz=>(nomatch hz),fun _=>by unfold IsL;rfl⟩
 | y::zs=>by
  constructor
  · intro h z hz
    rw[List.map_cons,List.map_cons,List.map_cons] at h
    unfold IsL at h
    obtain⟨x,r,e,h1,h2⟩:=h
    cases e
    rcases List.mem_cons.mp hz with rfl | hz
    · exact h1
    · exact isl_zip3.mp h2 z hz
  · intro h
    exact IsL.cons (h y (List.mem_cons_self ..)) (isl_zip3.mpr fun z hz=>h z (List.mem_cons_of_mem _ hz))
theorem _root_.L2.Tim.Tr3At.one {h:Heap}{v:Value}{a b c a' b' c':Int}(x:Tim.Tr3At h v a b c)(y:Tim.Tr3At h v a' b' c'):a=a'∧b=b'∧c=c':=by
 obtain⟨r,t,u,z,rfl,o,ho,hc,n,hd⟩:=x
 obtain⟨r2,t2,u2,z2,e,o2,ho2,hc2,n2,hd2⟩:=y
 cases e
 rw[ho] at ho2
 cases ho2
 rw[hd] at hd2
 have:=(Data.seq.inj hd2).1
 have e3:=congrArg Array.toList this
 simp only[List.cons.injEq,Value.int.injEq] at e3
 exact⟨e3.1.1,e3.2.1.1,e3.2.2.1.1⟩
theorem JQ:∀ {l:List Int} {i j:Nat} {b:Int},l.Nodup→l[i]? = some b→l[j]? = some b→i=j
 | [],i,j,b,_,h,_=>by simp at h
 | a::l,0,0,b,_,_,_=>rfl
 | a::l,0,j+1,b,n,h,g=>by
  have e:a=b:=by simpa using h
  subst e
  exact absurd (List.mem_of_getElem? (show l[j]? = some a by simpa using g)) (List.nodup_cons.mp n).1
 | a::l,i+1,0,b,n,h,g=>by
  have e:a=b:=by simpa using g
  subst e
  exact absurd (List.mem_of_getElem? (show l[i]? = some a by simpa using h)) (List.nodup_cons.mp n).1
 | a::l,i+1,j+1,b,n,h,g=>by
  rw[JQ (List.nodup_cons.mp n).2 (show l[i]? = some b by simpa using h) (show l[j]? = some b by simpa using g)]
end
end L2
namespace L2.L3
open PySem PySem.Spec PyProof.Rows
end L2.L3
namespace L2
open PySem PySem.Spec PyProof.Rows
abbrev StepS (s:Int):Prop:=s=2∨s=4∨s=8∨s=16
def ItS (st:Int)(n:Nat):It:=⟨fun i _=>i<n,fun i H x H'=>H'=H∧x=.int (st*i),fun i _=>n≤i⟩
theorem Z14 {P:Program}{w:World}{K:PySem.W.Frag}{tg:Expr}(it:Addr)(z:Int)(n:Nat):Turn P w K tg (ItS z n) [it] it (fun i h=>IsRangeIter h it (0+(i:Nat)*z) ((n:Int)-(i:Nat)) z) where
 mem:=by simp
 obj:=fun i h st b hb=>by
  have e:b=it:=by simpa using hb
  subst e
  exact⟨_,st,fun v z=>by
   have z':Data.fields _=Data.cell v:=z
   cases z'⟩
 keep:=fun i h h' st k=>k it (by simp) _ st
 item:=by
  intro X hP hw hK hc i pins s σ H E I hf st hg
  subst hP hw hK
  obtain⟨f0,f1,f2,f3,f4,f5⟩:=hf it (by simp)
  have W:=Walks.range (prog:=X.prog) (w:=X.w) (I.ok.hd hc) it 0 z n
  refine W.item i s _ _ hg st fun v h' tk hv st' kk=>?_
  obtain⟨t,rfl⟩:=hv
  have I1:Inv X pins σ H { s with heap:=h',toks:=tk }:=I.turned (fun b o hb e=>kk b o (by simpa using hb) e) f0 f1 f3 f4 f5
  refine⟨_,rfl,go_of (s:={ s with heap:=h',toks:=tk }) (n := "range_iterator") st' rfl rfl (by decide) ⟨.int (z*i),H,I1,⟨t,?_⟩,⟨rfl,rfl⟩,st',fun b hb=>(hf b hb).1⟩⟩
  rw[Int.zero_add,Int.mul_comm]
 done:=by
  intro X hP hw hK hc i pins s σ H E I hf st hg
  subst hP hw hK
  obtain⟨f0,f1,f2,f3,f4,f5⟩:=hf it (by simp)
  exact wpAny_pyNext_range_end (I.ok.hd hc) st (by have:n≤i:=hg;omega) fun h' eb=>⟨rfl,I.turned (t':=s.toks) (fun b o hb e=>eb b o hb e) f0 f1 f3 f4 f5⟩
 self:=fun _ _ _ _ _ st h=>wpAny_pyIter_rangeiter st h
section
variable {X:Cx}{tg:Expr}
theorem yA {z:Int}(hz:StepS z)(n:Nat):Builtin.Range.rangeSize 0 (z*n) z=n:=by
 unfold Builtin.Range.rangeSize
 rcases hz with rfl | rfl | rfl | rfl
 all_goals (rw[if_pos (by decide)];split <;> omega)
theorem Z0j {z:Int}(hz:StepS z){n:Nat}(h:(n:Int)<2 ^ 50):Builtin.Range.small 0 (z*n) z=true:=by
 unfold Builtin.Range.small
 rw[yA hz]
 have f1:Builtin.Range.rangeFitsLong 0=true:=Zq (by omega) (by omega)
 have f4:Builtin.Range.rangeFitsLong (n:Int)=true:=Zq (by omega) (by omega)
 rcases hz with rfl | rfl | rfl | rfl
 · have f2:Builtin.Range.rangeFitsLong (2*n)=true:=Zq (by omega) (by omega)
   have f3:Builtin.Range.rangeFitsLong 2=true:=Zq (by omega) (by omega)
   have f5:Builtin.Range.rangeFitsLong (2*n+(2-1))=true:=Zq (by omega) (by omega)
   rw[f1,f2,f3,f4,if_pos (by decide),f5,Bool.or_true];rfl
 · have f2:Builtin.Range.rangeFitsLong (4*n)=true:=Zq (by omega) (by omega)
   have f3:Builtin.Range.rangeFitsLong 4=true:=Zq (by omega) (by omega)
   have f5:Builtin.Range.rangeFitsLong (4*n+(4-1))=true:=Zq (by omega) (by omega)
   rw[f1,f2,f3,f4,if_pos (by decide),f5,Bool.or_true];rfl
 · have f2:Builtin.Range.rangeFitsLong (8*n)=true:=Zq (by omega) (by omega)
   have f3:Builtin.Range.rangeFitsLong 8=true:=Zq (by omega) (by omega)
   have f5:Builtin.Range.rangeFitsLong (8*n+(8-1))=true:=Zq (by omega) (by omega)
   rw[f1,f2,f3,f4,if_pos (by decide),f5,Bool.or_true];rfl
 · have f2:Builtin.Range.rangeFitsLong (16*n)=true:=Zq (by omega) (by omega)
   have f3:Builtin.Range.rangeFitsLong 16=true:=Zq (by omega) (by omega)
   have f5:Builtin.Range.rangeFitsLong (16*n+(16-1))=true:=Zq (by omega) (by omega)
   rw[f1,f2,f3,f4,if_pos (by decide),f5,Bool.or_true];rfl
theorem Z2W {z:Int}(hst:StepS z){pins:List (Addr × Obj)}{σ:St}{H:Hp}{s:Shared}{R:It→Hp→Prop}{E:Value→Shared→Prop}{n:Nat}{t u v:Tok}{tk:Nat}(I:Inv X pins σ H s)(hn:(n:Int)<2 ^ 50)
 (q:R (ItS z n) H):wpAny (model X.prog X.w) X.A (pyIter (.ref s.heap.objs.size)) (PIE X pins σ tg R) E { s with heap:=s.heap.push { cls:=.type "range",data:=.fields #[.int 0 t,.int (z*n) u,.int z v] },toks:=tk }:=by
 refine wpAny_pyIter_range (IsRange.new ..) (Z0j hst hn) ?_
 have I1:Inv X pins σ H { s with heap:=s.heap.push { cls:=.type "range",data:=.fields #[.int 0 t,.int (z*n) u,.int z v] },toks:=tk }:=I.kept fun b o e=>Heap.get?_push_of_some _ e
 refine⟨(s.heap.push { cls:=.type "range",data:=.fields #[.int 0 t,.int (z*n) u,.int z v] }).objs.size,[(s.heap.push { cls:=.type "range",data:=.fields #[.int 0 t,.int (z*n) u,.int z v] }).objs.size],_,_,H,rfl,
  I1.kept (t':=tk) fun b o e=>Heap.get?_push_of_some _ e,Z14 _ z n,?_,fun b hb=>?_,q⟩
 · have e1:(0:Int)+((0:Nat):Int)*z=0:=by simp
   have e2:(n:Int)-((0:Nat):Int)=Builtin.Range.rangeSize 0 (z*n) z:=by rw[yA hst];simp
   show IsRangeIter _ _ (0+((0:Nat):Int)*z) ((n:Int)-((0:Nat):Int)) z
   rw[e1,e2]
   exact Heap.get?_push_size _ rfl
 · have e:b=(s.heap.push { cls:=.type "range",data:=.fields #[.int 0 t,.int (z*n) u,.int z v] }).objs.size:=by simpa using hb
   subst e
   exact I1.fpOk (Nat.le_refl _) (I1.hok.fresh (Nat.le_refl _))
def iStp (ta:TA):TI:=fun σ H R=>ta σ H fun vs H1=>∃(z:Int) (n:Nat),StepS z∧vs=[.int 0,.int (z*n),.int z]∧(n:Int)<2 ^ 50∧R (ItS z n) H1
theorem Z3a {a b c:Expr}{ta:TA}{p pos:Pos}(hg:Gl X "range")(hm:X.mg "range" = none)(ha:PA X [a,b,c] ta)(hs:starEach [a,b,c] X.env=[(false,eval a X.env),(false,eval b X.env),(false,eval c X.env)]:=by rfl)(hs2:starEach [b,c] X.env=[(false,eval b X.env),(false,eval c X.env)]:=by rfl) :
 PI X tg (.Call (.Name "range" p) [a,b,c] [] pos) (iStp ta):=by
 intro pins s σ H R I h
 refine Call_ (ld_blt I hg hm boot_range (PyProof.Rows.callWith_type1 (thn (ha pos pins s σ H _ I h) fun us s1 ⟨vs,H1,I1,r1,q1⟩=>?_) (by rw[hs,hs2]) (by rw[hs2];rfl)))
 obtain⟨z,n,hst,e,q1,q⟩:=q1
 subst e
 cases r1 with
 | cons r rr =>
  cases rr with
  | cons r' rr =>
   cases rr with
   | cons r2 rr =>
    cases rr
    obtain⟨t,rfl⟩:=r
    obtain⟨t',rfl⟩:=r'
    obtain⟨t2,rfl⟩:=r2
    exact call_range_3 (by rcases hst with rfl | rfl | rfl | rfl <;> decide) (Z2W hst I1 q1 q) (Or.inl (PyProof.noPylong_small (by omega)))
theorem Z2y {z:Int}{n:Nat}{g:TG}{tb:TS}{D:Ends}{σ:St}{H:Hp}(Pv:Nat→St→Hp→Prop)(h0:Pv 0 σ H)
 (hs:∀i σ H,i<n→Pv i σ H→g (.int (z*i)) σ H fun σ2 H2=>tb { D with nx:=Pv (i+1),ct:=Pv (i+1),bk:=D.nx } σ2 H2) (hd:∀σ H,Pv n σ H→D.nx σ H) :
 ∃W:Nat→Nat→St→Hp→Prop,(∃m,W 0 m σ H)∧∀i m σ H,W i m σ H →
  ((ItS z n).stop i H∧D.nx σ H)∨((ItS z n).go i H∧∃N:St→Hp→Prop,(∀σ' H',N σ' H'→∃m',m'<m∧W (i+1) m' σ' H')∧∀x H',(ItS z n).yld i H x H'→g x σ H' fun σ2 H2=>tb { D with nx:=N,ct:=N,bk:=D.nx } σ2 H2):=by
 refine⟨fun i m σ H=>m=n-i∧i≤n∧Pv i σ H,⟨n,by simp,Nat.zero_le _,h0⟩,?_⟩
 rintro i m σ H ⟨rfl,hi,p⟩
 by_cases hlt:i<n
 · refine .inr ⟨hlt,Pv (i+1),fun σ' H' p'=>⟨n-(i+1),by omega,rfl,hlt,p'⟩,fun x H' y=>?_⟩
   obtain⟨e,y⟩:=y
   subst e y
   exact hs i σ _ hlt p
 · have e:i=n:=by omega
   subst e
   exact .inl ⟨Nat.le_refl _,hd σ H p⟩
end
namespace L3
section
variable {X:Cx}{ρ ρ1:Ro}{r:R}{e it:Expr}{pos:Pos}{E:XW}{x:Str}{o:O}{body:List Stmt}{D:Ends}{G0 H0 G1 G':Hp}{σ:St}{H:Hp}
theorem Z1e (j:Nat)(ρs:Nat→Ro){a b c:Expr}{n:Nat}{m z:Int}{p p2 cp:Pos}(hst:StepS z)(ha:QE X ρ a (.dat (.int 0)))(hb:QE X ρ b (.dat (.int m)))(hc2:QE X ρ c (.dat (.int z)))(em:m=z*n)(hn:(n:Int)<2 ^ 50)(h0:Wk (ρs 0) ρ)(turn:∀(i:Nat),i<n→QK X E ((ρs i).set j (.dat (.int (z*i)))) [body] (.lp (ρs (i+1))))
 (hm:X.mg "range" = none) (hN:X.N.Nodup) (hp:PassesOwn (model X.prog X.w) X.A X.env X.xe) (hg:Gl X "range" := by rfl) (hsA:starEach [a,b,c] X.env=[(false,eval a X.env),(false,eval b X.env),(false,eval c X.env)]:=by rfl) (hsB:starEach [b,c] X.env=[(false,eval b X.env),(false,eval c X.env)]:=by rfl) (hsC:starEach [c] X.env=[(false,eval c X.env)]:=by rfl) (hc:X.calm=true:=by rfl) (hj:X.N[j]? = some x:=by rfl) (hx:Loc X.env.scope x:=by first | exact Or.inl rfl | exact Or.inr rfl)
 (hf:X.fn x=true∨X.env.scope.names.lookup x=some .local:=by first | exact .inl rfl | exact .inr rfl | assumption) (hs:∀x,foldedSetIterable (.Call (.Name "range" p2) [a,b,c] [] cp) X.env x=pure x:=by intro _;rfl) :
 QS X E ρ (.For (.Name x p) (.Call (.Name "range" p2) [a,b,c] [] cp) body [] pos) (.nx (ρs n)) :=
 Y2 (ps_for hp hc (Z3a hg hm (pa_cons ha.u (pa_cons hb.u (pa_cons hc2.u pa_nil hsC) (by rw[hsB,hsC])) (by rw[hsA,hsB])) hsA hsB) (pg_name hN hj hx hf) Z9 hs) fun G0 H0 G D σ H c f=>⟨G0,H0,G,c,fun v G1 H1 g1 i1=>⟨G0,H0,G1,c.up g1,fun v2 G2 H2 g2 i2=>⟨G0,H0,G2,(c.up g1).up g2,fun v3 G3 H3 g3 i3=>by
  refine⟨z,n,hst,by rw[Z8 i1,Z8 i2,Z8 i3,em],hn,?_⟩
  have sg:Same G G3:=((g1.trans g2).trans g3).gg c.sub
  refine Z2y (fun i σ' H'=>∃G',Same G3 G'∧Conf X.K G0 H0 (ρs i) G' σ' H') ⟨G3,Same.refl _,(((c.up g1).up g2).up g3).weak h0⟩ ?_ ?_
  · rintro i σ' H' hi ⟨G',s,c'⟩
    exact jI (turn i hi) s c' Zl _ fun G'' σ'' H'' s'' c''=>⟨G'',s'',c''⟩
  · rintro σ' H' ⟨G',s,c'⟩
    exact f G' σ' H' (sg.trans s) c'⟩⟩⟩
end
section
variable {X:Cx}{ρ:Ro}{it elt tg:Expr}{ds:List D}{pos:Pos}{N:List Str}{js:List (Option Nat)}{scope:Scope}{G0 H0 G:Hp}{σ:St}{H:Hp}{α:Type}
def LcI3 (K:PySem.W.Frag)(G1 H1:Hp)(js:List (Option Nat))(σ:St)(Dd:Addr)(es:List L2.D)(ys:List V)(σ':St)(H2:Hp):Prop :=
 ∃G2,Grow G1 H1 G2 H2∧G2 Dd=none∧H2 Dd=some (.lst ys)∧IsL K G2 es ys∧σ'.length=js.length∧∀k:Nat,3≤k→σ'[k]? = (sbOf js σ)[k]?
theorem Z1c {d d2 d3:D}{v v2 v3:V}{G':Hp}{H':Hp}{σ':St}(c:Conf X.K G0 H0 ρ G σ H)(s:Same G G')(s':Same G' H')(iv:Is X.K G' d v)(iv2:Is X.K G' d2 v2)(iv3:Is X.K G' d3 v3)(hl:σ'.length=js.length)(hj:js[1]? = some none)(hj2:js[2]? = some none)(ht:∀k:Nat,3≤k→σ'[k]? = (sbOf js σ)[k]?) :
 Conf X.K G' H' ((((rb js ρ).set 0 (.dat d)).set 1 (.dat d2)).set 2 (.dat d3)) G' (((σ'.set 0 (some v)).set 1 (some v2)).set 2 (some v3)) H':=by
 have hlt:2<σ'.length:=by rw[hl];exact(List.getElem?_eq_some_iff.mp hj2).1
 have c1:=JO (js:=js) (σ':=σ'.set 2 none) c s s' iv iv2 (by rw[List.length_set];exact hl) hj fun k hk=>by
  by_cases z:k=2
  · subst z
    rw[List.getElem?_set_self hlt]
    unfold sbOf
    rw[List.getElem?_map,hj2];rfl
  · rw[List.getElem?_set_ne (Ne.symm z)];exact ht k (by omega)
 have c2:=c1.put (i:=2) iv3
 have e:(((σ'.set 2 none).set 0 (some v)).set 1 (some v2)).set 2 (some v3)=((σ'.set 0 (some v)).set 1 (some v2)).set 2 (some v3):=by
  rw[List.set_comm none (some v) (by omega),List.set_comm none (some v2) (by omega),List.set_set]
 rw[e] at c2
 exact c2
theorem IsL.three_of {K:PySem.W.Frag}{G:Hp}{a b c:D}{xs:List V}(h:L2.IsL K G [a,b,c] xs):∃x y z,xs=[x,y,z]∧Is K G a x∧Is K G b y∧Is K G c z:=by
 unfold L2.IsL at h
 obtain⟨x,r,rfl,h1,h⟩:=h
 unfold L2.IsL at h
 obtain⟨y,r,rfl,h2,h⟩:=h
 unfold L2.IsL at h
 obtain⟨z,r,rfl,h3,h⟩:=h
 unfold L2.IsL at h
 subst h
 exact⟨x,y,z,rfl,h1,h2,h3⟩
theorem Z1w {G1 H1 H2:Hp}{Dd:Addr}{ys:List V}{zs:List L2.D}{σ':St}{d d2 d3:L2.D}{v:V}{r:R}(c:Conf X.K G0 H0 ρ G1 σ H1)(hD:H1 Dd=none)(hj:js[1]? = some none)(hj2:js[2]? = some none)(he:∀C fp s H,QE (X.blk N scope C fp s H) ((((rb js ρ).set 0 (.dat d)).set 1 (.dat d2)).set 2 (.dat d3)) elt r)(hz:zs.length<sizeLine)(iv:Is X.K G1 (.tup [d,d2,d3]) v)
 (h:LcI3 X.K G1 H1 js σ Dd zs ys σ' H2) :
 gTup X.K 3 (gCons (gName 0) (gCons (gName 1) (gCons (gName 2) gNil))) v σ' H2 fun σ4 H4=>tTc X N scope [] σ4 H4 fun b H5=>if b=true then tEc X N scope elt σ4 H5 fun y H6=>H6 Dd=some (.lst ys)∧ys.length<sizeLine∧LcI3 X.K G1 H1 js σ Dd (zs++[r.d]) (ys++[y]) σ4 (upd H6 Dd (.lst (ys++[y])))
  else LcI3 X.K G1 H1 js σ Dd (zs++[r.d]) ys σ4 H5:=by
 obtain⟨G2,g2,k1,k2,k3,k4,k5⟩:=h
 have sg:Same G1 G2:=g2.gg c.sub
 obtain⟨ad,xs,rfl,t1,t2⟩:=is_tup iv
 obtain⟨v1,v2,v3,rfl,i1,i2,i3⟩:=IsL.three_of t2
 refine⟨ad,_,rfl,(sg.trans g2.sub).tuple t1,rfl,_,_,rfl,_,_,rfl,_,_,rfl,rfl,?_⟩
 have cb:=Z1c (js:=js) (σ':=σ') c sg g2.sub (Zb sg i1) (Zb sg i2) (Zb sg i3) k4 hj hj2 k5
 have len':(((σ'.set 0 (some v1)).set 1 (some v2)).set 2 (some v3)).length=js.length:=by rw[List.length_set,List.length_set,List.length_set];exact k4
 have tail':∀k:Nat,3≤k→(((σ'.set 0 (some v1)).set 1 (some v2)).set 2 (some v3))[k]? = (sbOf js σ)[k]?:=fun k hk=>by rw[List.getElem?_set_ne (by omega),List.getElem?_set_ne (by omega),List.getElem?_set_ne (by omega)];exact k5 k hk
 intro C fp s0 H0' pins s I
 refine(YK (X:=X.blk N scope C fp s0 H0')).u pins s _ H2 _ I ⟨G2,H2,G2,cb,fun G5 H5 g5=>iteT ?_⟩
 intro C fp s0 H0' pins s I
 refine(he C fp s0 H0').u pins s _ H5 _ I ⟨G2,H2,G5,cb.up g5,fun y G6 H6 g6 o6=>?_⟩
 obtain⟨G7,g7,i7⟩:=o6.share g6
 have g57:=g5.trans g7
 have hD6:H6 Dd=some (.lst ys):=g57.same _ _ k2
 have k3':IsL X.K G7 zs ys:=Zk (g57.gg g2.sub) k3
 have hG7:G7 Dd=none:=(g57.old _ (Y4 k2)).trans k1
 have g17:=g2.trans g57
 refine⟨hD6,by rw[k3.len];exact hz,G7,⟨fun b u q=>?_,g17.old,fun b u q=>?_⟩,hG7,upd_same,k3'.snoc i7,len',tail'⟩
 · rw[upd_ne (ne_of_none q hD)];exact g17.same b u q
 · rw[upd_ne (ne_of_none q hG7)];exact g17.sub b u q
theorem Z2g {gl:List α}{f1 f2 f3 F:α→D}{x y z:Str}{px py pz pt:Pos}{kk:Nat}(js:List (Option Nat))(S:BlkScope N scope X.env.scope)(Z:Slots X.N N scope (sbOf js))(hi:QE X ρ it (.dat (.lst (gl.map fun g=>.tup [f1 g,f2 g,f3 g]))))(hg:∀C fp s H,PG (X.blk N scope C fp s H) (.Tuple [.Name x px,.Name y py,.Name z pz] kk pt) (gTup X.K 3 (gCons (gName 0) (gCons (gName 1) (gCons (gName 2) gNil)))))
 (hj:js[1]? = some none) (hj2:js[2]? = some none) (turn:∀g,g∈gl→∀C fp s H,QE (X.blk N scope C fp s H) ((((rb js ρ).set 0 (.dat (f1 g))).set 1 (.dat (f2 g))).set 2 (.dat (f3 g))) elt (.dat (F g))) (hl:gl.length≤sizeLine) (hc:X.calm=true:=by rfl) (hs:∀z,foldedSetIterable it X.env z=pure z:=by intro _;rfl) :
 QE X ρ (.ListComp elt [⟨.Tuple [.Name x px,.Name y py,.Name z pz] kk pt,it,[],0⟩] scope pos) (.own (gl.map F)) :=
 Zf (JC hc S Z (pi_list hi.u) hg (fun _ _ _ _=>YB) (fun _ _ _ _=>Jm) hs) fun G0 H0 G σ H Q c q=>⟨G0,H0,G,c,fun v G1 H1 g1 i1=>by
  obtain⟨ad,xs,rfl,h1,h2⟩:=ZB i1
  refine⟨ad,rfl,⟨xs,g1.sub.seq h1⟩,fun Dd hD=>JF (xs:=xs) (fun i ys σ' H2=>LcI3 X.K G1 H1 js σ Dd ((gl.take i).map F) ys σ' H2) ?_ ?_ ?_ ?_⟩
  · exact⟨G1,Grow.newOwn g1.sub hD,Same.dead g1.sub hD,upd_same,.nil,by simp[sbOf],fun _ _=>rfl⟩
  · rintro i ys σ' H2 _ ⟨G2,g2,k1,k2,_⟩
    exact⟨g2.same |>.seq (g1.sub.seq h1),k2⟩
  · rintro i w ys σ' H2 hi2 h
    obtain⟨d,e1,iv⟩:=h2.got hi2
    obtain⟨g,hgi,rfl⟩:=Y5 e1
    have hlt:i<gl.length:=(List.getElem?_eq_some_iff.mp hgi).1
    rw[Jg F hgi]
    exact Z1w (r:=.dat (F g)) (c.up g1) hD hj hj2 (turn g (List.mem_of_getElem? hgi)) (by rw[List.length_map,List.length_take];omega) iv h
  · rintro ys σ' H2 ⟨G2,g2,k1,k2,k3,_,_⟩
    have e:(gl.take xs.length).map F=gl.map F:=by rw[h2.len,List.length_map,List.take_length]
    rw[e] at k3
    exact q _ G2 H2 (g1.trans g2) ⟨Dd,ys,rfl,k1,Same.dead g1.same hD,k2,k3⟩⟩
end
end L3
end L2
namespace L2.L3
open PySem PySem.Spec PyProof.Rows
def tMethX (C:Addr)(m:Str)(sp:Sp)(E:XW)(ta:TE)(t:TA):TE:=fun σ H Q=>ta σ H fun x H1=>∃a dx fs,x=.ref a∧H1 a=some (.ins C dx fs)∧fs.lookup m=none ∧
 t σ H1 fun vs H2=>sp (x::vs) H2 Q fun cv _ H'=>∃C',cv=.ref C'∧E C' σ H'
abbrev MtX (P:Program)(w:World)(K:PySem.W.Frag)(mg:Str→Option Value)(base:Heap)(k:Nat)(C:Addr)(m:Str)(ps:List Str)(pre:List D→R→Prop)(preX:List D→Addr→Prop):Prop:=MCallee P w K mg base (CXx P w) k C m ps (dspX K pre preX)
section
variable {X:Cx}{ρ:Ro}{r:R}{k:Nat}{C Ce f:Addr}{fd:FuncData}{m:Str}{ps:List Str}{pre:List D→R→Prop}{preX:List D→Addr→Prop}{p pos apos:Pos}{e o:Expr}{es:List Expr}{ds fds:List D}{ns:List Str}{E:XW}{sp:Sp}{ta:TE}{t:TA}{pl:Sem Bool}
theorem Z1m (he:PE X o ta)(c:Cls X.K C)(hm:Meth X.K C m f)(F:FnOk X.prog X.w X.K X.mg X.base (CXx X.prog X.w) k f fd ps sp)(hr:Room k X.A)(hb:Binds X.K fd ps [])(xf:XFly X E)(ha:PA X (e::es) t)
 (hst:starEach (e::es) X.env=(false,eval e X.env)::starEach es X.env:=by rfl) (hpl:(backTo pos (starEach es X.env)).any (·.1)=false:=by rfl)
 (ht:eval (.Call (.Attribute o m apos) (e::es) [] pos) X.env=(do
  let ov ←eval o X.env
  standAt apos.atName
  let (f,first) ←holding [ov] (getMethod ov m pl)
  callWith pos f first (backTo pos (starEach (e::es) X.env)) (backToKw pos (keywordEach [] X.env))):=by rfl) :
 PE X (.Call (.Attribute o m apos) (e::es) [] pos) (tMethX C m sp E ta t):=by
 intro pins s σ H Q I h
 refine PySem.W.methodCall_KW (pl:=pl) (thn (he pins s σ H _ I h) fun u s1 ⟨x,H1,I1,rx,a,dx,fs,ex,ea,l,q⟩=>?_) ht
 subst ex
 obtain rfl:u=Value.ref a:=rx
 refine getmeth_ok I1 ea c hm l ?_
 refine PySem.W.callWith_K (first:=[.ref a]) (h₀:=X.base) I.ok.mod.kin hm.kp (thn (ha pos pins s1 σ H1 _ I1 q) fun us s2 ⟨vs,H2,I2,r,q2⟩=>⟨I2.kIn,?_⟩) hst hpl
 exact jz (us:=.ref a::us) (vs:=.ref a::vs) F hr hb xf I2 (.cons rfl r) q2
theorem Z26 (c:MtX X.prog X.w X.K X.mg X.base k C m ps pre preX)(xf:XFly X E)(cl:Cls X.K C)(hr:Room k X.A)(ho:QE X ρ o (.dat (.obj C ns fds)))(ha:QA X ρ (e::es) ds)(hp:preX (.obj C ns fds::ds) Ce)(hn:ns.contains m=false:=by rfl)
 (hst:starEach (e::es) X.env=(false,eval e X.env)::starEach es X.env:=by rfl) (hpl:(backTo pos (starEach es X.env)).any (·.1)=false:=by rfl)
 (ht:eval (.Call (.Attribute o m apos) (e::es) [] pos) X.env=(do
  let ov ←eval o X.env
  standAt apos.atName
  let (f,first) ←holding [ov] (getMethod ov m pl)
  callWith pos f first (backTo pos (starEach (e::es) X.env)) (backToKw pos (keywordEach [] X.env))):=by rfl):QX X E ρ (.Call (.Attribute o m apos) (e::es) [] pos) Ce:=by
 obtain⟨f,fd,F,M,B⟩:=c.ex
 exact⟨fun pins s σ H Q I ⟨G0,H0,G,cf,q⟩=>Z1m ho.u cl M F hr B xf ha.u hst hpl ht pins s σ H Q I ⟨G0,H0,G,cf,fun v G1 H1 g1 i1=>by
  obtain⟨a,dx,fs,rfl,k1,k2,k3⟩:=zl i1
  refine⟨a,dx,fs,rfl,g1.sub _ _ k1,JE k2 hn,G0,H0,G1,cf.up g1,fun vs G2 H2 g2 i2=>.inr ?_⟩
  exact⟨_,G2,Ce,hp,g2.sub,.cons (Zb (g2.gg g1.sub) i1) i2,fun G3 H3 g3=>⟨Ce,rfl,q G3 H3 ((g1.trans g2).trans g3)⟩⟩⟩⟩
end
theorem Z3l {P:Program}{w:World}{K:PySem.W.Frag}{mg:Str→Option Value}{base:Heap}{C:Addr}{m qual:Str}{st:Stmt}{N ps:List Str}{k:Nat}{pre:List D→R→Prop}{preX:List D→Addr→Prop}(d:MDef K C m qual st)(S:FnScope N ps (defScope st))
 (hb:∀(kV doc pm:Value) (an:Option Addr) (cdv ct:Value) (us:List Value),us.length=ps.length→bindArgs (PySem.W.fnOf m qual (defArgs st) (defBody st) (defScope st) .none kV doc pm an cdv ct) ⟨us,[]⟩=pure (ps.zip us))
 (len:∀ds r,pre ds r→ds.length=ps.length) (lenX:∀ds C,preX ds C→ds.length=ps.length)
 (hbody:∀(X:Cx) (f:Addr) (cdv:Value) (A:Around) (outer:List Env) (s:Shared) (H:Hp) (E:XK),X=(cxOf (CXx P w) P w K mg base N qual (defScope st) f cdv A outer s H E).nox→Room k X.A→∀ds r,pre ds r→QK X noX (start0 N ds) [defBody st] (.rt r))
 (hbodyX:∀(X:Cx) (f:Addr) (cdv:Value) (A:Around) (outer:List Env) (s:Shared) (H:Hp) (E:XK) (E2:XW),X=cxOf (CXx P w) P w K mg base N qual (defScope st) f cdv A outer s H E→Room k X.A→XMade X E2→XFly X E2 →
  ∀ds C,preX ds C→∃ρ,QK X E2 (start0 N ds) [defBody st] (.ex C ρ)) :
 MtX P w K mg base (k+1) C m ps pre preX:=by
 obtain⟨f,fd,F,M⟩:=d.ex
 obtain⟨oc,od,kV,doc,pm,an,cdv,ct,osl,rfl,lk,hcd⟩:=id F.ex
 refine⟨f,_,fn_of lk hcd S (fun vs H Q E h=>?_) fun A outer s H vs Q E hr h=>?_,M,F.binds hb⟩
 · rcases h with ⟨ds,G,r,hp,_,i,_⟩ | ⟨ds,G,C,hp,_,i,_⟩
   · rw[i.len];exact len ds r hp
   · rw[i.len];exact lenX ds C hp
 · rcases h with ⟨ds,G,r,hp,sg,i,q⟩ | ⟨ds,G,C,hp,sg,i,q⟩
   · exact⟨_,(QK.s (hbody _ f cdv A outer s H E rfl hr ds r hp)).u.nox,G,H,G,ZE i sg,fun v G' H' _ g o=>q v G' H' g o⟩
   · obtain⟨ρ,hq⟩:=hbodyX _ f cdv A outer s H E (fun C _ H=>E (.ref C) none H) rfl hr JK zu ds C hp
     exact⟨_,(QK.s hq).u,G,H,G,ZE i sg,fun G' σ' H' _ c'=>q G' H' c'.grow⟩
end L2.L3
namespace L2
open PySem PySem.Spec PyProof.Rows
section
variable {X:Cx}
theorem yn:CallR X (.builtin "sorted") (fun xs H Q=>∃(p:Addr) (ns:List Int),xs=[.ref p]∧SqL X.K H p (ns.map V.int)∧ns.length<64 ∧
 ∀(l:Addr) (ms:List Int),H l=none→ms.Perm ns→ms.Pairwise (· ≤ ·)→Q (.ref l) (upd H l (.lst (ms.map V.int)))):=by
 intro pins s σ H xs us Q I r h
 obtain⟨p,ns,rfl,hq,h64,q⟩:=h
 obtain⟨u,rfl,rx⟩:=vals1 r
 cases rx
 obtain⟨its,r',pl,hz⟩:=I.list hq
 have hi:IntsAre its ns:=intsAre_of r'
 have hl:its.length=ns.length:=by rw[←r'.length];simp
 rw[List.length_map] at hz
 refine Tim.sorted_s pl.isList (by omega) (Tim.ord_ints hi) fun out hp hs=>?_
 have hp':out.Perm (pairsOf its):=by
  apply Array.perm_iff_toList_perm.mpr
  rw[pairsOf_toList];exact hp
 have hs':SortedTo out (pairsOf its).size:=by
  rw[pairsOf_size]
  intro i j h1 h2
  exact hs i j (Nat.zero_le _) h1 h2
 obtain⟨ms,m1,m2,m3⟩:=sorted_out hi hp' hs'
 obtain⟨e,he⟩:=PyProof.Rows.sortedAll_at s.heap its (out.map (·.2))
 refine⟨.ref (s.heap.objs.size+1),_,I.laid (t':=s.toks) (a:=s.heap.objs.size+1) (o:=.lst (ms.map V.int)) (fun b ob z=>PyProof.Rows.sortedAll_old z) (Nat.le_succ _) ?_,rfl,q _ ms (I.hok.fresh (Nat.le_succ _)) m2 m3⟩
 refine⟨by rw[List.length_map,m2.length_eq];exact hz,(out.map (·.2)).toList,e,vals_ints m1,?_⟩
 rw[he]
theorem zJ:CallR X (.builtin "sorted") (fun xs H Q=>∃(p:Addr) (ps:List Tr) (vs:List V),xs=[.ref p]∧SqL X.K H p vs∧IsL X.K H (ps.map triD) vs∧(ps.map (·.1)).Nodup∧ps.length<64 ∧
 ∀(l:Addr) (qs:List Tr) (ws:List V),H l=none→qs.Perm ps→qs.Pairwise (fun x y=>x.1≤y.1)→(∀G,IsL X.K G (ps.map triD) vs→IsL X.K G (qs.map triD) ws)→Q (.ref l) (upd H l (.lst ws))):=by
 intro pins s σ H xs us Q I r h
 obtain⟨p,ps,vs,rfl,hq,hi,hnd,h64,q⟩:=h
 obtain⟨u,rfl,rx⟩:=vals1 r
 cases rx
 obtain⟨its,r',pl,hz⟩:=I.list hq
 obtain⟨zs,e1,e2,e3⟩:=Z0e I hi r'
 have hl:its.length=vs.length:=r'.length.symm
 obtain⟨f1,f2,f3⟩:=J6 e3
 have hO:=Tim.ord_tri (prog:=X.prog) (w:=X.w) (h:=s.heap) (vs:=its) (fun v hv=>by
  obtain⟨i,hi⟩:=List.getElem?_of_mem hv
  obtain⟨p,hp,hpa⟩:=f3 i v hi
  exact⟨p.1,p.2.1,p.2.2,hpa⟩) (fun v hv u hu a b c b' c' h1 h2=>by
  obtain⟨i,hi⟩:=List.getElem?_of_mem hv
  obtain⟨p,hp,hpa⟩:=f3 i v hi
  obtain⟨j,hj⟩:=List.getElem?_of_mem hu
  obtain⟨p',hp',hpa'⟩:=f3 j u hj
  rw[e2] at hp hp'
  have k1:=Tim.Tr3At.one h1 hpa
  have k2:=Tim.Tr3At.one h2 hpa'
  have:i=j:=by
   have q1:(ps.map (·.1))[i]? = some p.1:=by rw[List.getElem?_map,hp];rfl
   have q2:(ps.map (·.1))[j]? = some p.1:=by rw[List.getElem?_map,hp'];show some p'.1=_;rw[←k2.1,k1.1]
   exact JQ hnd q1 q2
  subst this
  rw[hp] at hp'
  cases hp'
  exact⟨k1.2.1.trans k2.2.1.symm,k1.2.2.trans k2.2.2.symm⟩)
 have hvl:vs.length=ps.length:=by
  rw[hi.len,List.length_map]
 refine Tim.sorted_s pl.isList (by omega) hO fun out hp hs=>?_
 have hmem:∀x,x∈out.toList→x.1=x.2∧x.1∈its:=fun x hx=>mem_zip_self (hp.mem_iff.mp hx)
 have hp2:(out.map (·.2)).toList.Perm its:=by
  have:=hp.map (·.2)
  rw[List.map_snd_zip (Nat.le_refl _)] at this
  rw[Array.toList_map];exact this
 obtain⟨zs',g1,g2⟩:=Paired.perm hp2 e3
 obtain⟨k1,k2,k3⟩:=J6 g2
 obtain⟨e,he⟩:=PyProof.Rows.sortedAll_at s.heap its (out.map (·.2))
 have hlen:(zs'.map (·.1)).length=vs.length:=by rw[List.length_map,g1.length_eq,←e1,List.length_map]
 refine⟨.ref (s.heap.objs.size+1),_,I.laid (t':=s.toks) (a:=s.heap.objs.size+1) (o:=.lst (zs'.map (·.1))) (fun b ob z=>PyProof.Rows.sortedAll_old z) (Nat.le_succ _) ?_,rfl,q _ (zs'.map (·.2)) _ (I.hok.fresh (Nat.le_succ _)) ?_ ?_ (fun G hG=>isl_zip3.mpr fun z hz=>isl_zip3.mp (by rw[e1,e2];exact hG) z (g1.mem_iff.mp hz))⟩
 · refine⟨by rw[hlen];exact hz,(out.map (·.2)).toList,e,k1,?_⟩
   rw[he]
 · rw[←e2];exact g1.map _
 · have hol:out.size=its.length:=by
    have:=hp.length_eq
    rw[Array.length_toList,List.length_zip,Nat.min_self] at this
    exact this
   have hzl:(zs'.map (·.2)).length=its.length:=by
    have:=hlen
    rw[List.length_map] at this ⊢
    rw[this,hl]
   have hm:∀p∈zs'.map (·.2),p∈ps:=fun p hp=>by
    rw[←e2]
    exact(g1.map _).mem_iff.mp hp
   clear k1 k2 g1 g2 hlen
   revert k3 hzl hm
   generalize zs'.map (·.2)=qs
   intro k3 hzl hm
   rw[List.pairwise_iff_getElem]
   intro i j hi hj hij
   have at':∀(i:Nat) (hi:i<qs.length) (ho:i<out.size),Tim.Tr3At s.heap out[i].1 qs[i].1 qs[i].2.1 qs[i].2.2:=fun i hi ho=>by
    obtain⟨p,hp1,hp2⟩:=k3 i out[i].2 (by simp[ho])
    rw[List.getElem?_eq_getElem hi] at hp1
    cases hp1
    rw[(hmem out[i] (by simp)).1]
    exact hp2
   have a1:=at' i hi (by omega)
   have a2:=at' j hj (by omega)
   have hs1:=hs i j (Nat.zero_le _) (by omega) (by omega)
   rw[Tim.kA_get (by omega),Tim.kA_get (by omega)] at hs1
   unfold Tim.kv3 at hs1
   rw[Tim.frOf_at a1,Tim.frOf_at a2] at hs1
   exact hs1
end
end L2
namespace L2.L3
open PySem PySem.Spec PyProof.Rows
section
variable {X:Cx}{ρ:Ro}{e:Expr}{pos p:Pos}
theorem yI {ps qs:List Tr}(h64:ps.length<64)(hnd:(ps.map (·.1)).Nodup)(hp0:qs.Perm ps)(hr0:qs.Pairwise fun x y=>x.1≤y.1)(hm:X.mg "sorted" = none)(ha:QA X ρ [e] [.lst (ps.map triD)])(hg:Gl X "sorted" := by rfl)(he:starEach [e] X.env=[(false,eval e X.env)]:=by rfl) :
 QE X ρ (.Call (.Name "sorted" p) [e] [] pos) (.own (qs.map triD)) :=
 Zf (pe_callB zJ hg hm Jy ha.u (by decide) (by decide) he rfl) fun G0 H0 G σ H Q c q=>⟨G0,H0,G,c,fun vs G1 H1 g1 i1=>by
  obtain⟨v,rfl,i2⟩:=IsL.one_of i1
  obtain⟨a,xs,rfl,h1,h2⟩:=ZB i2
  refine⟨a,ps,xs,rfl,g1.sub.seq h1,Zk g1.sub h2,hnd,h64,fun l qs' ws hl hp hr hi=>?_⟩
  have eq':qs'=qs:=by
   refine(hp.trans hp0.symm).eq_of_pairwise (fun x y hx hy h1 h2=>?_) hr hr0
   have mx:=hp.mem_iff.mp hx
   have my:=hp0.mem_iff.mp hy
   obtain⟨i,hi⟩:=List.getElem?_of_mem mx
   obtain⟨j,hj⟩:=List.getElem?_of_mem my
   have q1:(ps.map (·.1))[i]? = some x.1:=by rw[List.getElem?_map,hi];rfl
   have q2:(ps.map (·.1))[j]? = some x.1:=by rw[List.getElem?_map,hj];show some y.1=_;rw[show y.1=x.1 by omega]
   have:=JQ hnd q1 q2
   subst this
   rw[hi] at hj
   exact Option.some.inj hj
  rw[eq'] at hi
  exact q _ G1 _ (g1.trans (Grow.newOwn g1.sub hl)) ⟨l,ws,rfl,Same.dead g1.sub hl,Same.dead g1.same hl,upd_same,hi G1 h2⟩⟩
theorem jq {ns:List Int}(h64:ns.length<64)(hm:X.mg "sorted" = none)(ha:QA X ρ [e] [.lst (ns.map D.int)])(hg:Gl X "sorted" := by rfl)(he:starEach [e] X.env=[(false,eval e X.env)]:=by rfl) :
 QE X ρ (.Call (.Name "sorted" p) [e] [] pos) (.own ((sortI ns).map D.int)) :=
 Zf (pe_callB yn hg hm Jy ha.u (by decide) (by decide) he rfl) fun G0 H0 G σ H Q c q=>⟨G0,H0,G,c,fun vs G1 H1 g1 i1=>by
  obtain⟨v,rfl,i2⟩:=IsL.one_of i1
  obtain⟨a,rfl,h1⟩:=i2.lstI
  refine⟨a,ns,rfl,g1.sub.seq h1,h64,fun l ms hl hp hr=>?_⟩
  rw[sortI_one hp hr]
  exact q _ G1 _ (g1.trans (Grow.newOwn g1.sub hl)) ⟨l,_,rfl,Same.dead g1.sub hl,Same.dead g1.same hl,upd_same,IsL.ints _⟩⟩
end
section
variable {X:Cx}{ρ:Ro}{ms:List Mu}{as:List Addr}{Hs:Hp}{a b:Expr}{bl:List Stmt}{ks:List (List Stmt)}{De:Ends}{pos:Pos}{x y:Str}
theorem Z3A (i j:Nat){d1 d2:L2.D}{px py pt pt2:Pos}{kt k2:Nat}(ok:MsOk X.K ms)(ha:QA X (fillM ρ ms) [a,b] [d1,d2])(h2:RK X (Wd X.K ((ρ.set i (.dat d1)).set j (.dat d2)) ms as Hs) (bl::ks) De)(hN:X.N.Nodup)(hij:i≠j)(hmi:(ms.all fun m=>m.j != i)=true:=by rfl)(hmj:(ms.all fun m=>m.j != j)=true:=by rfl)
 (hi:X.N[i]? = some x:=by rfl) (hj:X.N[j]? = some y:=by rfl) (hx:X.env.scope.names.lookup x=some .local:=by rfl) (hy:X.env.scope.names.lookup y=some .local:=by rfl) (hc:X.calm=true:=by rfl)
 (hw:swappedStores [.Tuple [.Name x px,.Name y py] kt pt] (.Tuple [a,b] k2 pt2) X.env=pure (some [x,y]):=by rfl)
 (hs:swapsWithSole [.Tuple [.Name x px,.Name y py] kt pt] (.Tuple [a,b] k2 pt2) pos.line X.env=pure false:=by rfl) :
 RK X (Wd X.K ρ ms as Hs) ((.Assign [.Tuple [.Name x px,.Name y py] kt pt] (.Tuple [a,b] k2 pt2) pos::bl)::ks) De :=
 JN (ps_par hc hN hi hj hij hx hy ha.u hw hs) (fun σ H w D' hr hnx=>⟨H,H,H,(w.fill ok).snap,fun vs G1 H1 g1 i1=>by
  have w1:=w.mono ok g1.same
  unfold L2.IsL at i1
  obtain⟨x1,r1,rfl,k1,i1⟩:=i1
  unfold L2.IsL at i1
  obtain⟨x2,r2,rfl,k2,i1⟩:=i1
  unfold L2.IsL at i1
  subst i1
  exact⟨x1,x2,rfl,hnx _ _ ((w1.put hmi (Zb g1.sub k1)).put hmj (Zb g1.sub k2))⟩⟩) h2
end
theorem Al.unset {K:PySem.W.Frag}{H:Hp}:∀ {ρ:Ro} {σ:St} {j:Nat},Al K H ρ σ→Al K H (ρ.set j .un) σ
 | [],[],j,h=>by simpa using h
 | s::ρ,u::σ,0,h=>⟨trivial,h.2⟩
 | s::ρ,u::σ,j+1,h=>⟨h.1,Al.unset h.2⟩
theorem Z0l {X:Cx}{G0 H0 G:Hp}{ρ:Ro}{ks:List (List Stmt)}{De:Ends}(j:Nat){d:D}(h:ρ.all datS=true)(hj:ρ[j]? = some (.dat d))(h2:∀Hs v,Bs G0 H0 G Hs→Is X.K Hs d v→RK X (Wd X.K (ρ.set j .un) [muA j v d Hs] [] Hs) ks De):RK X (fun σ H=>Conf X.K G0 H0 ρ G σ H) ks De :=
 ⟨fun σ H c=>by
  have al:=Z09 h c
  obtain⟨o,e1,v,e2,i⟩:=al.get hj
  refine(h2 H v (Bs.of c) i).u σ H ⟨al.unset,fun m hm=>?_,SameX.refl _ _⟩
  rw[List.mem_singleton.mp hm]
  exact⟨by show σ[j]? = _;rw[e1,e2];rfl,Same.refl H⟩⟩
section
variable {X:Cx}{ρ:Ro}{ms:List Mu}{as:List Addr}{Hs:Hp}{c:Expr}{body bl:List Stmt}{ks:List (List Stmt)}{De:Ends}{pos:Pos}
theorem Z1V (k:Nat)(ρs:Nat→Ro)(mss:Nat→List Mu)(bv:Nat→Bool)(ok:∀i,MsOk X.K (mss i))(h0:Wk (ρs 0) ρ)(hm0:mss 0=ms)(test:∀i,i≤k→QT X (fillM (ρs i) (mss i)) c (bv i))
 (turn:∀i,i≤k→bv i=true→∀(D':Ends),D'.rt=De.rt→(∀σ H,i<k→Wd X.K (ρs (i+1)) (mss (i+1)) as Hs σ H→D'.nx σ H)→RK X (Wd X.K (ρs i) (mss i) as Hs) [body] D')
 (h2:∀i,i≤k→bv i=false→RK X (Wd X.K (ρs i) (mss i) as Hs) (bl::ks) De) (hp:PassesOwn (model X.prog X.w) X.A X.env X.xe):RK X (Wd X.K ρ ms as Hs) ((.While c body [] pos::bl)::ks) De :=
 Z16 k (fun i=>Wd X.K (ρs i) (mss i) as Hs) bv (fun i=>fillM (ρs i) (mss i)) (fun σ H w=>by subst hm0;exact w.weak h0) (fun i σ H _ w=>w.fill (ok i)) (fun i σ H H' w s=>w.mono (ok i) s) test turn h2 hp
end
section
variable {X:Cx}{ρ:Ro}{ms:List Mu}{as:List Addr}{Hs:Hp}{elt tg cd a:Expr}{pos p2 cp:Pos}{N:List Str}{scope:Scope}{bl:List Stmt}{ks:List (List Stmt)}{De:Ends}
theorem Z1W (i:Nat){n:Nat}{F:Nat→L2.D}{pp:Nat→Bool}{y:Str}{py p0:Pos}(js:List (Option Nat))(ok:MsOk X.K ms)(dis:Dis ms)(S:BlkScope N scope X.env.scope)(Z:Slots X.N N scope (sbOf js))(ha:QE X (fillM ρ ms) a (.dat (.int n)))(hn:(n:Int)<2 ^ 62)(hg:∀C fp s H,PG (X.blk N scope C fp s H) tg (gName 0))
 (test:∀i,i<n→∀C fp s H,QTs (X.blk N scope C fp s H) ((rb js (fillM ρ ms)).set 0 (.dat (.int (i:Nat)))) [cd] (pp i)) (turn:∀i,i<n→pp i=true→∀C fp s H,QE (X.blk N scope C fp s H) ((rb js (fillM ρ ms)).set 0 (.dat (.int (i:Nat)))) elt (.dat (F i)))
 (h2:∀ad,(ad∈as∨Hs ad=none)→Dis (muL X.K i ad (((List.range n).filter pp).map F)::ms)→RK X (Wd X.K (ρ.set i .un) (muL X.K i ad (((List.range n).filter pp).map F)::ms) as Hs) (bl::ks) De)
 (hl:n≤sizeLine) (hm:X.mg "range" = none) (hN:X.N.Nodup) (hln:X.N.length=ρ.length) (hmm:(ms.all fun m=>m.j != i)=true:=by rfl) (hgl:Gl X "range" := by rfl) (hsA:starEach [a] X.env=[(false,eval a X.env)]:=by rfl) (hi':X.N[i]? = some y:=by rfl) (hy:Loc X.env.scope y:=by first | exact Or.inl rfl | exact Or.inr rfl) (hc:X.calm=true:=by rfl)
 (hsw:swapsWith (.ListComp elt [⟨tg,(.Call (.Name "range" p2) [a] [] cp),[cd],0⟩] scope pos) (some (.Name y py)) p0.line X.env=pure true:=by rfl) (hs:∀x,foldedSetIterable (.Call (.Name "range" p2) [a] [] cp) X.env x=pure x:=by intro _;rfl)
 (hf:X.fn y=true∨X.env.scope.names.lookup y=some .local:=by first | exact .inl rfl | exact .inr rfl | assumption) :
 RK X (Wd X.K ρ ms as Hs) ((.Assign [.Name y py] (.ListComp elt [⟨tg,(.Call (.Name "range" p2) [a] [] cp),[cd],0⟩] scope pos) p0::bl)::ks) De :=
 JN (P':=fun σ H=>∃ad,((ad∈as∨Hs ad=none)∧Dis (muL X.K i ad (((List.range n).filter pp).map F)::ms))∧Wd X.K (ρ.set i .un) (muL X.K i ad (((List.range n).filter pp).map F)::ms) as Hs σ H)
  (yK hN hi' hy hc S Z (pi_range1 hgl hm (pa_cons ha.u pa_nil hsA) hsA) hg (fun _ _ _ _=>YB) (fun _ _ _ _=>Jm) hsw hs hf) (fun σ H w D' hr hnx =>
  lcR (fun i=>((List.range i).filter pp).map F) hn rfl (Z1t hl test turn) (w.fill ok).snap fun v G' H' g o=>by
   obtain⟨ad,xs,rfl,h0,h1,h3,h4⟩:=o
   have w1:=w.mono ok g.same
   refine hnx _ _ ⟨ad,⟨Z2C w h1,List.pairwise_cons.mpr ⟨Dis.new ok w (fun b e=>(show b=ad from e)▸h1) (fun b e=>(Option.some.inj (show some ad=some b from e)).symm),dis⟩⟩,w1.al.putU,fun m hm'=>?_,w1.fr⟩
   rcases List.mem_cons.mp hm' with z | z
   · subst z
     refine⟨List.getElem?_set_self ?_,xs,h3,Zk g.sub h4⟩
     rw[w.al.len,←hln]
     exact(List.getElem?_eq_some_iff.mp hi').1
   · exact zt hmm w1.at_ m z) (jZ fun a q=>h2 a q.1 q.2)
end
theorem Z0b {X:Cx}{ρ:Ro}{ms:List Mu}{as:List Addr}{Hs:Hp}{e:Expr}{es:List Expr}{A:List V→Hp→Prop}{f:Str}{k:Nat}{ps:List Str}{bl:List Stmt}{ks:List (List Stmt)}{De:Ends}{pos p fp:Pos}{pre:List V→Hp→(V→Hp→Prop)→Prop}(c:FnR X.prog X.w X.K X.mg X.base k f ps pre)(hr:Room k X.A)(ok:MsOk X.K ms)(ha:WA X ρ ms as Hs (e::es) A)
 (step:∀σ H vs,Wd X.K ρ ms as Hs σ H→A vs H→∃R,pre vs H R∧∀v H',R v H'→De.rt v H')
 (hg:Gl X f:=by rfl) (hdb:(f==("__debug__" : Str))=false:=by decide) (he:starEach (e::es) X.env=(false,eval e X.env)::starEach es X.env:=by rfl) (hpl:(backTo pos (starEach es X.env)).any (·.1)=false:=by rfl) :
 RK X (Wd X.K ρ ms as Hs) ((.Return (some (.Call (.Name f fp) (e::es) [] pos)) p::bl)::ks) De:=by
 obtain⟨te,hte,q⟩:=Z0d (P':=fun v _ H'=>De.rt v H') (fp:=fp) c hr ok ha step hg hdb he hpl
 exact Z21 hte fun σ H w=>q σ H w _ fun v H' z=>z
end L2.L3
namespace K31
open PySem L2 L2.L3
def top (i:Nat):Stmt:=PySem.Challenge.pw_cupdraw_k31_contests_not_due.main.body.getD i (.Pass ⟨0,0,0,0⟩)
abbrev s__wall:Stmt:=top 0
abbrev s_is_whole:Stmt:=top 14
theorem sc_is_whole:FnScope ["thing"] ["thing"] (defScope s_is_whole):=⟨rfl,rfl,rfl,by decide +kernel,rfl,by decide +kernel,by decide +kernel⟩
abbrev s_is_between:Stmt:=top 15
theorem sc_is_between:FnScope ["thing", "least", "most"] ["thing", "least", "most"] (defScope s_is_between):=⟨rfl,rfl,rfl,by decide +kernel,rfl,by decide +kernel,by decide +kernel⟩
abbrev s_checked_size:Stmt:=top 17
theorem sc_checked_size:FnScope ["thing", "least", "most"] ["thing", "least", "most"] (defScope s_checked_size):=⟨rfl,rfl,rfl,by decide +kernel,rfl,by decide +kernel,by decide +kernel⟩
abbrev s_doubled:Stmt:=top 21
theorem sc_doubled:FnScope ["numbers", "wider", "number"] ["numbers"] (defScope s_doubled):=⟨rfl,rfl,rfl,by decide +kernel,rfl,by decide +kernel,by decide +kernel⟩
abbrev s_slots_of:Stmt:=top 22
theorem sc_slots_of:FnScope ["n", "numbers"] ["n"] (defScope s_slots_of):=⟨rfl,rfl,rfl,by decide +kernel,rfl,by decide +kernel,by decide +kernel⟩
abbrev s_neighbours:Stmt:=top 24
theorem sc_neighbours:FnScope ["sides"] ["sides"] (defScope s_neighbours):=⟨rfl,rfl,rfl,by decide +kernel,rfl,by decide +kernel,by decide +kernel⟩
abbrev s_contests_between:Stmt:=top 25
theorem sc_contests_between:FnScope ["sides"] ["sides"] (defScope s_contests_between):=⟨rfl,rfl,rfl,by decide +kernel,rfl,by decide +kernel,by decide +kernel⟩
abbrev s_joined:Stmt:=top 26
theorem sc_joined:FnScope ["sides"] ["sides"] (defScope s_joined):=⟨rfl,rfl,rfl,by decide +kernel,rfl,by decide +kernel,by decide +kernel⟩
abbrev s__law_drawn:Stmt:=top 29
theorem sc__law_drawn:FnScope ["_law_script", "_law_k", "_law_size", "_law_number"] ["_law_script", "_law_k", "_law_size"] (defScope s__law_drawn):=⟨rfl,rfl,rfl,by decide +kernel,rfl,by decide +kernel,by decide +kernel⟩
abbrev s__law_whole:Stmt:=top 30
theorem sc__law_whole:FnScope ["_law_found"] ["_law_found"] (defScope s__law_whole):=⟨rfl,rfl,rfl,by decide +kernel,rfl,by decide +kernel,by decide +kernel⟩
abbrev s__law_slots:Stmt:=top 31
theorem sc__law_slots:FnScope ["_law_n", "_law_slots_here", "_law_size"] ["_law_n"] (defScope s__law_slots):=⟨rfl,rfl,rfl,by decide +kernel,rfl,by decide +kernel,by decide +kernel⟩
abbrev s__law_over:Stmt:=top 32
theorem sc__law_over:FnScope ["_law_slots_here", "_law_beaten", "_law_low", "_law_size", "_law_half", "_law_one", "_law_other"] ["_law_slots_here", "_law_beaten", "_law_low", "_law_size"] (defScope s__law_over):=⟨rfl,rfl,rfl,by decide +kernel,rfl,by decide +kernel,by decide +kernel⟩
abbrev s__law_due:Stmt:=top 33
theorem sc__law_due:FnScope ["_law_slots_here", "_law_beaten", "_law_found", "_law_half", "_law_low", "_law_one", "_law_other", "_law_both"] ["_law_slots_here", "_law_beaten"] (defScope s__law_due):=⟨rfl,rfl,rfl,by decide +kernel,rfl,by decide +kernel,by decide +kernel⟩
abbrev s__law_refused:Stmt:=top 34
theorem sc__law_refused:FnScope ["_law_tree", "_law_winner", "_law_loser", "_law_kept", "e"] ["_law_tree", "_law_winner", "_law_loser"] (defScope s__law_refused):=⟨rfl,rfl,rfl,by decide +kernel,rfl,by decide +kernel,by decide +kernel⟩
abbrev s__law_no_tree:Stmt:=top 35
theorem sc__law_no_tree:FnScope ["_law_n", "_law_kept", "e"] ["_law_n"] (defScope s__law_no_tree):=⟨rfl,rfl,rfl,by decide +kernel,rfl,by decide +kernel,by decide +kernel⟩
abbrev s__law_told:Stmt:=top 36
theorem sc__law_told:FnScope ["_law_tree", "_law_n"] ["_law_tree", "_law_n"] (defScope s__law_told):=⟨rfl,rfl,rfl,by decide +kernel,rfl,by decide +kernel,by decide +kernel⟩
abbrev s__law_thing:Stmt:=top 37
theorem sc__law_thing:FnScope ["_law_script", "_law_k", "_law_n", "_law_far", "_law_odd"] ["_law_script", "_law_k", "_law_n"] (defScope s__law_thing):=⟨rfl,rfl,rfl,by decide +kernel,rfl,by decide +kernel,by decide +kernel⟩
abbrev s__law_alike_due:Stmt:=top 38
theorem sc__law_alike_due:FnScope ["_law_winner", "_law_loser", "_law_due_here"] ["_law_winner", "_law_loser", "_law_due_here"] (defScope s__law_alike_due):=⟨rfl,rfl,rfl,by decide +kernel,rfl,by decide +kernel,by decide +kernel⟩
abbrev s__law_begun:Stmt:=top 39
theorem sc__law_begun:FnScope ["_law_script", "_law_tree", "_law_n", "_law_beaten", "_law_k", "_law_due_here", "_law_pair", "_law_won"] ["_law_script", "_law_tree", "_law_n", "_law_beaten"] (defScope s__law_begun):=⟨rfl,rfl,rfl,by decide +kernel,rfl,by decide +kernel,by decide +kernel⟩
abbrev s__law_until_they_meet:Stmt:=top 40
theorem sc__law_until_they_meet:FnScope ["_law_tree", "_law_n", "_law_beaten", "_law_one", "_law_other", "_law_due_here", "_law_winner", "_law_loser"] ["_law_tree", "_law_n", "_law_beaten", "_law_one", "_law_other"] (defScope s__law_until_they_meet):=⟨rfl,rfl,rfl,by decide +kernel,rfl,by decide +kernel,by decide +kernel⟩
abbrev s_law:Stmt:=top 41
theorem sc_law:FnScope ["_law_script", "_law_n", "_law_tree", "_law_beaten", "_law_before", "_law_far", "_law_wrong", "_law_k", "_law_winner", "_law_loser", "_law_left", "_law_one"] ["_law_script"] (defScope s_law):=⟨rfl,rfl,rfl,by decide +kernel,rfl,by decide +kernel,by decide +kernel⟩
abbrev Yu:Addr:=232
abbrev Yh:Addr:=230
def tabs:Addr→Option Str:=fun a=>if a=Yh then some "Tree.due.<locals>.<lambda>" else none
abbrev s_Tree_is_left:Stmt:=inClass (top 27) 1
theorem sc_Tree_is_left:FnScope ["self", "player"] ["self", "player"] (defScope s_Tree_is_left):=⟨rfl,rfl,rfl,by decide +kernel,rfl,by decide +kernel,by decide +kernel⟩
abbrev s_Tree_beaten_by:Stmt:=inClass (top 27) 6
theorem sc_Tree_beaten_by:FnScope ["self", "player"] ["self", "player"] (defScope s_Tree_beaten_by):=⟨rfl,rfl,rfl,by decide +kernel,rfl,by decide +kernel,by decide +kernel⟩
abbrev s_Tree_left:Stmt:=inClass (top 27) 5
theorem sc_Tree_left:FnScope ["self"] ["self"] (defScope s_Tree_left):=⟨rfl,rfl,rfl,by decide +kernel,rfl,by decide +kernel,by decide +kernel⟩
abbrev s_Tree_due:Stmt:=inClass (top 27) 2
theorem sc_Tree_due:FnScope ["self", "sides", "pairs"] ["self"] (defScope s_Tree_due):=⟨rfl,rfl,rfl,by decide +kernel,rfl,by decide +kernel,by decide +kernel⟩
abbrev s_Tree_is_due:Stmt:=inClass (top 27) 3
theorem sc_Tree_is_due:FnScope ["self", "one", "other", "pairs"] ["self", "one", "other"] (defScope s_Tree_is_due):=⟨rfl,rfl,rfl,by decide +kernel,rfl,by decide +kernel,by decide +kernel⟩
abbrev s_Tree_told:Stmt:=inClass (top 27) 4
theorem sc_Tree_told:FnScope ["self", "winner", "loser"] ["self", "winner", "loser"] (defScope s_Tree_told):=⟨rfl,rfl,rfl,by decide +kernel,rfl,by decide +kernel,by decide +kernel⟩
abbrev s_Tree_init:Stmt:=inClass (top 27) 0
theorem sc_Tree_init:FnScope ["self", "n"] ["self", "n"] (defScope s_Tree_init):=⟨rfl,rfl,rfl,by decide +kernel,rfl,by decide +kernel,by decide +kernel⟩
structure Adr where
 CupError:Addr
 NoGame:Addr
 NoRule:Addr
 NoSize:Addr
 NotDue:Addr
 NoPairing:Addr
 Uneven:Addr
 NoNumber:Addr
 NoText:Addr
 NoRow:Addr
 NoName:Addr
 Tree:Addr
structure Txt (K:PySem.W.Frag)(mg:Str→Option Value)(t:Adr):Prop where
 d__wall:Def K mg "_wall" s__wall
 d_is_whole:Def K mg "is_whole" s_is_whole
 d_is_between:Def K mg "is_between" s_is_between
 d_checked_size:Def K mg "checked_size" s_checked_size
 d_doubled:Def K mg "doubled" s_doubled
 d_slots_of:Def K mg "slots_of" s_slots_of
 d_neighbours:Def K mg "neighbours" s_neighbours
 d_contests_between:Def K mg "contests_between" s_contests_between
 d_joined:Def K mg "joined" s_joined
 d__law_drawn:Def K mg "_law_drawn" s__law_drawn
 d__law_whole:Def K mg "_law_whole" s__law_whole
 d__law_slots:Def K mg "_law_slots" s__law_slots
 d__law_over:Def K mg "_law_over" s__law_over
 d__law_due:Def K mg "_law_due" s__law_due
 d__law_refused:Def K mg "_law_refused" s__law_refused
 d__law_no_tree:Def K mg "_law_no_tree" s__law_no_tree
 d__law_told:Def K mg "_law_told" s__law_told
 d__law_thing:Def K mg "_law_thing" s__law_thing
 d__law_alike_due:Def K mg "_law_alike_due" s__law_alike_due
 d__law_begun:Def K mg "_law_begun" s__law_begun
 d__law_until_they_meet:Def K mg "_law_until_they_meet" s__law_until_they_meet
 d_law:Def K mg "law" s_law
 b_ValueError:mg "ValueError" = none
 b_bool:mg "bool" = none
 b_int:mg "int" = none
 b_isinstance:mg "isinstance" = none
 b_len:mg "len" = none
 b_list:mg "list" = none
 b_range:mg "range" = none
 b_sorted:mg "sorted" = none
 b_sum:mg "sum" = none
 c_LEAST_PLAYERS:∃t,mg "LEAST_PLAYERS" = some (.int 1 t)
 c_MOST_PLAYERS:∃t,mg "MOST_PLAYERS" = some (.int 16 t)
 x_CupError:mg "CupError" = some (.ref t.CupError)
 x_NoGame:mg "NoGame" = some (.ref t.NoGame)
 x_NoRule:mg "NoRule" = some (.ref t.NoRule)
 x_NoSize:mg "NoSize" = some (.ref t.NoSize)
 x_NotDue:mg "NotDue" = some (.ref t.NotDue)
 x_NoPairing:mg "NoPairing" = some (.ref t.NoPairing)
 x_Uneven:mg "Uneven" = some (.ref t.Uneven)
 x_NoNumber:mg "NoNumber" = some (.ref t.NoNumber)
 x_NoText:mg "NoText" = some (.ref t.NoText)
 x_NoRow:mg "NoRow" = some (.ref t.NoRow)
 x_NoName:mg "NoName" = some (.ref t.NoName)
 x_Tree:mg "Tree" = some (.ref t.Tree)
 cl_Tree:Cls K t.Tree
 i_Tree:IDef K t.Tree "Tree.__init__" s_Tree_init
 na_Tree_slots:NoAttr K t.Tree "slots"
 na_Tree_winners:NoAttr K t.Tree "winners"
 m_Tree_is_left:MDef K t.Tree "is_left" "Tree.is_left" s_Tree_is_left
 m_Tree_beaten_by:MDef K t.Tree "beaten_by" "Tree.beaten_by" s_Tree_beaten_by
 m_Tree_left:MDef K t.Tree "left" "Tree.left" s_Tree_left
 m_Tree_due:MDefC K t.Tree "due" "Tree.due" s_Tree_due Yu Yh
 m_Tree_is_due:MDef K t.Tree "is_due" "Tree.is_due" s_Tree_is_due
 m_Tree_told:MDef K t.Tree "told" "Tree.told" s_Tree_told
 xc_NotDue:XCls K t.NotDue
 xk_NotDue:XKit K t.NotDue
 ki_NotDue_CupError:PySem.W.kitOne K (.ref t.NotDue) (.ref t.CupError)=some true
 ki_NotDue_NoGame:PySem.W.kitOne K (.ref t.NotDue) (.ref t.NoGame)=some false
 ki_NotDue_NoRule:PySem.W.kitOne K (.ref t.NotDue) (.ref t.NoRule)=some false
 ki_NotDue_NoSize:PySem.W.kitOne K (.ref t.NotDue) (.ref t.NoSize)=some false
 ki_NotDue_NotDue:PySem.W.kitOne K (.ref t.NotDue) (.ref t.NotDue)=some true
 ki_NotDue_NoPairing:PySem.W.kitOne K (.ref t.NotDue) (.ref t.NoPairing)=some false
 ki_NotDue_Uneven:PySem.W.kitOne K (.ref t.NotDue) (.ref t.Uneven)=some false
 ki_NotDue_NoNumber:PySem.W.kitOne K (.ref t.NotDue) (.ref t.NoNumber)=some false
 ki_NotDue_NoText:PySem.W.kitOne K (.ref t.NotDue) (.ref t.NoText)=some false
 ki_NotDue_NoRow:PySem.W.kitOne K (.ref t.NotDue) (.ref t.NoRow)=some false
 ki_NotDue_NoName:PySem.W.kitOne K (.ref t.NotDue) (.ref t.NoName)=some false
 ki_NotDue_ValueError:PySem.W.kitOne K (.ref t.NotDue) (.type "ValueError")=some true
 ex_NotDue_NotDue:PySem.W.exmOne K (.ref t.NotDue) (.ref t.NotDue)=some true
 ex_NotDue_CupError:PySem.W.exmOne K (.ref t.NotDue) (.ref t.CupError)=some true
 xc_NoSize:XCls K t.NoSize
 xk_NoSize:XKit K t.NoSize
 ki_NoSize_CupError:PySem.W.kitOne K (.ref t.NoSize) (.ref t.CupError)=some true
 ki_NoSize_NoGame:PySem.W.kitOne K (.ref t.NoSize) (.ref t.NoGame)=some false
 ki_NoSize_NoRule:PySem.W.kitOne K (.ref t.NoSize) (.ref t.NoRule)=some false
 ki_NoSize_NoSize:PySem.W.kitOne K (.ref t.NoSize) (.ref t.NoSize)=some true
 ki_NoSize_NotDue:PySem.W.kitOne K (.ref t.NoSize) (.ref t.NotDue)=some false
 ki_NoSize_NoPairing:PySem.W.kitOne K (.ref t.NoSize) (.ref t.NoPairing)=some false
 ki_NoSize_Uneven:PySem.W.kitOne K (.ref t.NoSize) (.ref t.Uneven)=some false
 ki_NoSize_NoNumber:PySem.W.kitOne K (.ref t.NoSize) (.ref t.NoNumber)=some false
 ki_NoSize_NoText:PySem.W.kitOne K (.ref t.NoSize) (.ref t.NoText)=some false
 ki_NoSize_NoRow:PySem.W.kitOne K (.ref t.NoSize) (.ref t.NoRow)=some false
 ki_NoSize_NoName:PySem.W.kitOne K (.ref t.NoSize) (.ref t.NoName)=some false
 ki_NoSize_ValueError:PySem.W.kitOne K (.ref t.NoSize) (.type "ValueError")=some true
 ex_NoSize_NoSize:PySem.W.exmOne K (.ref t.NoSize) (.ref t.NoSize)=some true
 ex_NoSize_CupError:PySem.W.exmOne K (.ref t.NoSize) (.ref t.CupError)=some true
def btw (lo hi:Int):D→Bool
 | .int i=>decide (lo≤i)&&decide (i≤hi)
 | _=>false
def oD:Option Int→D
 | none=>.non
 | some i=>.int i
def lev (n:Nat):Nat:=if n≤1 then 0 else if n≤2 then 1 else if n≤4 then 2 else if n≤8 then 3 else 4
def row:Nat→List Int
 | 0=>[0]
 | k+1=>(row k).flatMap fun s=>[s,2*(row k).length-1-s]
def slots (n:Nat):List (Option Int):=(row (lev n)).map fun s=>if s<(n:Int) then some s else none
theorem Js:∀n∈List.range 17,1≤n→(∀i∈List.range (lev n),(row i).length<n)∧n≤(row (lev n)).length∧(row (lev n)).length≤16∧∀i∈List.range (lev n),(row i).length≤16:=by decide +kernel
theorem jA:∀i,0<(row i).length
 | 0=>by decide
 | i+1=>by
  have:=jA i
  unfold row
  cases h:row i with
  | nil=>rw[h] at this;cases this
  | cons a l=>rw[List.flatMap_cons];simp
abbrev Kv2:=List (Int × Int)
def keysT (kvs:Kv2):List Key:=kvs.map fun q=>.inl q.1
def valsT (kvs:Kv2):List D:=kvs.map fun q=>.int q.2
def outB (kvs:Kv2)(i:Int):Bool:=kvs.any fun q=>q.1==i
def byT:Kv2→Int→Option Int
 | [],_=>none
 | q::l,i=>if q.1=i then some q.2 else byT l i
def leftO (kvs:Kv2):Option Int→Bool
 | none=>false
 | some i=>!outB kvs i
theorem Yz (kvs:Kv2)(i:Int):(byT kvs i).isSome=outB kvs i:=by
 induction kvs with
 | nil=>rfl
 | cons q l ih =>
  unfold byT outB
  rw[List.any_cons]
  by_cases h:q.1=i
  · rw[if_pos h,h];simp
  · rw[if_neg h]
    have:(q.1==i)=false:=by simpa using h
    rw[this,Bool.false_or];exact ih
theorem valT (kvs:Kv2)(i:Int):valG ((keysT kvs).zip (valsT kvs)) (.inl i)=(byT kvs i).map D.int:=by
 induction kvs with
 | nil=>rfl
 | cons q l ih =>
  show valG ((.inl q.1,.int q.2)::(keysT l).zip (valsT l)) (.inl i)=_
  unfold byT
  by_cases h:q.1=i
  · rw[if_pos h,yw (by rw[h])];rfl
  · rw[if_neg h,yx (fun z=>h (Sum.inl.inj z)),ih]
def leftL (n:Nat)(kvs:Kv2):List Int:=(slots n).filterMap fun o=>if leftO kvs o then o else none
theorem J8 (kvs:Kv2):∀l:List (Option Int),(l.filter (leftO kvs)).map oD=(l.filterMap fun o=>if leftO kvs o then o else none).map D.int
 | []=>rfl
 | none::l=>by
  rw[List.filter_cons_of_neg (by simp[leftO]),List.filterMap_cons_none (by simp[leftO])]
  exact J8 kvs l
 | some i::l=>by
  by_cases h:leftO kvs (some i)=true
  · rw[List.filter_cons_of_pos h,List.filterMap_cons_some (b:=i) (by rw[if_pos h]),List.map_cons,List.map_cons,J8 kvs l];rfl
  · rw[List.filter_cons_of_neg h,List.filterMap_cons_none (by rw[if_neg h])]
    exact J8 kvs l
theorem zR {n:Nat}(h1:1≤n)(h2:n≤16):(slots n).length≤16:=by
 unfold slots
 rw[List.length_map]
 exact(Js n (List.mem_range.mpr (by omega)) h1).2.2.1
def champO (n:Nat)(kvs:Kv2):Option Int:=match sortI (leftL n kvs) with
 | [i]=>some i
 | _=>none
def sdD (l:List Int):D:=.lst (l.map D.int)
def pairUp:List (List Int)→List (List Int × List Int)
 | a::b::r=>(a,b)::pairUp r
 | _=>[]
theorem ZD:∀ {m:Nat} {ss:List (List Int)},ss.length=2*m→(pairUp ss).length=m
 | 0,[],_=>rfl
 | 0,_::_,h=>by simp at h
 | m+1,[],h=>by simp at h
 | m+1,[_],h=>by simp at h;omega
 | m+1,a::b::r,h=>by
  unfold pairUp
  rw[List.length_cons,ZD (m:=m) (by simp only[List.length_cons] at h;omega)]
theorem Jn:∀ {ss:List (List Int)} {i:Nat} {q:List Int × List Int},(pairUp ss)[i]? = some q→ss[2*i]? = some q.1∧ss[2*i+1]? = some q.2
 | [],i,q,h=>by simp[pairUp] at h
 | [_],i,q,h=>by simp[pairUp] at h
 | a::b::r,0,q,h=>by
  unfold pairUp at h
  have:(a,b)=q:=by simpa using h
  subst this;exact⟨rfl,rfl⟩
 | a::b::r,i+1,q,h=>by
  unfold pairUp at h
  obtain⟨h1,h2⟩:=Jn (ss:=r) (i:=i) (by simpa using h)
  exact⟨by rw[show 2*(i+1)=2*i+1+1 by omega];simpa using h1,by rw[show 2*(i+1)+1=2*i+1+1+1 by omega];simpa using h2⟩
def bothOne (q:List Int × List Int):Bool:=decide (q.1.length=1)&&decide (q.2.length=1)
def meetD (q:List Int × List Int):D:=.tup [.int (q.1.headD 0),.int (q.2.headD 0)]
def nbD (q:List Int × List Int):D:=.tup [sdD q.1,sdD q.2]
theorem Z1q {m:Nat}{ss:List (List Int)}(h:ss.length=2*m):(List.range m).map (fun i=>nbD ((pairUp ss).getD i ([],[])))=(pairUp ss).map nbD:=by
 refine List.ext_getElem (by simp[ZD h]) fun i h1 h2=>?_
 rw[List.length_map] at h2
 simp[List.getD,List.getElem?_eq_getElem h2]
section
variable {P:Program}{w:World}{K:PySem.W.Frag}{mg:Str→Option Value}{base:Heap}{t:Adr}
def pre_is_whole (ds:List D)(r:R):Prop:=∃d,plD d=true∧ds=[d]∧r=.dat (.bl (isW d))
theorem ok_is_whole (T:Txt K mg t):Fn P w K mg base 1 "is_whole" ["thing"] pre_is_whole:=by
 refine ZO T.d_is_whole sc_is_whole (fun _ _ _ _ _ _ us hl=>match us,hl with | [_],_=>rfl) (by rintro _ _ ⟨d,_,rfl,rfl⟩;rfl) ?_
 rintro _ f cdv A outer s H E rfl hr _ _ ⟨d,hp,rfl,rfl⟩
 refine Zd (Zy (Jk T.b_isinstance T.b_int Zp jj (Z0 0 rfl) (jM hp) (yr hp)) fun _=>(Yd (zg (Jk T.b_isinstance T.b_bool Zp jS (Z0 0 rfl) (j4 hp) (yr hp))))) ?_
 cases d <;> rfl
def pre_is_between (ds:List D)(r:R):Prop:=∃d lo hi,plD d=true∧ds=[d,.int lo,.int hi]∧r=.dat (.bl (btw lo hi d))
theorem ok_is_between (T:Txt K mg t)(G_is_whole:Fn P w K mg base 1 "is_whole" ["thing"] pre_is_whole):Fn P w K mg base 2 "is_between" ["thing", "least", "most"] pre_is_between:=by
 refine ZO T.d_is_between sc_is_between (fun _ _ _ _ _ _ us hl=>match us,hl with | [_,_,_],_=>rfl) (by rintro _ _ ⟨d,lo,hi,_,rfl,rfl⟩;rfl) ?_
 rintro _ f cdv A outer s H E rfl hr _ _ ⟨d,lo,hi,hp,rfl,rfl⟩
 refine Zd (Zy (b2:=btw lo hi d) (Zc G_is_whole (hr.mono (by decide)) (Z1 (Z0 0 rfl) Z2) ⟨d,hp,rfl,rfl⟩) ?_) ?_
 · intro hw
   obtain⟨i,rfl⟩:=YO hw
   exact Yd (Z1i op_le op_le (Z0 1 rfl) (Z0 0 rfl) (Z0 2 rfl))
 · cases d <;> first | rfl | simp[isW,btw]
def pre_checked_size (ds:List D)(r:R):Prop:=∃i lo hi:Int,lo≤i∧i≤hi∧ds=[.int i,.int lo,.int hi]∧r=.dat (.int i)
def preX_checked_size (t:Adr)(ds:List D)(C:Addr):Prop:=∃d lo hi,plD d=true∧btw lo hi d=false∧(lo=1∧hi=16)∧ds=[d,.int lo,.int hi]∧C=t.NoSize
theorem ok_checked_size (T:Txt K mg t)(G_is_between:Fn P w K mg base 2 "is_between" ["thing", "least", "most"] pre_is_between):FnX P w K mg base 3 "checked_size" ["thing", "least", "most"] pre_checked_size (preX_checked_size t):=by
 refine Z0S T.d_checked_size sc_checked_size (fun _ _ _ _ _ _ us hl=>match us,hl with | [_,_,_],_=>rfl) (by rintro _ _ ⟨i,lo,hi,_,_,rfl,rfl⟩;rfl) (by rintro _ _ ⟨d,lo,hi,_,_,_,rfl,rfl⟩;rfl) ?_ ?_
 · rintro _ f cdv A outer s H E rfl hr _ _ ⟨i,lo,hi,h1,h2,rfl,rfl⟩
   have e:btw lo hi (.int i)=true:=by simp[btw,h1,h2]
   refine Zr (Zm (Z7 (Zg (Zc G_is_between (hr.mono (by decide)) (Z1 (Z0 0 rfl) (Z1 (Z0 1 rfl) (Z1 (Z0 2 rfl) Z2))) ⟨.int i,lo,hi,rfl,rfl,rfl⟩)) e)) (fun z=>nomatch z) (fun _=>Ze ?_)
   exact Zd (Z0 0 rfl) rfl
 · rintro _ f cdv A outer s H E E2 rfl hr xm xf _ _ ⟨d,lo,hi,hp,hb,hl,rfl,rfl⟩
   refine⟨start0 ["thing", "least", "most"] [d,.int lo,.int hi],?_⟩
   refine Zr (Zm (Z7 (Zg (Zc G_is_between (hr.mono (by decide)) (Z1 (Z0 0 rfl) (Z1 (Z0 1 rfl) (Z1 (Z0 2 rfl) Z2))) ⟨d,lo,hi,hp,rfl,rfl⟩)) hb)) (fun _=>?_) (fun z=>nomatch z)
   obtain⟨rfl,rfl⟩:=hl
   exact zd (yG xm T.xc_NoSize T.x_NoSize (Z1 (Z2i (yH (Z0r (Z0 1 rfl) (yH (Z0r (Z0 2 rfl) (yH Z35))))) (by decide +kernel)) Z2) (by decide))
def dbl (l:List Int):List Int:=l.flatMap fun s=>[s,2*(l.length:Int)-1-s]
theorem yB (i:Nat):row (i+1)=dbl (row i):=rfl
theorem Z1C (l:List Int)(c:Int):(l.flatMap fun s=>[s,c-s]).length=2*l.length:=by
 induction l with
 | nil=>rfl
 | cons a q ih=>rw[List.flatMap_cons,List.length_append,ih];simp only[List.length_cons,List.length_nil];omega
def pre_doubled (ds:List D)(r:R):Prop:=∃l:List Int,l.length≤16∧ds=[.lst (l.map D.int)]∧r=.own ((dbl l).map D.int)
theorem ok_doubled (T:Txt K mg t):Fn P w K mg base 1 "doubled" ["numbers"] pre_doubled:=by
 refine ZO T.d_doubled sc_doubled (fun _ _ _ _ _ _ us hl=>match us,hl with | [_],_=>rfl) (by rintro _ _ ⟨l,_,rfl,rfl⟩;rfl) ?_
 rintro _ f cdv A outer s H E rfl hr _ _ ⟨l,hl,rfl,rfl⟩
 refine Z4 (Zh 1 (ZA Z2) sc_doubled.nd) ?_
 refine Z4 (Z2a 2 (ds:=l.map D.int) (fun i=>[.dat (.lst (l.map D.int)),.own (((l.take i).flatMap fun s=>[s,2*(l.length:Int)-1-s]).map D.int),.un]) (Z0 0 rfl) ⟨.inr rfl,.inr rfl,.inl rfl,True.intro⟩ (fun i d hd=>?_) sc_doubled.nd PassesOwn.never) ?_
 · obtain⟨z,hz,rfl⟩:=Y5 hd
   refine Z4 (zU 1 (es:=[.int z,.int (2*(l.length:Int)-1-z)]) rfl (Z5 (ZA (Z1 (Z0 2 rfl) (Z1 (Z6 op_sub Zo (Z6 op_sub Zo (Z6 op_mul (ZT (.inl ⟨by decide,by decide⟩)) Z3 (Zj call_len_seq (Zu rfl) T.b_len Zv (Z1 (Z0 0 rfl) Z2))) Z3) (Z0 2 rfl)) Z2))) (by rw[List.length_map];rfl)) ?_) ?_
   · rw[List.length_map,Z1C,List.length_take]
     exact Nat.le_trans (show 2*min i l.length+2≤40 by omega) (by decide)
   · refine Ze (ZK ⟨.inr rfl,.inr ?_,.inl rfl,True.intro⟩)
     rw[List.take_add_one,hz]
     simp[R.d]
 · refine Z1J (Z28 1 ?_)
   rw[List.length_map,List.take_length];rfl
def pre_slots_of (ds:List D)(r:R):Prop:=∃n:Nat,1≤n∧n≤16∧ds=[.int n]∧r=.own ((slots n).map oD)
def preX_slots_of (t:Adr)(ds:List D)(C:Addr):Prop:=∃d,plD d=true∧btw 1 16 d=false∧ds=[d]∧C=t.NoSize
theorem ok_slots_of (T:Txt K mg t)(G_checked_size:FnX P w K mg base 3 "checked_size" ["thing", "least", "most"] pre_checked_size (preX_checked_size t))(G_doubled:Fn P w K mg base 1 "doubled" ["numbers"] pre_doubled):FnX P w K mg base 4 "slots_of" ["n"] pre_slots_of (preX_slots_of t):=by
 refine Z0S T.d_slots_of sc_slots_of (fun _ _ _ _ _ _ us hl=>match us,hl with | [_],_=>rfl) (by rintro _ _ ⟨n,_,_,rfl,rfl⟩;rfl) (by rintro _ _ ⟨d,_,_,rfl,rfl⟩;rfl) ?_ ?_
 · rintro _ f cdv A outer s H E rfl hr _ _ ⟨n,hn1,hn2,rfl,rfl⟩
   obtain⟨hf,hend,hle,hfl⟩:=Js n (List.mem_range.mpr (by omega)) hn1
   refine Z4 (Z2b (Z0x G_checked_size (hr.mono (by decide)) (Z1 (Z0 0 rfl) (Z1 (YZ T.c_LEAST_PLAYERS) (Z1 (YZ T.c_MOST_PLAYERS) Z2))) ⟨n,1,16,by omega,by omega,rfl,rfl⟩)) ?_
   refine Z4 (Zh 1 (ZA (Z1 Z3 Z2)) sc_slots_of.nd) ?_
   refine Y8 1 rfl ?_
   refine Z4 (YX (lev n) (fun i=>[.dat (.int n),.dat (.lst ((row i).map D.int))]) ⟨.inr rfl,.inr rfl,True.intro⟩ (fun i hi=>?_) ?_ (fun i hi=>?_) PassesOwn.never) ?_
   · have h1:=hf i (List.mem_range.mpr hi)
     refine Z7 (Zi op_lt Y3 (Zj call_len_seq (Zu rfl) T.b_len Zv (Z1 (Z0 1 rfl) Z2)) (Z0 0 rfl) (nomark _)) ?_
     rw[List.length_map];exact decide_eq_true (by omega)
   · refine Z7 (Zi op_lt Y3 (Zj call_len_seq (Zu rfl) T.b_len Zv (Z1 (Z0 1 rfl) Z2)) (Z0 0 rfl) (nomark _)) ?_
     rw[List.length_map];exact decide_eq_false (by omega)
   · have h1:=hfl i (List.mem_range.mpr hi)
     rw[yB]
     refine Z4 (Zh 1 (Zc G_doubled (hr.mono (by decide)) (Z1 (Z0 1 rfl) Z2) ⟨row i,h1,rfl,rfl⟩) sc_slots_of.nd) ?_
     refine Y8 1 rfl ?_
     exact Ze (ZK ⟨.inr rfl,.inr rfl,True.intro⟩)
   · refine Zd (zC (N:=["number", "n"]) (gl:=row (lev n)) (f:=D.int) (F:=fun z=>oD (if z<(n:Int) then some z else none)) [none,some 0] (ZZ (out':=defScope s_slots_of) rfl ⟨rfl,by decide +kernel,by decide +kernel,by decide +kernel,by decide +kernel,rfl⟩) (ZI (N0:=["n", "numbers"]) rfl (ZH (by decide +kernel))) (Z0 1 rfl) (fun C fp s H=>pg_name (i:=0) (show List.Nodup (["number", "n"]:List Str) by decide +kernel) rfl (Or.inl rfl)) (fun z hg C fp s H=>Z3G (Zi op_lt Y3 (Z0 0 rfl) (Z0 1 rfl) (nomark _)) (fun q=>Z5 (Z0 0 rfl) (by rw[if_pos (of_decide_eq_true q)];rfl)) (fun q=>Z5 Zt (by rw[if_neg (of_decide_eq_false q)];rfl))) (Nat.le_trans hle (by decide))) ?_
     unfold slots
     rw[List.map_map];rfl
 · rintro _ f cdv A outer s H E E2 rfl hr xm xf _ _ ⟨d,hp,hb,rfl,rfl⟩
   exact⟨start0 ["n", "numbers"] [d],zd (JP (Z0o G_checked_size xf (hr.mono (by decide)) (Z1 (Z0 0 rfl) (Z1 (YZ T.c_LEAST_PLAYERS) (Z1 (YZ T.c_MOST_PLAYERS) Z2))) ⟨d,1,16,hp,hb,⟨rfl,rfl⟩,rfl,rfl⟩))⟩
end
section
variable {P:Program}{w:World}{K:PySem.W.Frag}{mg:Str→Option Value}{base:Heap}
def treeD (t:Adr)(n:Nat)(kvs:Kv2):D:=.obj t.Tree ["slots", "winners"] [.lst ((slots n).map oD),.dct (keysT kvs) (valsT kvs)]
def pre_Tree_is_left (t:Adr)(ds:List D)(r:R):Prop:=∃(n:Nat) (kvs:Kv2) (o:Option Int),ds=[treeD t n kvs,oD o]∧r=.dat (.bl (leftO kvs o))
theorem ok_Tree_is_left (T:Txt K mg t):Mt P w K mg base 1 t.Tree "is_left" ["self", "player"] (pre_Tree_is_left t):=by
 refine yq T.m_Tree_is_left sc_Tree_is_left (fun _ _ _ _ _ _ us hl=>match us,hl with | [_,_],_=>rfl) (by rintro _ _ ⟨_,_,_,rfl,rfl⟩;rfl) ?_
 rintro _ f cdv A outer s H E rfl hr _ _ ⟨n,kvs,o,rfl,rfl⟩
 cases o with
 | none=>exact Zd (Zy (b1:=false) (b2:=false) (ZV op_notN (Yk (da:=.non)) (Z0 1 rfl) Zt (nomark _)) (fun z=>nomatch z)) rfl
 | some i =>
  refine Zd (Z5 (Zy (b1:=true) (ZV op_notN (Yk (da:=.int i)) (Z0 1 rfl) Zt (nomark _)) (fun _=>Yd (Z0u (k:=.inl i) (hu_of hr) (Z0 1 rfl) (Jl 1 (Z0 0 rfl) T.cl_Tree T.na_Tree_winners rfl rfl rfl)))) ?_) rfl
  rw[valT,Option.isSome_map,Yz];rfl
def pre_Tree_beaten_by (t:Adr)(ds:List D)(r:R):Prop:=∃(n:Nat) (kvs:Kv2) (i:Int),ds=[treeD t n kvs,.int i]∧r=.dat (oD (byT kvs i))
theorem ok_Tree_beaten_by (T:Txt K mg t):Mt P w K mg base 1 t.Tree "beaten_by" ["self", "player"] (pre_Tree_beaten_by t):=by
 refine yq T.m_Tree_beaten_by sc_Tree_beaten_by (fun _ _ _ _ _ _ us hl=>match us,hl with | [_,_],_=>rfl) (by rintro _ _ ⟨_,_,_,rfl,rfl⟩;rfl) ?_
 rintro _ f cdv A outer s H E rfl hr _ _ ⟨n,kvs,i,rfl,rfl⟩
 refine Zd (Z5 (Z1h (k:=.inl i) (hu_of hr) (Jl 1 (Z0 0 rfl) T.cl_Tree T.na_Tree_winners rfl rfl rfl) (Z0 1 rfl)) ?_) rfl
 rw[valT]
 cases byT kvs i <;> rfl
def pre_Tree_left (t:Adr)(ds:List D)(r:R):Prop:=∃(n:Nat) (kvs:Kv2),1≤n∧n≤16∧ds=[treeD t n kvs]∧r=.own ((sortI (leftL n kvs)).map D.int)
theorem ok_Tree_left (T:Txt K mg t)(G_Tree_is_left:Mt P w K mg base 1 t.Tree "is_left" ["self", "player"] (pre_Tree_is_left t)):Mt P w K mg base 2 t.Tree "left" ["self"] (pre_Tree_left t):=by
 refine yq T.m_Tree_left sc_Tree_left (fun _ _ _ _ _ _ us hl=>match us,hl with | [_],_=>rfl) (by rintro _ _ ⟨_,_,_,_,rfl,rfl⟩;rfl) ?_
 rintro _ f cdv A outer s H E rfl hr _ _ ⟨n,kvs,h1,h2,rfl,rfl⟩
 have hs:=zR h1 h2
 have hl16:(leftL n kvs).length<64:=Nat.lt_of_le_of_lt (Nat.le_trans (List.length_filterMap_le _ _) hs) (by decide)
 exact Zd (jq hl16 T.b_sorted (Z1 (r:=.own ((leftL n kvs).map D.int)) (Z5 (Z2f (N:=["player", "self"]) (gl:=slots n) (f:=oD) (F:=oD) (p:=leftO kvs) [none,some 0] (ZZ (out':=defScope s_Tree_left) rfl ⟨rfl,by decide +kernel,by decide +kernel,by decide +kernel,by decide +kernel,rfl⟩) (ZI (N0:=["self"]) rfl (ZH (by decide +kernel))) (Jl 0 (Z0 0 rfl) T.cl_Tree T.na_Tree_slots rfl rfl rfl) (fun C fp s H=>pg_name (i:=0) (show List.Nodup (["player", "self"]:List Str) by decide +kernel) rfl (Or.inl rfl)) (fun o ho C fp s H=>zA (Zg (Yv G_Tree_is_left T.cl_Tree (hr.mono (by decide)) (Z0 1 rfl) (Z1 (Z0 0 rfl) Z2) ⟨n,kvs,o,rfl,rfl⟩))) (fun o ho _ C fp s H=>Z0 0 rfl) (Nat.le_trans hs (by decide))) (by rw[J8];rfl)) Z2)) rfl
end
section
variable {P:Program}{w:World}{K:PySem.W.Frag}{mg:Str→Option Value}{base:Heap}
def pre_neighbours (ds:List D)(r:R):Prop:=∃(ss:List (List Int)) (m:Nat),ss.length=2*m∧m≤8∧ds=[.lst (ss.map sdD)]∧r=.own ((pairUp ss).map nbD)
theorem ok_neighbours (T:Txt K mg t):Fn P w K mg base 1 "neighbours" ["sides"] pre_neighbours:=by
 refine ZO T.d_neighbours sc_neighbours (fun _ _ _ _ _ _ us hl=>match us,hl with | [_],_=>rfl) (by rintro _ _ ⟨_,_,_,_,rfl,rfl⟩;rfl) ?_
 rintro _ f cdv A outer s H E rfl hr _ _ ⟨ss,m,hm,h8,rfl,rfl⟩
 have hl:=ZD hm
 refine Zd (Z5 (Z1f (N:=["place", "sides"]) (n:=m) (F:=fun i=>nbD ((pairUp ss).getD i ([],[]))) [none,some 0] (ZZ (out':=defScope s_neighbours) rfl ⟨rfl,by decide +kernel,by decide +kernel,by decide +kernel,by decide +kernel,rfl⟩) (ZI (N0:=["sides"]) rfl (ZH (by decide +kernel))) Z3 (Z5 (Zj call_len_seq (Zu rfl) T.b_len Zv (Z1 (Z0 0 rfl) Z2)) (by rw[List.length_map,hm];rfl)) Z3 (by omega) (fun C fp s H=>pg_name (i:=0) (show List.Nodup (["place", "sides"]:List Str) by decide +kernel) rfl (Or.inl rfl)) (fun i hi C fp s H=>?_) (Nat.le_trans h8 (by decide)) T.b_range) (by rw[Z1q hm])) rfl
 have hq:=List.getElem?_eq_getElem (l:=pairUp ss) (i:=i) (by omega)
 obtain⟨e1,e2⟩:=Jn hq
 have eg:(pairUp ss).getD i ([],[])=(pairUp ss)[i]'(by omega):=by simp[List.getD,hq]
 rw[eg]
 have a1:atI (ss.map sdD) (2*(i:Nat):Int)=some (sdD ((pairUp ss)[i]'(by omega)).1):=by
  have:=atI_nat (show (ss.map sdD)[2*i]? = some (sdD ((pairUp ss)[i]'(by omega)).1) by rw[List.getElem?_map,e1];rfl)
  exact this
 have a2:atI (ss.map sdD) (2*(i:Nat)+1:Int)=some (sdD ((pairUp ss)[i]'(by omega)).2):=by
  have:=atI_nat (show (ss.map sdD)[2*i+1]? = some (sdD ((pairUp ss)[i]'(by omega)).2) by rw[List.getElem?_map,e2];rfl)
  exact this
 exact ZC (Z1 (ZL (d:=sdD _) (Z0 1 rfl) (Z0 0 rfl) a1) (Z1 (ZL (d:=sdD _) (Z0 1 rfl) (Z6 op_add Zo (Z0 0 rfl) Z3) a2) Z2))
def pre_contests_between (ds:List D)(r:R):Prop:=∃(ss:List (List Int)) (m:Nat),ss.length=2*m∧m≤8∧ds=[.lst (ss.map sdD)]∧r=.own (((pairUp ss).filter bothOne).map meetD)
theorem ok_contests_between (T:Txt K mg t)(G_neighbours:Fn P w K mg base 1 "neighbours" ["sides"] pre_neighbours):Fn P w K mg base 2 "contests_between" ["sides"] pre_contests_between:=by
 refine ZO T.d_contests_between sc_contests_between (fun _ _ _ _ _ _ us hl=>match us,hl with | [_],_=>rfl) (by rintro _ _ ⟨_,_,_,_,rfl,rfl⟩;rfl) ?_
 rintro _ f cdv A outer s H E rfl hr _ _ ⟨ss,m,hm,h8,rfl,rfl⟩
 have hl:=ZD hm
 refine Zd (Z1g (N:=["one", "other"]) (gl:=pairUp ss) (f1:=fun q=>sdD q.1) (f2:=fun q=>sdD q.2) (F:=meetD) (p:=bothOne) [none,none] (ZZ (out':=defScope s_contests_between) rfl ⟨rfl,by decide +kernel,by decide +kernel,by decide +kernel,by decide +kernel,rfl⟩) (ZI (N0:=["sides"]) rfl (ZH (by decide +kernel))) (Zw (Zc G_neighbours (hr.mono (by decide)) (Z1 (Z0 0 rfl) Z2) ⟨ss,m,hm,h8,rfl,rfl⟩)) (fun C fp s H=>pg_tup rfl (pgs_cons (pg_name (i:=0) (show List.Nodup (["one", "other"]:List Str) by decide +kernel) rfl (Or.inl rfl)) (pgs_cons (pg_name (i:=1) (show List.Nodup (["one", "other"]:List Str) by decide +kernel) rfl (Or.inl rfl)) pgs_nil))) rfl (fun q hq C fp s H=>zA (Z7 (QW.t (Yc (Zi op_eq Yr (Zj call_len_seq (Zu rfl) T.b_len Zv (Z1 (Z0 0 rfl) Z2)) Z3 (nomark _)) fun _=>zz (Zi op_eq Yr (Zj call_len_seq (Zu rfl) T.b_len Zv (Z1 (Z0 1 rfl) Z2)) Z3 (nomark _)))) ?_)) (fun q hq hb C fp s H=>?_) (by rw[hl];exact Nat.le_trans h8 (by decide))) rfl
 · unfold bothOne
   rw[List.length_map,List.length_map]
   congr 1
   · exact decide_eq_decide.mpr (by omega)
   · exact decide_eq_decide.mpr (by omega)
 · unfold bothOne at hb
   rw[Bool.and_eq_true,decide_eq_true_eq,decide_eq_true_eq] at hb
   obtain⟨a,b⟩:=q
   obtain⟨h1,h2⟩:=hb
   match a,b,h1,h2 with
   | [x],[y],_,_=>exact ZC (Z1 (ZL (d:=.int x) (Z0 0 rfl) Z3 (atI_nat (j:=0) rfl)) (Z1 (ZL (d:=.int y) (Z0 1 rfl) Z3 (atI_nat (j:=0) rfl)) Z2))
def joinUp (ss:List (List Int)):List (List Int):=(pairUp ss).map fun q=>q.1++q.2
def pre_joined (ds:List D)(r:R):Prop:=∃(ss:List (List Int)) (m:Nat),ss.length=2*m∧m≤8∧(∀l∈ss,l.length≤16)∧ds=[.lst (ss.map sdD)]∧r=.own ((joinUp ss).map sdD)
theorem Z00 {ss:List (List Int)}{q:List Int × List Int}(h:q∈pairUp ss):q.1∈ss∧q.2∈ss:=by
 obtain⟨i,hi⟩:=List.getElem?_of_mem h
 obtain⟨h1,h2⟩:=Jn hi
 exact⟨List.mem_of_getElem? h1,List.mem_of_getElem? h2⟩
theorem ok_joined (T:Txt K mg t)(G_neighbours:Fn P w K mg base 1 "neighbours" ["sides"] pre_neighbours):Fn P w K mg base 2 "joined" ["sides"] pre_joined:=by
 refine ZO T.d_joined sc_joined (fun _ _ _ _ _ _ us hl=>match us,hl with | [_],_=>rfl) (by rintro _ _ ⟨_,_,_,_,_,rfl,rfl⟩;rfl) ?_
 rintro _ f cdv A outer s H E rfl hr _ _ ⟨ss,m,hm,h8,hb,rfl,rfl⟩
 have hl:=ZD hm
 refine Zd (Z5 (Z2e (N:=["one", "other"]) (gl:=pairUp ss) (f1:=fun q=>sdD q.1) (f2:=fun q=>sdD q.2) (F:=fun q=>sdD (q.1++q.2)) [none,none] (ZZ (out':=defScope s_joined) rfl ⟨rfl,by decide +kernel,by decide +kernel,by decide +kernel,by decide +kernel,rfl⟩) (ZI (N0:=["sides"]) rfl (ZH (by decide +kernel))) (Zw (Zc G_neighbours (hr.mono (by decide)) (Z1 (Z0 0 rfl) Z2) ⟨ss,m,hm,h8,rfl,rfl⟩)) (fun C fp s H=>pg_tup rfl (pgs_cons (pg_name (i:=0) (show List.Nodup (["one", "other"]:List Str) by decide +kernel) rfl (Or.inl rfl)) (pgs_cons (pg_name (i:=1) (show List.Nodup (["one", "other"]:List Str) by decide +kernel) rfl (Or.inl rfl)) pgs_nil))) rfl (fun q hq C fp s H=>Z5 (Zw (Z38 (ds:=q.1.map D.int) (ds2:=q.2.map D.int) (Z0 0 rfl) (Z0 1 rfl) ?_)) (by unfold sdD;rw[List.map_append];rfl)) (by rw[hl];exact Nat.le_trans h8 (by decide))) (by unfold joinUp;rw[List.map_map];rfl)) rfl
 obtain⟨h1,h2⟩:=Z00 hq
 have:=hb _ h1
 have:=hb _ h2
 rw[List.length_map,List.length_map]
 exact Nat.le_trans (m:=32) (by omega) (by decide)
end
section
variable {P:Program}{w:World}{K:PySem.W.Frag}{mg:Str→Option Value}{base:Heap}
def sidesT (n:Nat)(kvs:Kv2):Nat→List (List Int)
 | 0=>(slots n).map fun o=>if leftO kvs o then [o.getD 0] else []
 | i+1=>joinUp (sidesT n kvs i)
def pairsT (n:Nat)(kvs:Kv2):Nat→List (List Int × List Int)
 | 0=>[]
 | i+1=>pairsT n kvs i++(pairUp (sidesT n kvs i)).filter bothOne
theorem JA:∀k,(row k).length=2 ^ k
 | 0=>rfl
 | k+1=>by
  rw[yB]
  unfold dbl
  have:∀l:List Int,(l.flatMap fun s=>[s,2*((row k).length:Int)-1-s]).length=2*l.length:=by
   intro l
   induction l with
   | nil=>rfl
   | cons a l ih=>rw[List.flatMap_cons,List.length_append,ih];simp only[List.length_cons,List.length_nil];omega
  rw[this,JA k,Nat.pow_succ];omega
theorem Z04 {m:Nat}{ss:List (List Int)}(h:ss.length=2*m):(joinUp ss).length=m:=by unfold joinUp;rw[List.length_map,ZD h]
theorem ZQ (n:Nat)(kvs:Kv2):∀(i j:Nat),i+j=lev n→(sidesT n kvs i).length=2 ^ j
 | 0,j,h=>by
  show ((slots n).map _).length=_
  unfold slots
  rw[List.length_map,List.length_map,JA,←h,Nat.zero_add]
 | i+1,j,h=>Z04 (m:=2 ^ j) (by rw[ZQ n kvs i (j+1) (by omega),Nat.pow_succ];omega)
theorem JJ:∀ {m:Nat} {ss:List (List Int)},ss.length=2*m→(joinUp ss).flatten=ss.flatten
 | 0,[],_=>rfl
 | 0,_::_,h=>by simp at h
 | m+1,[],h=>by simp at h
 | m+1,[_],h=>by simp at h;omega
 | m+1,a::b::r,h=>by
  have ih:=JJ (m:=m) (ss:=r) (by simp only[List.length_cons] at h;omega)
  unfold joinUp pairUp
  rw[List.map_cons,List.flatten_cons,List.flatten_cons,List.flatten_cons]
  unfold joinUp at ih
  rw[ih,List.append_assoc]
theorem Yb (n:Nat)(kvs:Kv2):∀(i j:Nat),i+j=lev n→(sidesT n kvs i).flatten=leftL n kvs
 | 0,j,h=>by
  show ((slots n).map _).flatten=leftL n kvs
  unfold leftL
  induction slots n with
  | nil=>rfl
  | cons o l ih =>
   rw[List.map_cons,List.flatten_cons,ih]
   cases o with
   | none=>simp[leftO]
   | some p =>
    by_cases hl:leftO kvs (some p)=true
    · rw[if_pos hl,List.filterMap_cons_some (b:=p) (by rw[if_pos hl])];rfl
    · rw[if_neg hl,List.filterMap_cons_none (by rw[if_neg hl])];rfl
 | i+1,j,h=>(JJ (m:=2 ^ j) (by rw[ZQ n kvs i (j+1) (by omega),Nat.pow_succ];omega)).trans (Yb n kvs i (j+1) (by omega))
end
section
variable {P:Program}{w:World}{K:PySem.W.Frag}{mg:Str→Option Value}{base:Heap}
def oV:Option Int→V
 | none=>.non
 | some i=>.int i
theorem Z0M {K:PySem.W.Frag}{G:Hp}:∀ {l:List (Option Int)} {xs:List V},IsL K G (l.map oD) xs→xs=l.map oV
 | [],xs,h=>by rw[List.map_nil] at h;unfold L2.IsL at h;exact h
 | o::l,xs,h=>by
  rw[List.map_cons] at h
  unfold L2.IsL at h
  obtain⟨v,vs,rfl,h1,h2⟩:=h
  rw[Z0M h2,List.map_cons]
  cases o with
  | none=>rw[YN h1];rfl
  | some i=>rw[Z8 h1];rfl
theorem Z0F {K:PySem.W.Frag}{G:Hp}:∀ {l:List (Option Int)},IsL K G (l.map oD) (l.map oV)
 | []=>by rw[List.map_nil];unfold L2.IsL;rfl
 | o::l=>by
  rw[List.map_cons,List.map_cons]
  unfold L2.IsL
  refine⟨_,_,rfl,?_,Z0F⟩
  cases o with
  | none=>exact yP
  | some i=>exact Zl
def entV (kvs:Kv2):List (Key × V):=kvs.map fun q=>(.inl q.1,.int q.2)
structure TreeAt (t:Adr)(H:Hp)(x dx sa wa:Addr)(n:Nat)(kvs:Kv2):Prop where
 ins:H x=some (.ins t.Tree dx [("slots",.ref sa),("winners",.ref wa)])
 sl:H sa=some (.lst ((slots n).map oV))
 wi:H wa=some (.dK (entV kvs))
theorem TreeAt.mono {t:Adr}{H H':Hp}{x dx sa wa:Addr}{n:Nat}{kvs:Kv2}(h:TreeAt t H x dx sa wa n kvs)(s:Same H H'):TreeAt t H' x dx sa wa n kvs:=⟨s _ _ h.ins,s _ _ h.sl,s _ _ h.wi⟩
def newTree (t:Adr)(H1:Hp)(x:Addr)(n:Nat)(H':Hp):Prop:=∃dx sa wa,Same H1 H'∧H1 sa=none∧H1 wa=none∧x≠sa∧x≠wa∧sa≠wa∧TreeAt t H' x dx sa wa n []
def preJ_Tree (t:Adr)(vs:List V)(H:Hp)(R:Hp→Prop):Prop:=∃(x dx:Addr) (n:Nat) (H1:Hp),1≤n∧n≤16∧vs=[.ref x,.int n]∧H1 x=none∧H1 dx=none∧dx≠x∧H=upd (upd H1 dx (.own x)) x (.ins t.Tree dx [])∧R=newTree t H1 x n
theorem ok_Tree_init (T:Txt K mg t)(G_slots_of:FnX P w K mg base 4 "slots_of" ["n"] pre_slots_of (preX_slots_of t)):IniR P w K mg base 6 t.Tree ["self", "n"] (preJ_Tree t):=by
 refine Z2w T.i_Tree sc_Tree_init (fun _ _ _ _ _ _ us hl=>match us,hl with | [_,_],_=>rfl) (by rintro _ _ _ ⟨_,_,_,_,_,_,rfl,_⟩;rfl) ?_
 rintro _ f cdv A outer s _ E rfl hr _ _ ⟨x,dx,n,H1,h1,h2,rfl,hx,hdx,ne,rfl,rfl⟩ De fin
 have s1:Same H1 (upd (upd H1 dx (.own x)) x (.ins t.Tree dx [])):=fun b o e=>by
  rw[upd_ne (fun z=>by rw[z,hx] at e;cases e),upd_ne (fun z=>by rw[z,hdx] at e;cases e)];exact e
 refine jB 0 (C:=t.Tree) (P':=fun σ H=>∃sa,σ=[some (.ref x),some (.int n)]∧Same H1 H∧H1 sa=none∧x≠sa∧H x=some (.ins t.Tree dx [("slots",.ref sa)])∧H sa=some (.lst ((slots n).map oV))) [.un,.dat (.int n)] (Z0x G_slots_of (hr.mono (by decide)) (Z1 (Z0 1 rfl) Z2) ⟨n,h1,h2,rfl,rfl⟩) T.cl_Tree T.na_Tree_slots ?_ ?_ ?_
 · rintro σ H ⟨rfl,rfl⟩
   exact⟨trivial,⟨_,rfl,Zl⟩,trivial⟩
 · rintro σ H v H' ⟨rfl,rfl⟩ sm ⟨sa,xs,rfl,a1,a2,a3⟩
   rw[Z0M a3] at a2
   have hxa:H' x=some (.ins t.Tree dx []):=sm _ _ upd_same
   have nx:x≠sa:=fun z=>by rw[←z,upd_same] at a1;cases a1
   refine⟨x,dx,[],rfl,hxa,by decide,sa,rfl,?_,Same.dead s1 a1,nx,upd_same,by rw[upd_ne (Ne.symm nx)];exact a2⟩
   exact fun b o e=>by rw[upd_ne (fun z=>by rw[z,hx] at e;cases e)];exact sm _ _ (s1 _ _ e)
 refine jB 0 (C:=t.Tree) (P':=fun σ H=>newTree t H1 x n H) [.un,.un] zX T.cl_Tree T.na_Tree_winners ?_ ?_ (Zx (ZU fun σ H h=>fin σ H h))
 · rintro σ H ⟨sa,rfl,_⟩
   exact⟨trivial,trivial,trivial⟩
 · rintro σ H v H' ⟨sa,rfl,sm,n1,nx,b1,b2⟩ s2 ⟨wa,o,rfl,_,a1,a2,es,rfl,en⟩
   cases en
   have nw:x≠wa:=fun z=>by rw[←z,b1] at a1;cases a1
   have nsw:sa≠wa:=fun z=>by rw[←z,b2] at a1;cases a1
   refine⟨x,dx,_,rfl,s2 _ _ b1,by simp,dx,sa,wa,?_,n1,Same.dead sm a1,nx,nw,nsw,upd_same,by rw[upd_ne (Ne.symm nx)];exact s2 _ _ b2,by rw[upd_ne (Ne.symm nw)];exact a2⟩
   exact fun b o e=>by rw[upd_ne (fun z=>by rw[z,hx] at e;cases e)];exact s2 _ _ (sm _ _ e)
def preIX_Tree (t:Adr)(ds:List D)(C:Addr):Prop:=∃d,plD d=true∧btw 1 16 d=false∧ds=[d]∧C=t.NoSize
theorem yl (T:Txt K mg t)(G_slots_of:FnX P w K mg base 4 "slots_of" ["n"] pre_slots_of (preX_slots_of t)):IniX P w K mg base 6 t.Tree ["self", "n"] (fun _ _ _=>False) (preIX_Tree t):=by
 refine Z2v T.i_Tree sc_Tree_init (fun _ _ _ _ _ _ us hl=>match us,hl with | [_,_],_=>rfl) (fun _ _ _ z=>z.elim) (by rintro _ _ ⟨_,_,_,rfl,_⟩;rfl) (fun _ _ _ _ _ _ _ _ _ _ _ _ _ z=>z.elim) ?_ (fun _ _ _ _ _ _ _ _ _ _ _ _ _ _ z=>z.elim)
 rintro _ f cdv A outer s H E E2 rfl hr xm xf _ _ ⟨d,hp,hb,rfl,rfl⟩ G H1 x dx D hx hE
 exact Z23 (Z0o G_slots_of xf (hr.mono (by decide)) (Z1 (Z0 1 rfl) Z2) ⟨d,hp,hb,rfl,rfl⟩) hE
end
section
variable {P:Program}{w:World}{K:PySem.W.Frag}{mg:Str→Option Value}{base:Heap}
def usedT (ps:List (List Int × List Int)):List Int:=ps.flatMap fun q=>q.1++q.2
def singT (ss:List (List Int)):List Int:=(ss.filter fun l=>decide (l.length=1)).flatten
theorem zL (x:Int):∀ {m:Nat} {ss:List (List Int)},ss.length=2*m→(usedT ((pairUp ss).filter bothOne)).count x+(singT (joinUp ss)).count x≤(singT ss).count x
 | 0,[],_=>by simp[usedT,singT,joinUp,pairUp]
 | 0,_::_,h=>by simp at h
 | m+1,[],h=>by simp at h
 | m+1,[_],h=>by simp at h;omega
 | m+1,a::b::r,h=>by
  have ih:=zL x (m:=m) (ss:=r) (by simp only[List.length_cons] at h;omega)
  have e1:pairUp (a::b::r)=(a,b)::pairUp r:=rfl
  have e2:joinUp (a::b::r)=(a++b)::joinUp r:=by unfold joinUp;rw[e1];rfl
  have e3:∀(l:List Int) (ss:List (List Int)),(singT (l::ss)).count x=(if l.length=1 then l.count x else 0)+(singT ss).count x:=fun l ss=>by
   unfold singT
   by_cases hl:l.length=1
   · rw[List.filter_cons_of_pos (by simpa using hl),List.flatten_cons,List.count_append,if_pos hl]
   · rw[List.filter_cons_of_neg (by simpa using hl),if_neg hl,Nat.zero_add]
  have e4:(usedT ((pairUp (a::b::r)).filter bothOne)).count x=(if bothOne (a,b)=true then (a++b).count x else 0)+(usedT ((pairUp r).filter bothOne)).count x:=by
   rw[e1]
   unfold usedT
   by_cases hb:bothOne (a,b)=true
   · rw[List.filter_cons_of_pos hb,List.flatMap_cons,List.count_append,if_pos hb]
   · rw[List.filter_cons_of_neg hb,if_neg hb,Nat.zero_add]
  rw[e4,e2,e3,e3,e3,List.length_append,List.count_append]
  generalize (usedT ((pairUp r).filter bothOne)).count x=u at ih ⊢
  generalize (singT (joinUp r)).count x=v at ih ⊢
  generalize (singT r).count x=w at ih ⊢
  unfold bothOne
  have c0:∀l:List Int,l.length=0→l.count x=0:=fun l hl=>by rw[List.length_eq_zero_iff.mp hl];rfl
  have ca:=c0 a
  have cb:=c0 b
  generalize a.count x=ka at ca ⊢
  generalize b.count x=kb at cb ⊢
  generalize a.length=la at ca ⊢
  generalize b.length=lb at cb ⊢
  simp only[Bool.and_eq_true,decide_eq_true_eq]
  repeat' split
  all_goals omega
theorem yS:∀ {l:List Int},(∀x,l.count x≤1)→l.Nodup
 | [],_=>List.nodup_nil
 | a::l,h=>by
  have h1:=h a
  rw[List.count_cons_self] at h1
  refine List.nodup_cons.mpr ⟨List.count_eq_zero.mp (by omega),yS fun x=>?_⟩
  have:=h x
  rw[List.count_cons] at this
  omega
theorem Z12 (ps qs:List (List Int × List Int)):usedT (ps++qs)=usedT ps++usedT qs:=List.flatMap_append
theorem JL (n:Nat)(kvs:Kv2)(x:Int):∀(i j:Nat),i+j=lev n→(usedT (pairsT n kvs i)).count x+(singT (sidesT n kvs i)).count x≤(leftL n kvs).count x
 | 0,j,h=>by
  show (usedT []).count x+_≤_
  rw[←Yb n kvs 0 j h]
  have e:(usedT []).count x=0:=rfl
  rw[e,Nat.zero_add]
  refine List.Sublist.count_le _ ?_
  unfold singT
  generalize sidesT n kvs 0=l
  induction l with
  | nil=>exact List.Sublist.refl _
  | cons a l ih =>
   by_cases ha:a.length=1
   · rw[List.filter_cons_of_pos (by simpa using ha),List.flatten_cons,List.flatten_cons]
     exact ih.append_left a
   · rw[List.filter_cons_of_neg (by simpa using ha),List.flatten_cons]
     exact ih.trans (List.sublist_append_right a _)
 | i+1,j,h=>by
  have ih:=JL n kvs x i (j+1) (by omega)
  have st:=zL x (m:=2 ^ j) (ss:=sidesT n kvs i) (by rw[ZQ n kvs i (j+1) (by omega),Nat.pow_succ];omega)
  show (usedT (pairsT n kvs i++_)).count x+(singT (joinUp (sidesT n kvs i))).count x≤_
  rw[Z12,List.count_append]
  omega
theorem J1 (n:Nat)(kvs:Kv2):∀i,∀q∈pairsT n kvs i,bothOne q=true
 | 0,q,h=>by cases h
 | i+1,q,h=>by
  rcases List.mem_append.mp h with h | h
  · exact J1 n kvs i q h
  · exact(List.mem_filter.mp h).2
theorem YH (x:Int):∀ {ps:List (List Int × List Int)},(∀q∈ps,bothOne q=true)→(ps.map fun q=>q.1.headD 0).count x≤(usedT ps).count x
 | [],_=>Nat.le_refl _
 | q::ps,h=>by
  have ih:=YH x fun p hp=>h p (List.mem_cons_of_mem _ hp)
  have hq:=h q List.mem_cons_self
  unfold bothOne at hq
  rw[Bool.and_eq_true,decide_eq_true_eq,decide_eq_true_eq] at hq
  have e:usedT (q::ps)=(q.1++q.2)++usedT ps:=by unfold usedT;rw[List.flatMap_cons]
  obtain⟨a,b⟩:=q
  obtain⟨h1,h2⟩:=hq
  match a,h1 with
  | [z],_ =>
   rw[e,List.count_append,List.count_append,List.map_cons,List.count_cons]
   show _+(if (z==x)=true then 1 else 0)≤_
   rw[List.count_cons]
   have:(List.count x ([]:List Int))=0:=rfl
   omega
theorem Z2X:∀n∈List.range 17,(row (lev n)).Nodup:=by decide +kernel
theorem yX (n:Nat)(kvs:Kv2):(leftL n kvs).Sublist (row (lev n)):=by
 unfold leftL slots
 induction row (lev n) with
 | nil=>exact List.Sublist.refl _
 | cons a l ih =>
  rw[List.map_cons]
  by_cases ha:a<(n:Int)
  · rw[if_pos ha]
    by_cases hl:leftO kvs (some a)=true
    · rw[List.filterMap_cons_some (b:=a) (by rw[if_pos hl])];exact ih.cons_cons a
    · rw[List.filterMap_cons_none (by rw[if_neg hl])];exact ih.cons a
  · rw[if_neg ha,List.filterMap_cons_none (by simp[leftO])];exact ih.cons a
theorem Z2r {n:Nat}(h:n≤16)(kvs:Kv2):(leftL n kvs).Nodup:=(yX n kvs).nodup (Z2X n (List.mem_range.mpr (by omega)))
theorem jb {n:Nat}(h:n≤16)(kvs:Kv2):((pairsT n kvs (lev n)).map fun q=>q.1.headD 0).Nodup:=yS fun x=>by
 have h1:=YH x (J1 n kvs (lev n))
 have h2:=JL n kvs x (lev n) 0 (by omega)
 have h3:(leftL n kvs).count x≤1:=by
  have nd:=Z2r h kvs
  generalize leftL n kvs=l at nd
  induction l with
  | nil=>exact Nat.zero_le _
  | cons a l ih =>
   rw[List.nodup_cons] at nd
   rw[List.count_cons]
   by_cases z:a=x
   · have:l.count x=0:=List.count_eq_zero.mpr (by rw[←z];exact nd.1)
     rw[this];split <;> omega
   · have:=ih nd.2
     have e:(a==x)=false:=by simpa using z
     rw[e];simpa using this
 omega
end
section
variable {P:Program}{w:World}{K:PySem.W.Frag}{mg:Str→Option Value}{base:Heap}
def pD (q:Int × Int):D:=.tup [.int q.1,.int q.2]
def pairI (q:List Int × List Int):Int × Int:=(q.1.headD 0,q.2.headD 0)
def slotIx (n:Nat)(p:Int):Nat:=(slots n).idxOf (some p)
def prsK (n:Nat)(kvs:Kv2):List (Int × Int):=(pairsT n kvs (lev n)).map pairI
def dueK (n:Nat)(kvs:Kv2):List (Int × Int):=(prsK n kvs).mergeSort fun a b=>decide (slotIx n a.1≤slotIx n b.1)
theorem jr {α β:Type}(f:α→β){l:List β}:∀ {m:List β},l.Perm m→∀ {ws:List α},m=ws.map f→∃vs:List α,vs.Perm ws∧l=vs.map f:=by
 intro m h
 induction h with
 | nil =>
  intro ws e
  cases ws with
  | nil=>exact⟨[],.nil,rfl⟩
  | cons _ _=>cases e
 | cons x h ih =>
  intro ws e
  cases ws with
  | nil=>cases e
  | cons w ws =>
   rw[List.map_cons] at e
   obtain⟨e1,e2⟩:=List.cons.inj e
   obtain⟨vs,v1,v2⟩:=ih e2
   exact⟨w::vs,v1.cons w,by rw[List.map_cons,e1,v2]⟩
 | swap x y l =>
  intro ws e
  cases ws with
  | nil=>cases e
  | cons w1 ws =>
   cases ws with
   | nil=>simp at e
   | cons w2 ws =>
    simp only[List.map_cons,List.cons.injEq] at e
    exact⟨w2::w1::ws,.swap w1 w2 ws,by simp only[List.map_cons,e.1,e.2.1,e.2.2]⟩
 | trans h1 h2 ih1 ih2 =>
  intro ws e
  obtain⟨vs,v1,v2⟩:=ih2 e
  obtain⟨us,u1,u2⟩:=ih1 v2
  exact⟨us,u1.trans v1,u2⟩
theorem Z0G {α:Type}{f:α→Int}:∀ {l:List α},(l.map f).Nodup→∀ {a b:α},a∈l→b∈l→f a=f b→a=b
 | [],_,a,b,h,_,_=>by cases h
 | c::l,h,a,b,ha,hb,e=>by
  rw[List.map_cons,List.nodup_cons] at h
  rcases List.mem_cons.mp ha with ha | ha <;> rcases List.mem_cons.mp hb with hb | hb
  · rw[ha,hb]
  · exact absurd (List.mem_map.mpr ⟨b,hb,by rw[←e,ha]⟩) h.1
  · exact absurd (List.mem_map.mpr ⟨a,ha,by rw[e,hb]⟩) h.1
  · exact Z0G h.2 ha hb e
theorem J0 {n:Nat}{kvs:Kv2}{q:Int × Int}(h:q∈prsK n kvs):q.1∈leftL n kvs:=by
 have h1:q.1∈(pairsT n kvs (lev n)).map fun q=>q.1.headD 0:=by
  obtain⟨p,hp,rfl⟩:=List.mem_map.mp h
  exact List.mem_map.mpr ⟨p,hp,rfl⟩
 have h2:=YH q.1 (J1 n kvs (lev n))
 have h3:=JL n kvs q.1 (lev n) 0 (by omega)
 have h4:0<((pairsT n kvs (lev n)).map fun q=>q.1.headD 0).count q.1:=List.count_pos_iff.mpr h1
 exact List.count_pos_iff.mp (by omega)
theorem Ys {n:Nat}{kvs:Kv2}{p:Int}(h:p∈leftL n kvs):some p∈slots n:=by
 unfold leftL at h
 obtain⟨o,ho,e⟩:=List.mem_filterMap.mp h
 split at e
 · rw[←e];exact ho
 · cases e
theorem za {n:Nat}{a b:Int}(ha:some a∈slots n)(hb:some b∈slots n)(e:slotIx n a=slotIx n b):a=b:=by
 unfold slotIx at e
 have h1:=List.getElem_idxOf (List.idxOf_lt_length_iff.mpr ha)
 have h2:=List.getElem_idxOf (List.idxOf_lt_length_iff.mpr hb)
 have:some a=some b:=by rw[←h1,←h2];congr 1
 exact Option.some.inj this
theorem jQ {n:Nat}(h:n≤16)(kvs:Kv2){ps:List (Int × Int)}(hp:ps.Perm (prsK n kvs))(hs:ps.Pairwise fun a b=>slotIx n a.1≤slotIx n b.1):ps=dueK n kvs:=by
 have hd:(dueK n kvs).Perm (prsK n kvs):=List.mergeSort_perm _ _
 have hso:(dueK n kvs).Pairwise fun a b=>slotIx n a.1≤slotIx n b.1:=by
  have:=List.pairwise_mergeSort (le:=fun a b:Int × Int=>decide (slotIx n a.1≤slotIx n b.1)) (fun a b c h1 h2=>by
   simp only[decide_eq_true_eq] at *;omega) (fun a b=>by
   simp only[Bool.or_eq_true,decide_eq_true_eq];omega) (prsK n kvs)
  exact this.imp fun z=>by simpa using z
 have nd:((prsK n kvs).map fun q=>q.1).Nodup:=by
  have:=jb h kvs
  unfold prsK
  rw[List.map_map];exact this
 refine(hp.trans hd.symm).eq_of_pairwise (fun a b ha hb h1 h2=>?_) hs hso
 have ma:=hp.mem_iff.mp ha
 have mb:=hd.mem_iff.mp hb
 exact Z0G nd ma mb (za (Ys (J0 ma)) (Ys (J0 mb)) (by omega))
end
section
variable {P:Program}{w:World}{K:PySem.W.Frag}{mg:Str→Option Value}{base:Heap}
def pre_Tree_due (t:Adr)(ds:List D)(r:R):Prop:=∃(n:Nat) (kvs:Kv2),1≤n∧n≤16∧ds=[treeD t n kvs]∧r=.own ((dueK n kvs).map pD)
def lsc_due:Scope:=match defBody s_Tree_due with
 | [_,_,_,.Return (some (.Call _ _ [⟨_,.Lambda _ _ sc _,_⟩] _)) _]=>sc
 | _=>defScope s_Tree_due
theorem jo {n:Nat}(h:n≤16)(kvs:Kv2){i j:Nat}(e:i+j=lev n):∀l∈sidesT n kvs i,l.length≤16:=fun l hl=>by
 have h1:=(List.sublist_flatten_of_mem hl).length_le
 rw[Yb n kvs i j e] at h1
 have h2:=(yX n kvs).length_le
 rw[JA] at h2
 have : lev n ≤ 4 := by unfold lev; repeat' split
                        all_goals omega
 have:2 ^ lev n≤2 ^ 4:=Nat.pow_le_pow_right (by decide) this
 omega
theorem yW (n:Nat):lev n≤4:=by
 unfold lev
 repeat' split
 all_goals omega
theorem Yp (n:Nat)(kvs:Kv2):∀(i j:Nat),i+j=lev n→(pairsT n kvs i).length≤8*i
 | 0,_,_=>Nat.le_refl _
 | i+1,j,h=>by
  have ih:=Yp n kvs i (j+1) (by omega)
  show (pairsT n kvs i++(pairUp (sidesT n kvs i)).filter bothOne).length≤_
  rw[List.length_append]
  have h1:=List.length_filter_le bothOne (pairUp (sidesT n kvs i))
  rw[ZD (m:=2 ^ j) (by rw[ZQ n kvs i (j+1) (by omega),Nat.pow_succ];omega)] at h1
  have h4:=yW n
  have:2 ^ j≤2 ^ 3:=Nat.pow_le_pow_right (by decide) (by omega)
  omega
theorem Z0R {l:List (Option Int)}{p:Int}:∀ {m:Nat} {o:Option Int},m<l.idxOf (some p)→l[m]? = some o→o≠some p:=by
 induction l with
 | nil=>intro m o h;simp at h
 | cons a l ih =>
  intro m o h e z
  rw[List.idxOf_cons] at h
  cases ha:(a==some p) with
  | true=>rw[ha] at h;simp at h
  | false =>
   rw[ha] at h
   cases m with
   | zero =>
    have:a=o:=by simpa using e
    rw[this,z] at ha
    simp at ha
   | succ m=>exact ih (m:=m) (o:=o) (by simp at h;omega) (by simpa using e) z
theorem Z1P {o:Option Int}{p:Int}(h:o≠some p):eqD (oD o) (.int p)=false:=by
 cases o with
 | none=>rfl
 | some i =>
  have:i≠p:=fun z=>h (by rw[z])
  show eqD (.int i) (.int p)=false
  unfold eqD
  simpa using this
theorem jh:∀l:List (Option Int),depL (l.map oD)≤30
 | []=>Nat.zero_le _
 | o::l=>by
  show Nat.max (dep (oD o)) (depL (l.map oD))≤30
  refine Nat.max_le.mpr ⟨?_,jh l⟩
  cases o <;> exact Nat.zero_le _
theorem ok_Tree_due (T:Txt K mg t)(L_Tree_due:LamAt mg base Yh "Tree.due.<locals>.<lambda>")(G_Tree_is_left:Mt P w K mg base 1 t.Tree "is_left" ["self", "player"] (pre_Tree_is_left t))(G_contests_between:Fn P w K mg base 2 "contests_between" ["sides"] pre_contests_between)(G_joined:Fn P w K mg base 2 "joined" ["sides"] pre_joined):Mt P w K mg base 8 t.Tree "due" ["self"] (pre_Tree_due t):=by
 refine Z3k T.m_Tree_due sc_Tree_due (fun _ _ _ _ _ _ us hl=>match us,hl with | [_],_=>rfl) (by rintro _ _ ⟨_,_,_,_,rfl,rfl⟩;rfl) ?_
 rintro _ f A outer s H E rfl hr _ _ ⟨n,kvs,h1,h2,rfl,rfl⟩
 have hs:=zR h1 h2
 have h4:=yW n
 refine Z4 (Z29 1 (N:=["player", "self"]) (gl:=slots n) (f:=oD) (F:=fun o=>sdD (if leftO kvs o then [o.getD 0] else [])) [none,some 0] sc_Tree_due.nd (ZZ (out':=defScope s_Tree_due) rfl ⟨rfl,by decide +kernel,by decide +kernel,by decide +kernel,by decide +kernel,rfl⟩) (ZI (N0:=["self", "sides", "pairs"]) rfl (ZH (by decide +kernel))) (Jl 0 (Z0 0 rfl) T.cl_Tree T.na_Tree_slots rfl rfl rfl) (fun C fp s H=>pg_name (i:=0) (show List.Nodup (["player", "self"]:List Str) by decide +kernel) rfl (Or.inl rfl)) (fun o ho C fp s H=>?_) (Nat.le_trans hs (by decide))) ?_
 · refine Z5 (Z2h (bv:=leftO kvs o) (d1:=sdD [o.getD 0]) (d2:=sdD []) (Zg (Yv G_Tree_is_left T.cl_Tree (hr.mono (by decide)) (Z0 1 rfl) (Z1 (Z0 0 rfl) Z2) ⟨n,kvs,o,rfl,rfl⟩)) (fun hb=>?_) (fun _=>Zw (ZA Z2))) (by split <;> rfl)
   cases o with
   | none=>cases hb
   | some p=>exact Zw (ZA (Z1 (Z0 0 rfl) Z2))
 have e0:(slots n).map (fun o=>sdD (if leftO kvs o then [o.getD 0] else []))=(sidesT n kvs 0).map sdD:=by
  show _=((slots n).map _).map sdD
  rw[List.map_map];rfl
 rw[e0]
 refine Y8 1 rfl ?_
 refine Z4 (Zh 2 (ZA Z2) sc_Tree_due.nd) ?_
 refine Z4 (YX (lev n) (fun i=>[.dat (treeD t n kvs),.dat (.lst ((sidesT n kvs i).map sdD)),.own ((pairsT n kvs i).map meetD)]) ⟨.inr rfl,.inr rfl,.inr rfl,True.intro⟩ (fun i hi=>?_) ?_ (fun i hi=>?_) PassesOwn.never) ?_
 · refine Z7 (Zi op_gt Y3 (Zj call_len_seq (Zu rfl) T.b_len Zv (Z1 (Z0 1 rfl) Z2)) Z3 (nomark _)) ?_
   rw[List.length_map,ZQ n kvs i (lev n-i) (by omega)]
   refine decide_eq_true ?_
   have:2 ^ 1≤2 ^ (lev n-i):=Nat.pow_le_pow_right (by decide) (by omega)
   omega
 · refine Z7 (Zi op_gt Y3 (Zj call_len_seq (Zu rfl) T.b_len Zv (Z1 (Z0 1 rfl) Z2)) Z3 (nomark _)) ?_
   rw[List.length_map,ZQ n kvs (lev n) 0 (by omega)]
   rfl
 · have hl:(sidesT n kvs i).length=2*2 ^ (lev n-i-1):=by
    rw[ZQ n kvs i (lev n-i-1+1) (by omega),Nat.pow_succ];omega
   have hm:2 ^ (lev n-i-1)≤2 ^ 3:=Nat.pow_le_pow_right (by decide) (by omega)
   have hp:=Yp n kvs i (lev n-i) (by omega)
   have hf:=List.length_filter_le bothOne (pairUp (sidesT n kvs i))
   rw[ZD hl] at hf
   refine Z4 (zU 2 (es:=((pairUp (sidesT n kvs i)).filter bothOne).map meetD) rfl (Zc G_contests_between (hr.mono (by decide)) (Z1 (Z0 1 rfl) Z2) ⟨_,_,hl,by omega,rfl,rfl⟩) (by rw[List.length_map,List.length_map];exact Nat.le_trans (m:=100) (by omega) (by decide))) ?_
   refine Z4 (Zh 1 (Zc G_joined (hr.mono (by decide)) (Z1 (Z0 1 rfl) Z2) ⟨_,_,hl,by omega,jo h2 kvs (j:=lev n-i) (by omega),rfl,rfl⟩) sc_Tree_due.nd) ?_
   refine Y8 1 rfl ?_
   refine Ze (ZK ⟨.inr rfl,.inr rfl,.inr ?_,True.intro⟩)
   show Slot.own ((pairsT n kvs i++(pairUp (sidesT n kvs i)).filter bothOne).map meetD)=_
   rw[List.map_append]
 · refine Y8 2 rfl ?_
   have e2:(pairsT n kvs (lev n)).map meetD=(prsK n kvs).map pD:=by unfold prsK;rw[List.map_map];rfl
   rw[e2]
   have hp:=Yp n kvs (lev n) 0 (by omega)
   have hpl:(prsK n kvs).length≤32:=by unfold prsK;rw[List.length_map];omega
   refine Zd (jp (k:=0) (y := "pair") (kz:=(prsK n kvs).map fun q=>(slotIx n q.1:Int)) (out:=(dueK n kvs).map pD) [("self",0,treeD t n kvs)] (hr.mono (by decide)) (Z0 2 rfl) (by rw[List.length_map,List.length_map]) (by rw[List.length_map];omega) (fun i d z hd hz=>?_) ?_ (fun qs hq hs=>?_) rfl rfl T.m_Tree_due.hd L_Tree_due (show ∀x∈lsc_due.names,x.2=.free→(defScope s_Tree_due).names.lookup x.1=some .cell∨(defScope s_Tree_due).names.lookup x.1=some .free by decide +kernel) (fun _=>rfl) ⟨⟨rfl,rfl,rfl⟩,True.intro⟩ T.b_sorted) rfl
   · obtain⟨q,hq,rfl⟩:=Y5 hd
     rw[List.getElem?_map,hq] at hz
     cases hz
     have hsl:=Ys (J0 (List.mem_of_getElem? hq))
     have hlt:=List.idxOf_lt_length_iff.mpr hsl
     rintro _ f c A outer s H rfl hr
     exact zW (dj:=.int q.1) hr.units (Jl 0 (Z0 1 rfl) T.cl_Tree T.na_Tree_slots rfl rfl rfl) (Za (d:=.int q.1) (Z0 0 rfl) Z3 rfl) (by rw[YT];decide) (jh _) (by unfold slotIx;rw[List.getElem?_map,List.getElem?_eq_getElem hlt,List.getElem_idxOf];rfl) (by rw[Yy]) (fun m d hm hd=>by
      obtain⟨o,ho,rfl⟩:=Y5 hd
      exact Z1P (Z0R hm ho))
   · exact⟨rfl,rfl,rfl,show ∀z∈lsc_due.names,z.2 ≠ .cell by decide +kernel,rfl,fun z hz=>Jb ⟨_,Zz hz,rfl,rfl⟩,show ∀x∈(["self"]:List Str),lsc_due.names.lookup x=some .free by decide +kernel,fun _ _ _=>rfl⟩
   · have ez:((prsK n kvs).map fun q=>(slotIx n q.1:Int)).zip ((prsK n kvs).map pD)=(prsK n kvs).map fun q=>((slotIx n q.1:Int),pD q):=by
      rw[List.zip_map']
     rw[ez] at hq
     obtain⟨ps,p1,rfl⟩:=jr _ hq rfl
     rw[List.pairwise_map] at hs
     rw[←jQ h2 kvs p1 (hs.imp fun z=>by omega),List.map_map];rfl
end
section
variable {P:Program}{w:World}{K:PySem.W.Frag}{mg:Str→Option Value}{base:Heap}
theorem Z3t (a b:Int × Int):eqD (pD a) (pD b)=decide (a=b):=by
 unfold pD
 have:eqD (.tup [.int a.1,.int a.2]) (.tup [.int b.1,.int b.2])=(decide (a.1=b.1)&&decide (a.2=b.2)):=by
  simp[eqD,eqDs]
  rfl
 rw[this]
 by_cases h1:a.1=b.1 <;> by_cases h2:a.2=b.2 <;> simp[h1,h2,Prod.ext_iff]
theorem Yx (q:Int × Int):∀l:List (Int × Int),inD (pD q) (l.map pD)=decide (q∈l)
 | []=>by simp[inD]
 | a::l=>by
  have ih:=Yx q l
  unfold inD at ih ⊢
  rw[List.map_cons,List.any_cons,ih,Z3t]
  by_cases h:a=q
  · simp[h]
  · have h':¬q=a:=fun z=>h z.symm
    simp[h,h']
def isDueB (n:Nat)(kvs:Kv2)(a b:Int):Bool:=decide ((a,b)∈dueK n kvs) || decide ((b,a)∈dueK n kvs)
def pre_Tree_is_due (t:Adr)(ds:List D)(r:R):Prop:=(∃(n:Nat) (kvs:Kv2) (a b:Int),1≤n∧n≤16∧ds=[treeD t n kvs,.int a,.int b]∧r=.dat (.bl (isDueB n kvs a b))) ∨
 ∃(n:Nat) (kvs:Kv2) (d1 d2:D),plD d1=true∧plD d2=true∧(isW d1&&isW d2)=false∧ds=[treeD t n kvs,d1,d2]∧r=.dat (.bl false)
theorem YQ (q:Int × Int):dep (pD q)<1000:=Nat.lt_of_le_of_lt (show dep (pD q)≤1 from Nat.le_refl 1) (by decide)
theorem Y6 (l:List (Int × Int)):dep (.lst (l.map pD))≤30:=by
 refine Nat.le_trans (YR (k:=1) fun d hd=>?_) (by decide)
 obtain⟨q,_,rfl⟩:=List.mem_map.mp hd
 exact Nat.le_refl 1
theorem ok_Tree_is_due (T:Txt K mg t)(G_Tree_due:Mt P w K mg base 8 t.Tree "due" ["self"] (pre_Tree_due t))(G_is_whole:Fn P w K mg base 1 "is_whole" ["thing"] pre_is_whole):Mt P w K mg base 9 t.Tree "is_due" ["self", "one", "other"] (pre_Tree_is_due t):=by
 refine yq T.m_Tree_is_due sc_Tree_is_due (fun _ _ _ _ _ _ us hl=>match us,hl with | [_,_,_],_=>rfl) (by rintro _ _ (⟨_,_,_,_,_,_,rfl,rfl⟩ | ⟨_,_,_,_,_,_,_,rfl,rfl⟩) <;> rfl) ?_
 rintro _ f cdv A outer s H E rfl hr _ _ (⟨n,kvs,a,b,h1,h2,rfl,rfl⟩ | ⟨n,kvs,d1,d2,p1,p2,hw,rfl,rfl⟩)
 rotate_left
 · refine Zr (Z7 (c:=true) (QW.t (ZN (Zm (Zg (Zc G_is_whole (hr.mono (by decide)) (Z1 (Z0 1 rfl) Z2) ⟨d1,p1,rfl,rfl⟩))) fun _=>ZP (Zm (Zg (Zc G_is_whole (hr.mono (by decide)) (Z1 (Z0 2 rfl) Z2) ⟨d2,p2,rfl,rfl⟩))))) ?_) (fun _=>Zd Yn rfl) (fun z=>nomatch z)
   cases e1:isW d1 <;> cases e2:isW d2 <;> first | rfl | (rw[e1,e2] at hw;cases hw)
 refine Zr (Z7 (c:=false) (QW.t (ZN (b1:=false) (Z7 (c:=false) (Zm (Zg (Zc G_is_whole (hr.mono (by decide)) (Z1 (Z0 1 rfl) Z2) ⟨_,rfl,rfl,rfl⟩))) rfl) fun _=>ZP (bv:=false) (Z7 (c:=false) (Zm (Zg (Zc G_is_whole (hr.mono (by decide)) (Z1 (Z0 2 rfl) Z2) ⟨_,rfl,rfl,rfl⟩))) rfl))) rfl) (fun z=>nomatch z) (fun _=>Ze ?_)
 refine Z4 (Zh 3 (YY G_Tree_due T.cl_Tree (hr.mono (by decide)) (Z0 0 rfl) ⟨n,kvs,h1,h2,rfl,rfl⟩) sc_Tree_is_due.nd) ?_
 refine Y8 3 rfl ?_
 refine Zd (Z5 (Z1K (zh (da:=pD (a,b)) hr.units (ZC (Z1 (Z0 1 rfl) (Z1 (Z0 2 rfl) Z2))) (Z0 3 rfl) (YQ _) (Y6 _)) (fun _=>Yd (zh (da:=pD (b,a)) hr.units (ZC (Z1 (Z0 2 rfl) (Z1 (Z0 1 rfl) Z2))) (Z0 3 rfl) (YQ _) (Y6 _)))) ?_) rfl
 rw[Yx,Yx];rfl
end
section
variable {P:Program}{w:World}{K:PySem.W.Frag}{mg:Str→Option Value}{base:Heap}
theorem j8 {K:PySem.W.Frag}{G:Hp}:∀kvs:Kv2,L2.IsL K G (valsT kvs) ((entV kvs).map (·.2))
 | []=>by show L2.IsL K G [] [];unfold L2.IsL;rfl
 | q::l=>by
  show L2.IsL K G (.int q.2::valsT l) (.int q.2::(entV l).map (·.2))
  unfold L2.IsL
  exact⟨_,_,rfl,Zl,j8 l⟩
theorem TreeAt.is {K:PySem.W.Frag}{H:Hp}{x dx sa wa:Addr}{n:Nat}{kvs:Kv2}(h:TreeAt t H x dx sa wa n kvs):Is K H (treeD t n kvs) (.ref x):=by
 refine j9 h.ins rfl ?_
 unfold L2.IsL;refine⟨_,_,rfl,Is.ofLst (SqL.of h.sl) Z0F,?_⟩
 unfold L2.IsL;refine⟨_,_,rfl,?_,?_⟩
 · unfold Is
   exact⟨wa,entV kvs,rfl,h.wi,by unfold entV keysT;rw[List.map_map];rfl,j8 kvs⟩
 · unfold L2.IsL;rfl
def preR_Tree_told (t:Adr)(vs:List V)(H:Hp)(R:V→Hp→Prop):Prop:=∃(x dx sa wa:Addr) (n:Nat) (kvs:Kv2) (a b:Int),1≤n∧n≤16∧kvs.length≤100∧vs=[.ref x,.int a,.int b]∧TreeAt t H x dx sa wa n kvs∧isDueB n kvs a b=true∧R=fun v H'=>v=.non∧∃H1,Same H H1∧H'=upd H1 wa (.dK (putK (entV kvs) (.inl b) (.int a)))
theorem ok_Tree_told (T:Txt K mg t)(G_Tree_is_due:Mt P w K mg base 9 t.Tree "is_due" ["self", "one", "other"] (pre_Tree_is_due t)):MtR P w K mg base 10 t.Tree "told" ["self", "winner", "loser"] (preR_Tree_told t):=by
 refine Z3m T.m_Tree_told sc_Tree_told (fun _ _ _ _ _ _ us hl=>match us,hl with | [_,_,_],_=>rfl) (by rintro _ _ _ ⟨_,_,_,_,_,_,_,_,_,_,_,rfl,_⟩;rfl) ?_
 rintro _ f cdv A outer s H E rfl hr _ _ ⟨x,dx,sa,wa,n,kvs,a,b,h1,h2,hk,rfl,ta,hd,rfl⟩ De fin _
 have al:∀H',Same H H'→Al K H' [.dat (treeD t n kvs),.dat (.int a),.dat (.int b)] [some (.ref x),some (.int a),some (.int b)]:=fun H' sm=>⟨⟨_,rfl,(ta.mono sm).is⟩,⟨_,rfl,Zl⟩,⟨_,rfl,Zl⟩,trivial⟩
 refine yC (P':=fun σ H1=>σ=[some (.ref x),some (.int a),some (.int b)]∧Same H H1) ?_ (by rintro σ H1 ⟨rfl,rfl⟩;exact⟨rfl,Same.refl _⟩)
 refine Z1H (bv:=false) [.dat (treeD t n kvs),.dat (.int a),.dat (.int b)] (Z7 (c:=false) (Zm (Zg (Yv G_Tree_is_due T.cl_Tree (hr.mono (by decide)) (Z0 0 rfl) (Z1 (Z0 1 rfl) (Z1 (Z0 2 rfl) Z2)) (.inl ⟨n,kvs,a,b,h1,h2,rfl,rfl⟩)))) (by rw[hd];rfl)) (by rintro σ H1 ⟨rfl,sm⟩;exact al H1 sm) (by rintro σ H1 H2 ⟨rfl,sm⟩ s2;exact⟨rfl,sm.trans s2⟩) (fun z=>nomatch z) (fun _=>Zx ?_)
 refine Z19 0 (C:=t.Tree) (kk:=.inl b) (P':=fun σ H'=>∃H1,Same H H1∧H'=upd H1 wa (.dK (putK (entV kvs) (.inl b) (.int a)))) [.un,.dat (.int a),.dat (.int b)] (hu_of hr) (Z0 2 rfl) (Z0 1 rfl) T.cl_Tree T.na_Tree_winners (by rintro σ H1 ⟨rfl,sm⟩;exact⟨trivial,⟨_,rfl,Zl⟩,⟨_,rfl,Zl⟩,trivial⟩) ?_ (Zx (ZU fun σ H' h=>fin σ H' ⟨rfl,h⟩))
 rintro σ H1 v H2 ⟨rfl,sm⟩ s2 iv
 have t2:=ta.mono (sm.trans s2)
 rw[Z8 iv]
 exact⟨x,dx,_,wa,_,rfl,t2.ins,rfl,t2.wi,by unfold entV;rw[List.length_map];exact Nat.lt_of_le_of_lt hk (by decide),fun H3 s3=>⟨H3,(sm.trans s2).trans s3,rfl⟩⟩
end
section
variable {P:Program}{w:World}{K:PySem.W.Frag}{mg:Str→Option Value}{base:Heap}
def isDueD (n:Nat)(kvs:Kv2)(d1 d2:D):Bool:=match d1,d2 with
 | .int a,.int b=>isDueB n kvs a b
 | _,_=>false
def preX_Tree_told (t:Adr)(ds:List D)(C:Addr):Prop:=∃(n:Nat) (kvs:Kv2) (d1 d2:D),1≤n∧n≤16∧plD d1=true∧plD d2=true∧isDueD n kvs d1 d2=false∧ds=[treeD t n kvs,d1,d2]∧C=t.NotDue
theorem yk (T:Txt K mg t)(G_Tree_is_due:Mt P w K mg base 9 t.Tree "is_due" ["self", "one", "other"] (pre_Tree_is_due t)):MtX P w K mg base 10 t.Tree "told" ["self", "winner", "loser"] (fun _ _=>False) (preX_Tree_told t):=by
 refine Z3l T.m_Tree_told sc_Tree_told (fun _ _ _ _ _ _ us hl=>match us,hl with | [_,_,_],_=>rfl) (fun _ _ z=>z.elim) (by rintro _ _ ⟨_,_,_,_,_,_,_,_,_,rfl,_⟩;rfl) (fun _ _ _ _ _ _ _ _ _ _ _ _ z=>z.elim) ?_
 rintro _ f cdv A outer s H E E2 rfl hr xm xf _ _ ⟨n,kvs,d1,d2,h1,h2,p1,p2,hd,rfl,rfl⟩
 have hp:pre_Tree_is_due t [treeD t n kvs,d1,d2] (.dat (.bl false)):=by
  cases hw:(isW d1&&isW d2) with
  | false=>exact .inr ⟨n,kvs,d1,d2,p1,p2,hw,rfl,rfl⟩
  | true =>
   rw[Bool.and_eq_true] at hw
   obtain⟨a,rfl⟩:=YO hw.1
   obtain⟨b,rfl⟩:=YO hw.2
   exact .inl ⟨n,kvs,a,b,h1,h2,rfl,by rw[show isDueB n kvs a b=false from hd]⟩
 refine⟨[.dat (treeD t n kvs),.dat d1,.dat d2],Zr (bv:=true) (Z7 (c:=true) (Zm (Zg (Yv G_Tree_is_due T.cl_Tree (hr.mono (by decide)) (Z0 0 rfl) (Z1 (Z0 1 rfl) (Z1 (Z0 2 rfl) Z2)) hp))) rfl) (fun _=>?_) (fun z=>nomatch z)⟩
 exact zd (yG xm T.xc_NotDue T.x_NotDue (Z1 Jj Z2) (by decide))
end
section
variable {P:Program}{w:World}{K:PySem.W.Frag}{mg:Str→Option Value}{base:Heap}
theorem Z2k {b:Int}{v:V}{kvs:Kv2}(h:outB kvs b=false):putK (entV kvs) (.inl b) v=entV kvs++[(.inl b,v)]:=by
 have e:((entV kvs).any fun kv=>decide (kv.1=(.inl b:Key)))=false:=by
  rw[←h]
  unfold entV outB
  rw[List.any_map]
  congr 1
  funext q
  show decide ((Sum.inl q.1:Key)=.inl b)=(q.1==b)
  by_cases z:q.1=b
  · rw[z];simp
  · have:(Sum.inl q.1:Key) ≠ .inl b:=fun w=>z (Sum.inl.inj w)
    simp[z]
 simp[putK,e]
theorem Z1D (kvs:Kv2)(b a:Int):entV kvs++[(.inl b,.int a)]=entV (kvs++[(b,a)]):=by unfold entV;rw[List.map_append];rfl
end
section
variable {P:Program}{w:World}{K:PySem.W.Frag}{mg:Str→Option Value}{base:Heap}
inductive Bt where
 | lf (o:Option Int):Bt
 | nd (l r:Bt):Bt
def plT:Bt→List Int
 | .lf o=>o.toList
 | .nd l r=>plT l++plT r
def aliveT (kvs:Kv2):Bt→List Int
 | .lf o=>if leftO kvs o then [o.getD 0] else []
 | .nd l r=>aliveT kvs l++aliveT kvs r
def dueT (kvs:Kv2):Bt→List (Int × Int)
 | .lf _=>[]
 | .nd l r=>if bothOne (aliveT kvs l,aliveT kvs r) then [pairI (aliveT kvs l,aliveT kvs r)] else dueT kvs l++dueT kvs r
def liftT:List Bt→List Bt
 | a::b::r=>.nd a b::liftT r
 | _=>[]
def subsT (n:Nat):Nat→List Bt
 | 0=>(slots n).map Bt.lf
 | i+1=>liftT (subsT n i)
def btT (n:Nat):Bt:=(subsT n (lev n)).headD (.lf none)
theorem Y0 (kvs:Kv2):∀t,aliveT kvs t=(plT t).filter fun p=>!outB kvs p
 | .lf none=>rfl
 | .lf (some p)=>by
  show (if leftO kvs (some p) then [p] else [])=[p].filter _
  unfold leftO
  cases h:outB kvs p <;> simp[h]
 | .nd l r=>by
  show aliveT kvs l++aliveT kvs r=(plT l++plT r).filter _
  rw[List.filter_append,Y0 kvs l,Y0 kvs r]
theorem yg (kvs:Kv2)(t:Bt):(aliveT kvs t).Sublist (plT t):=by rw[Y0];exact List.filter_sublist
theorem mem_alive {kvs:Kv2}{t:Bt}{p:Int}:p∈aliveT kvs t↔p∈plT t∧outB kvs p=false:=by
 rw[Y0,List.mem_filter]
 simp
theorem YA {q:List Int × List Int}(h:bothOne q=true):∃a b,q=([a],[b]):=by
 unfold bothOne at h
 rw[Bool.and_eq_true,decide_eq_true_eq,decide_eq_true_eq] at h
 obtain⟨x,y⟩:=q
 obtain⟨h1,h2⟩:=h
 match x,y,h1,h2 with
 | [a],[b],_,_=>exact⟨a,b,rfl⟩
theorem Yl {kvs:Kv2}:∀ {t:Bt},(aliveT kvs t).length≤1→dueT kvs t=[]
 | .lf _,_=>rfl
 | .nd l r,h=>by
  have h':(aliveT kvs l++aliveT kvs r).length≤1:=h
  rw[List.length_append] at h'
  unfold dueT
  rw[if_neg,Yl (t:=l) (by omega),Yl (t:=r) (by omega)]
  · rfl
  · intro z
    obtain⟨a,b,e⟩:=YA z
    cases e':aliveT kvs l <;> cases e2:aliveT kvs r <;> simp_all <;> omega
theorem JV {kvs:Kv2}:∀ {t:Bt},2≤(aliveT kvs t).length→dueT kvs t≠[]
 | .lf o,h=>by
  unfold aliveT at h
  split at h <;> simp at h
 | .nd l r,h=>by
  have h':2≤(aliveT kvs l++aliveT kvs r).length:=h
  rw[List.length_append] at h'
  unfold dueT
  split
  · simp
  · rename_i hb
    intro z
    rw[List.append_eq_nil_iff] at z
    have h1:¬2≤(aliveT kvs l).length:=fun q=>JV q z.1
    have h2:¬2≤(aliveT kvs r).length:=fun q=>JV q z.2
    refine hb ?_
    unfold bothOne
    rw[Bool.and_eq_true,decide_eq_true_eq,decide_eq_true_eq]
    exact⟨by show (aliveT kvs l).length=1;omega,by show (aliveT kvs r).length=1;omega⟩
theorem Jw {kvs:Kv2}{l r:Bt}{q:Int × Int}(h:q∈dueT kvs (.nd l r)):(aliveT kvs l=[q.1]∧aliveT kvs r=[q.2])∨q∈dueT kvs l∨q∈dueT kvs r:=by
 unfold dueT at h
 split at h
 · rename_i hb
   obtain⟨a,b,e⟩:=YA hb
   rw[e] at h
   have e1:aliveT kvs l=[a]:=congrArg Prod.fst e
   have e2:aliveT kvs r=[b]:=congrArg Prod.snd e
   have:q=(a,b):=List.mem_singleton.mp h
   subst this
   exact .inl ⟨e1,e2⟩
 · exact .inr (List.mem_append.mp h)
theorem ZR {kvs:Kv2}:∀ {t:Bt} {q:Int × Int},q∈dueT kvs t→q.1∈aliveT kvs t∧q.2∈aliveT kvs t
 | .lf _,q,h=>by cases h
 | .nd l r,q,h=>by
  show q.1∈aliveT kvs l++aliveT kvs r∧q.2∈aliveT kvs l++aliveT kvs r
  rw[List.mem_append,List.mem_append]
  rcases Jw h with ⟨e1,e2⟩ | h | h
  · rw[e1,e2];exact⟨.inl (List.mem_singleton.mpr rfl),.inr (List.mem_singleton.mpr rfl)⟩
  · exact⟨.inl (ZR h).1,.inl (ZR h).2⟩
  · exact⟨.inr (ZR h).1,.inr (ZR h).2⟩
theorem Z02 {l r:Bt}(h:(plT (.nd l r)).Nodup):(plT l).Nodup∧(plT r).Nodup∧∀a∈plT l,∀b∈plT r,a≠b:=List.nodup_append.mp h
theorem Yg {kvs:Kv2}:∀ {t:Bt} {q:Int × Int},(plT t).Nodup→q∈dueT kvs t→q.1≠q.2
 | .lf _,q,_,h=>by cases h
 | .nd l r,q,nd,h=>by
  obtain⟨n1,n2,n3⟩:=Z02 nd
  rcases Jw h with ⟨e1,e2⟩ | h | h
  · exact n3 _ (mem_alive.mp (by rw[e1];exact List.mem_singleton.mpr rfl)).1 _ (mem_alive.mp (by rw[e2];exact List.mem_singleton.mpr rfl)).1
  · exact Yg n1 h
  · exact Yg n2 h
theorem yb (kvs:Kv2):∀ss:List Bt,joinUp (ss.map (aliveT kvs))=(liftT ss).map (aliveT kvs)
 | []=>rfl
 | [_]=>rfl
 | a::b::r=>by
  have ih:=yb kvs r
  unfold joinUp at ih ⊢
  show (aliveT kvs a++aliveT kvs b)::(pairUp (r.map (aliveT kvs))).map _=_
  rw[ih];rfl
theorem Y1 (n:Nat)(kvs:Kv2):∀i,sidesT n kvs i=(subsT n i).map (aliveT kvs)
 | 0=>by
  show (slots n).map _=((slots n).map Bt.lf).map _
  rw[List.map_map];rfl
 | i+1=>by
  show joinUp (sidesT n kvs i)=_
  rw[Y1 n kvs i];exact yb kvs _
theorem yV (kvs:Kv2):∀ {m:Nat} {ss:List Bt},ss.length=2*m→((liftT ss).flatMap (dueT kvs)).Perm (ss.flatMap (dueT kvs)++((pairUp (ss.map (aliveT kvs))).filter bothOne).map pairI)
 | 0,[],_=>.nil
 | 0,_::_,h=>by simp at h
 | m+1,[],h=>by simp at h
 | m+1,[_],h=>by simp at h;omega
 | m+1,a::b::r,h=>by
  have ih:=yV kvs (m:=m) (ss:=r) (by simp only[List.length_cons] at h;omega)
  show (dueT kvs (.nd a b)++(liftT r).flatMap (dueT kvs)).Perm (dueT kvs a++(dueT kvs b++r.flatMap (dueT kvs))++(((aliveT kvs a,aliveT kvs b)::pairUp (r.map (aliveT kvs))).filter bothOne).map pairI)
  have e0:dueT kvs (.nd a b)=if bothOne (aliveT kvs a,aliveT kvs b) then [pairI (aliveT kvs a,aliveT kvs b)] else dueT kvs a++dueT kvs b:=rfl
  rw[e0]
  by_cases hb:bothOne (aliveT kvs a,aliveT kvs b)=true
  · obtain⟨x,y,e⟩:=YA hb
    have e1:aliveT kvs a=[x]:=congrArg Prod.fst e
    have e2:aliveT kvs b=[y]:=congrArg Prod.snd e
    have d1:=Yl (kvs:=kvs) (t:=a) (by rw[e1];exact Nat.le_refl 1)
    have d2:=Yl (kvs:=kvs) (t:=b) (by rw[e2];exact Nat.le_refl 1)
    rw[if_pos hb,d1,d2,List.filter_cons_of_pos hb,List.map_cons,List.nil_append,List.nil_append]
    refine((ih.cons _)).trans ?_
    exact List.perm_middle.symm
  · rw[if_neg hb,List.filter_cons_of_neg hb]
    generalize ((pairUp (r.map (aliveT kvs))).filter bothOne).map pairI=z at ih ⊢
    rw[List.append_assoc,List.append_assoc,List.append_assoc]
    exact(ih.append_left _).append_left _
theorem YU (n:Nat){i j:Nat}(h:i+j=lev n):(subsT n i).length=2 ^ j:=by
 have:=ZQ n [] i j h
 rw[Y1,List.length_map] at this
 exact this
theorem yL (n:Nat)(kvs:Kv2):∀(i j:Nat),i+j=lev n→((pairsT n kvs i).map pairI).Perm ((subsT n i).flatMap (dueT kvs))
 | 0,j,_=>by
  show List.Perm [] (((slots n).map Bt.lf).flatMap _)
  have:((slots n).map Bt.lf).flatMap (dueT kvs)=[]:=by
   induction slots n with
   | nil=>rfl
   | cons o l ih=>rw[List.map_cons,List.flatMap_cons,ih];rfl
  rw[this]
 | i+1,j,h=>by
  have ih:=yL n kvs i (j+1) (by omega)
  show ((pairsT n kvs i++(pairUp (sidesT n kvs i)).filter bothOne).map pairI).Perm ((liftT (subsT n i)).flatMap (dueT kvs))
  rw[List.map_append,Y1]
  exact(ih.append_right _).trans (yV kvs (m:=2 ^ j) (by rw[YU n (j:=j+1) (by omega),Nat.pow_succ];omega)).symm
theorem JM (n:Nat):subsT n (lev n)=[btT n]:=by
 have:=YU n (i:=lev n) (j:=0) (by omega)
 unfold btT
 match h:subsT n (lev n),this with
 | [a],_=>rfl
theorem Jz (n:Nat)(kvs:Kv2):leftL n kvs=aliveT kvs (btT n):=by
 rw[←Yb n kvs (lev n) 0 (by omega),Y1,JM]
 simp
theorem Ye:∀n∈List.range 17,1≤n→(plT (btT n)).Nodup∧(plT (btT n)).length=n∧(∀p∈plT (btT n),0≤p∧p<(n:Int))∧(∀p∈List.range n,(p:Int)∈plT (btT n))∧(plT (btT n)).Pairwise (fun a b=>slotIx n a≤slotIx n b):=by decide +kernel
theorem Yt (kvs:Kv2):∀t:Bt,((dueT kvs t).map Prod.fst).Sublist (plT t)
 | .lf _=>List.nil_sublist _
 | .nd l r=>by
  unfold dueT
  split
  · rename_i hb
    obtain⟨a,b,e⟩:=YA hb
    have e1:aliveT kvs l=[a]:=congrArg Prod.fst e
    have s:=yg kvs l
    rw[e1] at s
    rw[e]
    exact s.trans (List.sublist_append_left _ _)
  · rw[List.map_append]
    exact(Yt kvs l).append (Yt kvs r)
theorem zI {n:Nat}(h1:1≤n)(h2:n≤16)(kvs:Kv2):dueK n kvs=dueT kvs (btT n):=by
 have hp:=yL n kvs (lev n) 0 (by omega)
 rw[JM] at hp
 have hp':(dueT kvs (btT n)).Perm (prsK n kvs):=by
  have:=hp.symm
  unfold prsK
  simpa using this
 refine(jQ h2 kvs hp' ?_).symm
 have pw:=(Ye n (List.mem_range.mpr (by omega)) h1).2.2.2.2.sublist (Yt kvs (btT n))
 exact(List.pairwise_map (f:=Prod.fst) (R:=fun a b=>slotIx n a≤slotIx n b)).mp pw
theorem ZW (kvs:Kv2)(b a p:Int):outB (kvs++[(b,a)]) p=(outB kvs p || (b==p)):=by
 unfold outB
 rw[List.any_append]
 simp
theorem Y7 (kvs:Kv2)(b a:Int)(t:Bt):aliveT (kvs++[(b,a)]) t=(aliveT kvs t).filter fun p=>!(b==p):=by
 rw[Y0,Y0,List.filter_filter]
 refine List.filter_congr fun p _=>?_
 rw[ZW]
 cases outB kvs p <;> cases (b==p) <;> rfl
theorem Jc {kvs:Kv2}{b a:Int}{t:Bt}(h:b∉plT t):aliveT (kvs++[(b,a)]) t=aliveT kvs t:=by
 rw[Y7]
 refine List.filter_eq_self.mpr fun p hp=>?_
 have:b≠p:=fun z=>h (z▸(mem_alive.mp hp).1)
 simpa using this
theorem jP {b:Int}:∀ {l:List Int},l.Nodup→b∈l→(l.filter fun p=>!(b==p)).length+1=l.length
 | [],_,h=>by cases h
 | x::l,nd,h=>by
  rw[List.nodup_cons] at nd
  by_cases e:b=x
  · subst e
    rw[List.filter_cons_of_neg (by simp)]
    have:(l.filter fun p=>!(b==p))=l:=List.filter_eq_self.mpr fun p hp=>by
     have:b≠p:=fun z=>nd.1 (z▸hp)
     simpa using this
    rw[this];rfl
  · have hb:b∈l:=by
     rcases List.mem_cons.mp h with h | h
     · exact absurd h e
     · exact h
    rw[List.filter_cons_of_pos (by simpa using e),List.length_cons,List.length_cons,jP nd.2 hb]
theorem zK {kvs:Kv2}{b a:Int}{t:Bt}(nd:(plT t).Nodup)(h:b∈aliveT kvs t):(aliveT (kvs++[(b,a)]) t).length+1=(aliveT kvs t).length:=by
 rw[Y7];exact jP ((yg kvs t).nodup nd) h
theorem yh (t:Bt):aliveT [] t=plT t:=by
 rw[Y0]
 exact List.filter_eq_self.mpr fun p _=>rfl
end
section
variable {P:Program}{w:World}{K:PySem.W.Frag}{mg:Str→Option Value}{base:Heap}
def muT (t:Adr)(j:Nat)(x dx sa wa:Addr)(n:Nat)(kvs:Kv2):Mu:=⟨j,.ref x,some wa,treeD t n kvs,fun H=>TreeAt t H x dx sa wa n kvs,fun b=>b=x∨b=sa∨b=wa⟩
theorem Jr {K:PySem.W.Frag}{t:Adr}{j:Nat}{x dx sa wa:Addr}{n:Nat}{kvs:Kv2}:MuOk K (muT t j x dx sa wa n kvs) :=
 ⟨fun H h=>TreeAt.is h,fun H H' h s=>TreeAt.mono h s,fun H H' ws h s hb=>⟨s _ _ (fun z=>(hb x z).1 (.inl rfl)) h.ins,s _ _ (fun z=>(hb sa z).1 (.inr (.inl rfl))) h.sl,s _ _ (fun z=>(hb wa z).1 (.inr (.inr rfl))) h.wi⟩,fun H b h e=>by
  rcases e with e | e | e <;> rw[e]
  · rw[h.ins];exact(fun z=>nomatch z)
  · rw[h.sl];exact(fun z=>nomatch z)
  · rw[h.wi];exact(fun z=>nomatch z),fun b e=>by
  have:some wa=some b:=e
  exact .inr (.inr (Option.some.inj this).symm)⟩
theorem mkT {K:PySem.W.Frag}{t:Adr}{n:Nat}(i:Nat)(h1:1≤n)(h2:n≤16):∀vs H1 a dx,L2.IsL K H1 [.int n] vs→H1 a=none→H1 dx=none→dx≠a→∃R,preJ_Tree t (.ref a::vs) (upd (upd H1 dx (.own a)) a (.ins t.Tree dx [])) R∧∀H',R H'→Same H1 H'∧∃m:Mu,m.j=i∧m.v=.ref a∧(∀b,m.sup b→H1 b=none)∧(∀b,m.a=some b→m.sup b)∧(∃x dx sa wa,m=muT t i x dx sa wa n [])∧m.F H':=fun vs H1 a dx il ha hd ne=>by
 unfold L2.IsL at il
 obtain⟨v,r,rfl,iv,il⟩:=il
 unfold L2.IsL at il
 subst il
 rw[Z8 iv]
 refine⟨newTree t H1 a n,⟨a,dx,n,H1,h1,h2,rfl,ha,hd,ne,rfl,rfl⟩,fun H' hR=>?_⟩
 obtain⟨dx',sa,wa,s,n1,n2,n3,n4,n5,ta⟩:=hR
 refine⟨s,muT t i a dx' sa wa n [],rfl,rfl,fun b e=>?_,(Jr (K:=K)).own,⟨a,dx',sa,wa,rfl⟩,ta⟩
 rcases e with e | e | e <;> rw[e]
 · exact ha
 · exact n1
 · exact n2
theorem atT {t:Adr}{j:Nat}{x dx sa wa:Addr}{n:Nat}{kvs:Kv2}{mn:Str}(h1:(mn==("slots" : Str))=false)(h2:(mn==("winners" : Str))=false):∀H,(muT t j x dx sa wa n kvs).F H→∃a dx fs,(muT t j x dx sa wa n kvs).v=.ref a∧H a=some (.ins t.Tree dx fs)∧fs.lookup mn=none:=fun H h=>⟨x,dx,_,rfl,h.ins,by simp[List.lookup,h1,h2]⟩
theorem toldT {K:PySem.W.Frag}{t:Adr}{j:Nat}{x dx sa wa:Addr}{n:Nat}{kvs:Kv2}{a b:Int}(h1:1≤n)(h2:n≤16)(hk:kvs.length≤100)(hd:isDueB n kvs a b=true)(ho:outB kvs b=false) :
 ∀H vs,(muT t j x dx sa wa n kvs).F H→L2.IsL K H [.int a,.int b] vs→∃R,preR_Tree_told t ((muT t j x dx sa wa n kvs).v::vs) H R∧∀v H',R v H'→∃H1 o es,Same H H1∧H1 wa=some (.dK es)∧H'=upd H1 wa o∧(muT t j x dx sa wa n (kvs++[(b,a)])).F H':=fun H vs ta il=>by
 unfold L2.IsL at il
 obtain⟨v,r,rfl,iv,il⟩:=il
 unfold L2.IsL at il
 obtain⟨u,r,rfl,iu,il⟩:=il
 unfold L2.IsL at il
 subst il
 rw[Z8 iv,Z8 iu]
 refine⟨_,⟨x,dx,sa,wa,n,kvs,a,b,h1,h2,hk,rfl,ta,hd,rfl⟩,fun v H' hR=>?_⟩
 obtain⟨_,H1,s,rfl⟩:=hR
 have t1:=TreeAt.mono ta s
 refine⟨H1,_,_,s,t1.wi,rfl,?_⟩
 have n1:x≠wa:=fun z=>by have:=t1.ins;rw[z,t1.wi] at this;cases this
 have n2:sa≠wa:=fun z=>by have:=t1.sl;rw[z,t1.wi] at this;cases this
 refine⟨?_,?_,?_⟩
 · show (upd H1 wa _) x=_
   rw[upd_ne n1];exact t1.ins
 · show (upd H1 wa _) sa=_
   rw[upd_ne n2];exact t1.sl
 · show (upd H1 wa _) wa=_
   rw[upd_same,Z2k ho,Z1D]
theorem jg {n:Nat}(h1:1≤n)(h2:n≤16){kvs:Kv2}{q:Int × Int}:q∈dueK n kvs↔q∈dueT kvs (btT n):=by rw[zI h1 h2]
theorem Z1E {n:Nat}(h1:1≤n)(h2:n≤16){kvs:Kv2}(h:2≤(aliveT kvs (btT n)).length):dueK n kvs≠[]:=by rw[zI h1 h2];exact JV h
theorem Z2B {n:Nat}(h1:1≤n)(h2:n≤16)(kvs:Kv2):(dueK n kvs).length≤16:=by
 rw[zI h1 h2]
 have:=(Yt kvs (btT n)).length_le
 rw[List.length_map,(Ye n (List.mem_range.mpr (by omega)) h1).2.1] at this
 omega
end
section
variable {P:Program}{w:World}{K:PySem.W.Frag}{mg:Str→Option Value}{base:Heap}
def drawn (ns:List Int)(k m:Nat):Int:=(104729*(k:Int)*k+48271+if ns.length>0 then ns.getD (k % ns.length) 0 % 10 ^ (40:Int).toNat*(2*(k:Int)+69621) else 0) % 2147483647 / 3 % m
def pre__law_drawn (ds:List D)(r:R):Prop:=∃(ns:List Int) (k m:Nat),k≤10000∧0<m∧ds=[.lst (ns.map D.int),.int k,.int m]∧r=.dat (.int (drawn ns k m))
theorem ok__law_drawn (T:Txt K mg t):Fn P w K mg base 1 "_law_drawn" ["_law_script", "_law_k", "_law_size"] pre__law_drawn:=by
 refine ZO T.d__law_drawn sc__law_drawn (fun _ _ _ _ _ _ us hl=>match us,hl with | [_,_,_],_=>rfl) (by rintro _ _ ⟨ns,k,m,_,_,rfl,rfl⟩;rfl) ?_
 rintro _ f cdv A outer s H E rfl hr _ _ ⟨ns,k,m,hk,hm,rfl,rfl⟩
 have kb:-(2 ^ 64)<104729*(k:Int)∧104729*(k:Int)<2 ^ 64:=⟨by omega,by omega⟩
 refine Z4 (Zh 3 (Z6 op_add Zo (Z6 op_mul (ZT (.inl kb)) (Z6 op_mul (ZT (.inl ⟨by decide,by decide⟩)) Z3 (Z0 1 rfl)) (Z0 1 rfl)) Z3) sc__law_drawn.nd) ?_
 refine Z2c [.dat (.lst (ns.map D.int)),.dat (.int k),.dat (.int m),.dat (.int (104729*(k:Int)*k+48271+if ns.length>0 then ns.getD (k % ns.length) 0 % 10 ^ (40:Int).toNat*(2*(k:Int)+69621) else 0))] (Zi op_gt Y3 (Zj call_len_seq (Zu rfl) T.b_len Zv (Z1 (Z0 0 rfl) Z2)) Z3 (nomark _)) (fun h=>?_) (fun h=>?_) ?_
 · have hl:0<ns.length:=by have:=of_decide_eq_true h;rw[List.length_map] at this;omega
   have m0:0≤(k:Int) % (ns.length:Int)∧(k:Int) % (ns.length:Int)<ns.length:=⟨Int.emod_nonneg _ (by omega),Int.emod_lt_of_pos _ (by omega)⟩
   refine Z4 (Zh 3 (Z6 op_add Zo (Z0 3 rfl) (Z6 op_mul (ZT (.inr ⟨by omega,by omega⟩)) (Z6 op_mod (ZT (by decide)) (ZL (i:=(k:Int) % (ns.length:Int)) (Z0 0 rfl) (Z5 (Z6 op_mod (ZT (by rw[List.length_map];omega)) (Z0 1 rfl) (Zj call_len_seq (Zu rfl) T.b_len Zv (Z1 (Z0 0 rfl) Z2))) (by rw[List.length_map])) (Z0f m0.1 m0.2)) (Z0s Z3 Z3)) (Z6 op_add Zo (Z6 op_mul (ZT (.inl ⟨by decide,by decide⟩)) Z3 (Z0 1 rfl)) Z3))) sc__law_drawn.nd) ?_
   refine Ze (ze ⟨.inr rfl,.inr rfl,.inr rfl,.inr ?_,True.intro⟩)
   rw[if_pos hl]
   have:((k:Int) % (ns.length:Int)).toNat=k % ns.length:=by omega
   rw[this];rfl
 · have hl:¬ns.length>0:=by have:=of_decide_eq_false h;rw[List.length_map] at this;omega
   refine Ze (ze ⟨.inr rfl,.inr rfl,.inr rfl,.inr ?_,True.intro⟩)
   rw[if_neg hl];rfl
 · refine Zd (Z6 op_mod (ZT (by omega)) (Z6 op_fdiv (ZT ⟨by decide,by decide⟩) (Z6 op_mod (ZT (by decide)) (Z0 3 rfl) Z3) Z3) (Z0 2 rfl)) ?_
   rfl
theorem ZJ {ns:List Int}{k m:Nat}(hm:0<m):0≤drawn ns k m∧drawn ns k m<m:=⟨Int.emod_nonneg _ (by omega),Int.emod_lt_of_pos _ (by omega)⟩
theorem drawn2 {ns:List Int}{k:Nat}:drawn ns k 2=0∨drawn ns k 2=1:=by
 have:=ZJ (ns:=ns) (k:=k) (m:=2) (by decide)
 omega
def pre__law_slots (ds:List D)(r:R):Prop:=∃n:Nat,1≤n∧n≤16∧ds=[.int n]∧r=.own ((slots n).map oD)
theorem ok__law_slots (T:Txt K mg t):Fn P w K mg base 1 "_law_slots" ["_law_n"] pre__law_slots:=by
 refine ZO T.d__law_slots sc__law_slots (fun _ _ _ _ _ _ us hl=>match us,hl with | [_],_=>rfl) (by rintro _ _ ⟨n,_,_,rfl,rfl⟩;rfl) ?_
 rintro _ f cdv A outer s H E rfl hr _ _ ⟨n,hn1,hn2,rfl,rfl⟩
 obtain⟨hf,hend,hle,hfl⟩:=Js n (List.mem_range.mpr (by omega)) hn1
 refine Z4 (Zh 1 (ZA (Z1 Z3 Z2)) sc__law_slots.nd) ?_
 refine Y8 1 rfl ?_
 refine Z4 (YX (lev n) (fun i=>[.dat (.int n),.dat (.lst ((row i).map D.int)),.un]) ⟨.inr rfl,.inr rfl,.inl rfl,True.intro⟩ (fun i hi=>?_) ?_ (fun i hi=>?_) PassesOwn.never) ?_
 · have h1:=hf i (List.mem_range.mpr hi)
   refine Z7 (Zi op_lt Y3 (Zj call_len_seq (Zu rfl) T.b_len Zv (Z1 (Z0 1 rfl) Z2)) (Z0 0 rfl) (nomark _)) ?_
   rw[List.length_map];exact decide_eq_true (by omega)
 · refine Z7 (Zi op_lt Y3 (Zj call_len_seq (Zu rfl) T.b_len Zv (Z1 (Z0 1 rfl) Z2)) (Z0 0 rfl) (nomark _)) ?_
   rw[List.length_map];exact decide_eq_false (by omega)
 · have h1:=hfl i (List.mem_range.mpr hi)
   have hpos:0<(row i).length:=jA i
   have hnx:row (i+1)=(row i).flatMap fun (s:Int)=>[s,2*((row i).length:Int)-1-s]:=rfl
   rw[hnx]
   generalize row i=l at *
   refine Z4 (Zh 2 (Z6 op_mul (ZT (.inl ⟨by decide,by decide⟩)) Z3 (Zj call_len_seq (Zu rfl) T.b_len Zv (Z1 (Z0 1 rfl) Z2))) sc__law_slots.nd) ?_
   rw[List.length_map]
   have ed:∀l2:List Int,(l2.map fun (s:Int)=>[D.int s,D.int (2*(l.length:Int)-1-s)]).flatten=(l2.flatMap fun (s:Int)=>[s,2*(l.length:Int)-1-s]).map D.int:=fun l2=>by
    induction l2 with
    | nil=>rfl
    | cons a q ih=>rw[List.map_cons,List.flatten_cons,List.flatMap_cons,List.map_append,ih];rfl
   have el:∀l2:List Int,(l2.flatMap fun (s:Int)=>[s,2*(l.length:Int)-1-s]).length=2*l2.length:=fun l2=>by
    induction l2 with
    | nil=>rfl
    | cons a q ih=>rw[List.flatMap_cons,List.length_append,ih];simp only[List.length_cons,List.length_nil];omega
   refine Z4 (Zh 1 (Zj (jv rfl) (Z2E (dss:=l.map fun (s:Int)=>[D.int s,D.int (2*(l.length:Int)-1-s)]) (fun z=>by
    have:=congrArg List.length z
    rw[List.length_map] at this
    simp at this
    rw[this] at hpos
    exact absurd hpos (by decide)) (by rw[ed,List.length_map,el];exact Nat.le_trans (show 2*l.length≤32 by omega) (by decide))) T.b_sum Z3x (Z1 (r:=.own ((l.map fun (s:Int)=>[D.int s,D.int (2*(l.length:Int)-1-s)]).map D.lst)) (Z5 (zC (N:=["_law_slot", "_law_size"]) (gl:=l) (f:=D.int) (F:=fun s=>.lst [D.int s,D.int (2*(l.length:Int)-1-s)]) [none,some 2] (ZZ (out':=defScope s__law_slots) rfl ⟨rfl,by decide +kernel,by decide +kernel,by decide +kernel,by decide +kernel,rfl⟩) (ZI (N0:=["_law_n", "_law_slots_here", "_law_size"]) rfl (ZH (by decide +kernel))) (Z0 1 rfl) (fun C fp s H=>pg_name (i:=0) (show List.Nodup (["_law_slot", "_law_size"]:List Str) by decide +kernel) rfl (Or.inl rfl)) (fun z hg C fp s H=>Zw (ZA (Z1 (Z0 0 rfl) (Z1 (Z6 op_sub Zo (Z6 op_sub Zo (Z0 1 rfl) Z3) (Z0 0 rfl)) Z2)))) (Nat.le_trans h1 (by decide))) (by rw[List.map_map];rfl)) (Z1 (ZA Z2) Z2))) sc__law_slots.nd) ?_
   rw[ed]
   refine Y8 1 rfl ?_
   exact Ze (ZK ⟨.inr rfl,.inr rfl,.inl rfl,True.intro⟩)
 · refine Zd (zC (N := ["_law_slot", "_law_n"]) (gl := row (lev n)) (f := D.int) (F := fun z => oD (if z < (n : Int) then some z else none)) [none, some 0] (ZZ (out' := defScope s__law_slots) rfl ⟨rfl, by decide +kernel, by decide +kernel, by decide +kernel, by decide +kernel, rfl⟩) (ZI (N0 := ["_law_n", "_law_slots_here", "_law_size"]) rfl (ZH (by decide +kernel))) (Z0 1 rfl) (fun C fp s H => pg_name (i := 0) (show List.Nodup (["_law_slot", "_law_n"] : List Str) by decide +kernel) rfl (Or.inl rfl)) (fun z hg C fp s H => ZL (ds := [.int z, .non]) (Zw (ZA (Z1 (Z0 0 rfl) (Z1 Zt Z2)))) (Z0y call_int1 Z2F T.b_int jj (Z1 (ZV op_ge Y3 (Z0 0 rfl) (Z0 1 rfl) (nomark _)) Z2)) (by
       by_cases q:z<(n:Int)
       · have:¬((n:Int)≤z):=by omega
         rw[if_pos q,decide_eq_false this];rfl
       · have:(n:Int)≤z:=by omega
         rw[if_neg q,decide_eq_true this];rfl)) (Nat.le_trans hle (by decide))) ?_
   unfold slots
   rw[List.map_map];rfl
end
section
variable {P:Program}{w:World}{K:PySem.W.Frag}{mg:Str→Option Value}{base:Heap}
def beatB (kvs:Kv2):Option Int→Option Int→Bool
 | none,_=>true
 | some p,b=>decide (some ((byT kvs p).getD (-1))=b)
def ovJ (kvs:Kv2):Option (Option Int)→Option (Option Int)→Option (Option Int)
 | some a,some b=>if beatB kvs a b then some b else if beatB kvs b a then some a else none
 | _,_=>none
theorem Yq (kvs:Kv2)(a b:Option Int):ovJ kvs (some a) (some b)=if beatB kvs a b then some b else if beatB kvs b a then some a else none:=rfl
def ovT (kvs:Kv2):Bt→Option (Option Int)
 | .lf o=>some o
 | .nd l r=>ovJ kvs (ovT kvs l) (ovT kvs r)
theorem Z0E {kvs:Kv2}{p:Int}(h:outB kvs p=false):byT kvs p=none:=by
 rw[←Yz] at h
 cases e:byT kvs p with
 | none=>rfl
 | some z=>rw[e] at h;cases h
theorem Z0Z {kvs:Kv2}{p w:Int}(h:byT kvs p=some w):outB kvs p=true:=by rw[←Yz,h];rfl
theorem JH {kvs:Kv2}{b a p:Int}(ho:outB kvs b=false):byT (kvs++[(b,a)]) p=if b=p then some a else byT kvs p:=by
 induction kvs with
 | nil=>rfl
 | cons q l ih =>
  have ho':¬q.1=b∧outB l b=false:=by
   unfold outB at ho
   rw[List.any_cons,Bool.or_eq_false_iff] at ho
   exact⟨by simpa using ho.1,ho.2⟩
  show (if q.1=p then some q.2 else byT (l++[(b,a)]) p)=if b=p then some a else if q.1=p then some q.2 else byT l p
  rw[ih ho'.2]
  by_cases h1:q.1=p
  · rw[if_pos h1,if_pos h1]
    have:¬b=p:=fun z=>ho'.1 (h1.trans z.symm)
    rw[if_neg this]
  · rw[if_neg h1,if_neg h1]
theorem ZS {kvs:Kv2}:∀ {t:Bt} {w:Int},ovT kvs t=some (some w)→w∈plT t
 | .lf o,w,h=>by
  have h':some o=some (some w):=h
  cases h';exact List.mem_singleton.mpr rfl
 | .nd l r,w,h=>by
  have h':ovJ kvs (ovT kvs l) (ovT kvs r)=some (some w):=h
  show w∈plT l++plT r
  rw[List.mem_append]
  cases hl:ovT kvs l with
  | none=>rw[hl] at h';cases h'
  | some a =>
   cases hr:ovT kvs r with
   | none=>rw[hl,hr] at h';cases h'
   | some b =>
    rw[hl,hr,Yq] at h'
    by_cases q1:beatB kvs a b=true
    · rw[if_pos q1] at h'
      cases h';exact .inr (ZS hr)
    · rw[if_neg q1] at h'
      by_cases q2:beatB kvs b a=true
      · rw[if_pos q2] at h'
        cases h';exact .inl (ZS hl)
      · rw[if_neg q2] at h'
        cases h'
theorem JD {kvs kvs':Kv2}:∀ {t:Bt},(∀p∈plT t,0≤p)→(∀p∈plT t,∀q∈plT t,byT kvs p=some q↔byT kvs' p=some q)→ovT kvs' t=ovT kvs t
 | .lf _,_,_=>rfl
 | .nd l r,h0,h=>by
  have hl:=JD (kvs:=kvs) (kvs':=kvs') (t:=l) (fun p hp=>h0 p (List.mem_append_left _ hp)) fun p hp q hq=>h p (List.mem_append_left _ hp) q (List.mem_append_left _ hq)
  have hr:=JD (kvs:=kvs) (kvs':=kvs') (t:=r) (fun p hp=>h0 p (List.mem_append_right _ hp)) fun p hp q hq=>h p (List.mem_append_right _ hp) q (List.mem_append_right _ hq)
  show ovJ kvs' (ovT kvs' l) (ovT kvs' r)=ovJ kvs (ovT kvs l) (ovT kvs r)
  rw[hl,hr]
  have key:∀ {p q:Int},p∈plT (.nd l r)→q∈plT (.nd l r)→beatB kvs' (some p) (some q)=beatB kvs (some p) (some q):=fun {p q} hp hq=>by
   show decide (some ((byT kvs' p).getD (-1))=some q)=decide (some ((byT kvs p).getD (-1))=some q)
   have hi:=h p hp q hq
   have q0:=h0 q hq
   refine decide_eq_decide.mpr ?_
   have e1:∀o:Option Int,some (o.getD (-1))=some q↔o=some q:=fun o=>by
    cases o with
    | none=>simp;omega
    | some z=>simp
   rw[e1,e1];exact hi.symm
  cases e1:ovT kvs l with
  | none=>rfl
  | some a =>
   cases e2:ovT kvs r with
   | none=>rfl
   | some b =>
    rw[Yq,Yq]
    cases a with
    | none=>rfl
    | some x =>
     cases b with
     | none=>rfl
     | some y =>
      have hx:x∈plT (.nd l r):=List.mem_append_left _ (ZS e1)
      have hy:y∈plT (.nd l r):=List.mem_append_right _ (ZS e2)
      rw[key hx hy,key hy hx]
structure OvAt (kvs:Kv2)(t:Bt):Prop where
 no:ovT kvs t=none↔2≤(aliveT kvs t).length
 yes:∀w,ovT kvs t=some (some w)→aliveT kvs t=if outB kvs w then [] else [w]
 nob:ovT kvs t=some none→aliveT kvs t=[]
def OvOk (kvs:Kv2):Bt→Prop
 | .lf _=>True
 | .nd l r=>OvOk kvs l∧OvOk kvs r∧OvAt kvs (.nd l r)∧(ovT kvs (.nd l r)=none→(∀v,ovT kvs l=some (some v)→outB kvs v=false)∧∀v,ovT kvs r=some (some v)→outB kvs v=false)
theorem OvOk.at {kvs:Kv2}:∀ {t:Bt},OvOk kvs t→OvAt kvs t
 | .lf o,_=>by
  refine⟨⟨fun h=>(nomatch h),fun h=>?_⟩,fun w h=>?_,fun h=>?_⟩
  · unfold aliveT at h;split at h <;> simp at h
  · have h':some o=some (some w):=h
    cases h'
    show (if leftO kvs (some w) then [w] else [])=_
    have:leftO kvs (some w) = !outB kvs w:=rfl
    rw[this]
    cases outB kvs w <;> rfl
  · have h':some o=some none:=h
    cases h';rfl
 | .nd _ _,h=>h.2.2.1
theorem OvAt.one {kvs:Kv2}{t:Bt}{a:Int}(o:OvAt kvs t)(h:aliveT kvs t=[a]):ovT kvs t=some (some a)∧outB kvs a=false:=by
 have ha:=(mem_alive.mp (show a∈aliveT kvs t by rw[h];exact List.mem_singleton.mpr rfl)).2
 cases e:ovT kvs t with
 | none=>have:=o.no.mp e;rw[h] at this;simp at this
 | some x =>
  cases x with
  | none=>have:=o.nob e;rw[h] at this;cases this
  | some w =>
   have:=o.yes w e
   rw[h] at this
   split at this
   · cases this
   · cases this;exact⟨rfl,ha⟩
theorem J7:∀t:Bt,(∀p∈plT t,0≤p)→(plT t).Nodup→OvOk [] t
 | .lf _,_,_=>trivial
 | .nd l r,h0,nd=>by
  obtain⟨n1,n2,_⟩:=Z02 nd
  have ol:=J7 l (fun p hp=>h0 p (List.mem_append_left _ hp)) n1
  have or_:=J7 r (fun p hp=>h0 p (List.mem_append_right _ hp)) n2
  have al:=ol.at
  have ar:=or_.at
  have nob:∀v:Int,outB [] v=false:=fun _=>rfl
  have lf1:∀ {t:Bt} {w:Int},OvAt [] t→ovT [] t=some (some w)→aliveT [] t=[w]:=fun o e=>by have:=o.yes _ e;rw[nob] at this;exact this
  refine⟨ol,or_,?_,fun _=>⟨fun v _=>nob v,fun v _=>nob v⟩⟩
  have ej:ovT [] (.nd l r)=ovJ [] (ovT [] l) (ovT [] r):=rfl
  have ea:aliveT [] (.nd l r)=aliveT [] l++aliveT [] r:=rfl
  have bt:∀x y:Int,0≤y→beatB [] (some x) (some y)=false:=fun x y hy=>by
   show decide (some ((none:Option Int).getD (-1))=some y)=false
   simp;omega
  rcases hl:ovT [] l with _ | _ | x
  · have:=al.no.mp hl
    refine⟨⟨fun _=>by rw[ea,List.length_append];omega,fun _=>by rw[ej,hl];rfl⟩,fun w h=>(by rw[ej,hl] at h;cases h),fun h=>(by rw[ej,hl] at h;cases h)⟩
  · have e1:=al.nob hl
    have e3:ovT [] (.nd l r)=ovT [] r:=by
     rw[ej,hl]
     cases ovT [] r with
     | none=>rfl
     | some b=>rfl
    rw[e1,List.nil_append] at ea
    exact⟨by rw[e3,ea];exact ar.no,fun w h=>by rw[ea];exact ar.yes w (e3▸h),fun h=>by rw[ea];exact ar.nob (e3▸h)⟩
  · have e1:=lf1 al hl
    rcases hr:ovT [] r with _ | _ | y
    · have:=ar.no.mp hr
      refine⟨⟨fun _=>by rw[ea,List.length_append];omega,fun _=>by rw[ej,hl,hr];rfl⟩,fun w h=>(by rw[ej,hl,hr] at h;cases h),fun h=>(by rw[ej,hl,hr] at h;cases h)⟩
    · have e2:=ar.nob hr
      have e3:ovT [] (.nd l r)=some (some x):=by
       rw[ej,hl,hr]
       rfl
      rw[e1,e2] at ea
      refine⟨⟨fun h=>(by rw[e3] at h;cases h),fun h=>(by rw[ea] at h;simp at h)⟩,fun w h=>?_,fun h=>(by rw[e3] at h;cases h)⟩
      rw[e3] at h
      cases h
      rw[ea,nob];rfl
    · have e2:=lf1 ar hr
      have hx0:=h0 x (List.mem_append_left _ (ZS hl))
      have hy0:=h0 y (List.mem_append_right _ (ZS hr))
      have e3:ovT [] (.nd l r)=none:=by
       rw[ej,hl,hr]
       rw[Yq,bt x y hy0,bt y x hx0];rfl
      rw[e1,e2] at ea
      refine⟨⟨fun _=>by rw[ea];simp,fun _=>e3⟩,fun w h=>(by rw[e3] at h;cases h),fun h=>(by rw[e3] at h;cases h)⟩
theorem YC {kvs:Kv2}{b a:Int}(hob:outB kvs b=false):∀ {t:Bt},(∀p∈plT t,0≤p)→a∉plT t→(∀p∈aliveT kvs t,p=b)→(aliveT kvs t).length≤1→OvOk kvs t→OvOk (kvs++[(b,a)]) t∧ovT (kvs++[(b,a)]) t=ovT kvs t
 | .lf _,_,_,_,_,_=>⟨trivial,rfl⟩
 | .nd l r,h0,ha,hb,hl1,o=>by
  have ha':a∉plT l++plT r:=ha
  rw[List.mem_append,not_or] at ha'
  have ea:aliveT kvs (.nd l r)=aliveT kvs l++aliveT kvs r:=rfl
  rw[ea,List.length_append] at hl1
  have il:=YC hob (t:=l) (fun p hp=>h0 p (List.mem_append_left _ hp)) ha'.1 (fun p hp=>hb p (by rw[ea];exact List.mem_append_left _ hp)) (by omega) o.1
  have ir:=YC hob (t:=r) (fun p hp=>h0 p (List.mem_append_right _ hp)) ha'.2 (fun p hp=>hb p (by rw[ea];exact List.mem_append_right _ hp)) (by omega) o.2.1
  have es:ovT (kvs++[(b,a)]) (.nd l r)=ovT kvs (.nd l r):=JD h0 fun p hp q hq=>by
   rw[JH hob]
   by_cases z:b=p
   · rw[if_pos z]
     constructor
     · intro h
       have:=Z0Z h
       rw[←z,hob] at this;cases this
     · intro h
       cases h
       exact absurd hq ha
   · rw[if_neg z]
  have hn:ovT kvs (.nd l r)≠none:=fun z=>by
   have:=o.2.2.1.no.mp z
   rw[ea,List.length_append] at this
   omega
  have hgone:aliveT (kvs++[(b,a)]) (.nd l r)=[]:=by
   rw[Y7]
   exact List.filter_eq_nil_iff.mpr fun p hp=>by simp[(hb p hp).symm]
  refine⟨⟨il.1,ir.1,⟨⟨fun h=>absurd (es▸h) hn,fun h=>(by rw[hgone] at h;simp at h)⟩,fun w h=>?_,fun _=>hgone⟩,fun h=>absurd (es▸h) hn⟩,es⟩
  rw[es] at h
  have hy:=o.2.2.1.yes w h
  rw[hgone]
  have:outB (kvs++[(b,a)]) w=true:=by
   rw[ZW]
   cases e:outB kvs w with
   | true=>rfl
   | false =>
    rw[e] at hy
    have:w=b:=hb w (by rw[hy];exact List.mem_singleton.mpr rfl)
    simp[this]
  rw[this];rfl
theorem Ya {kvs:Kv2}{b a:Int}(hob:outB kvs b=false):∀ {t:Bt},(∀p∈plT t,0≤p)→b∉plT t→OvOk kvs t→OvOk (kvs++[(b,a)]) t∧ovT (kvs++[(b,a)]) t=ovT kvs t
 | .lf _,_,_,_=>⟨trivial,rfl⟩
 | .nd l r,h0,hb,o=>by
  have hb':b∉plT l++plT r:=hb
  rw[List.mem_append,not_or] at hb'
  have il:=Ya (a:=a) hob (t:=l) (fun p hp=>h0 p (List.mem_append_left _ hp)) hb'.1 o.1
  have ir:=Ya (a:=a) hob (t:=r) (fun p hp=>h0 p (List.mem_append_right _ hp)) hb'.2 o.2.1
  have es:ovT (kvs++[(b,a)]) (.nd l r)=ovT kvs (.nd l r):=JD h0 fun p hp q hq=>by
   rw[JH hob,if_neg (show ¬b=p from fun z=>hb (z▸hp))]
  have eo:∀w,w∈plT (.nd l r)→outB (kvs++[(b,a)]) w=outB kvs w:=fun w hw=>by
   have:b≠w:=fun z=>hb (z▸hw)
   rw[ZW,show (b==w)=false by simpa using this,Bool.or_false]
  have ea:=Jc (kvs:=kvs) (a:=a) hb
  refine⟨⟨il.1,ir.1,⟨by rw[es,ea];exact o.2.2.1.no,fun w h=>?_,fun h=>by rw[ea];exact o.2.2.1.nob (es▸h)⟩,fun h=>⟨fun v hv=>?_,fun v hv=>?_⟩⟩,es⟩
  · rw[es] at h
    rw[ea,eo w (ZS h)]
    exact o.2.2.1.yes w h
  · rw[il.2] at hv
    rw[eo v (List.mem_append_left _ (ZS hv))]
    exact(o.2.2.2 (es▸h)).1 v hv
  · rw[ir.2] at hv
    rw[eo v (List.mem_append_right _ (ZS hv))]
    exact(o.2.2.2 (es▸h)).2 v hv
theorem jG {kvs:Kv2}{x y:Int}(hx:outB kvs x=false)(hy:outB kvs y=false)(x0:0≤x)(y0:0≤y):ovJ kvs (some (some x)) (some (some y))=none:=by
 have bt:∀x y:Int,outB kvs x=false→0≤y→beatB kvs (some x) (some y)=false:=fun x y hx hy=>by
  show decide (some ((byT kvs x).getD (-1))=some y)=false
  rw[Z0E hx]
  simp;omega
 rw[Yq,bt x y hx y0,bt y x hy x0];rfl
theorem Z0D {kvs:Kv2}{l r:Bt}(h0:∀p∈plT (.nd l r),0≤p)(ol:OvOk kvs l)(or_:OvOk kvs r)(hal:aliveT kvs l≠[])(hr:∀v,ovT kvs r=some (some v)→outB kvs v=false):OvAt kvs (.nd l r)∧(ovT kvs (.nd l r)=none→(∀v,ovT kvs l=some (some v)→outB kvs v=false)∧∀v,ovT kvs r=some (some v)→outB kvs v=false):=by
 have ej:ovT kvs (.nd l r)=ovJ kvs (ovT kvs l) (ovT kvs r):=rfl
 have ea:aliveT kvs (.nd l r)=aliveT kvs l++aliveT kvs r:=rfl
 have al:=ol.at
 have ar:=or_.at
 have hlv:∀v,ovT kvs l=some (some v)→outB kvs v=false∧aliveT kvs l=[v]:=fun v hv=>by
  have:=al.yes v hv
  cases e:outB kvs v with
  | true=>rw[e] at this;exact absurd this hal
  | false=>rw[e] at this;exact⟨rfl,this⟩
 refine⟨?_,fun _=>⟨fun v hv=>(hlv v hv).1,hr⟩⟩
 rcases hl:ovT kvs l with _ | _ | x
 · have:=al.no.mp hl
   exact⟨⟨fun _=>by rw[ea,List.length_append];omega,fun _=>by rw[ej,hl];rfl⟩,fun w h=>(by rw[ej,hl] at h;cases h),fun h=>(by rw[ej,hl] at h;cases h)⟩
 · exact absurd (al.nob hl) hal
 · obtain⟨ox,e1⟩:=hlv x hl
   rcases hr':ovT kvs r with _ | _ | y
   · have:=ar.no.mp hr'
     exact⟨⟨fun _=>by rw[ea,List.length_append];omega,fun _=>by rw[ej,hl,hr'];rfl⟩,fun w h=>(by rw[ej,hl,hr'] at h;cases h),fun h=>(by rw[ej,hl,hr'] at h;cases h)⟩
   · have e2:=ar.nob hr'
     have e3:ovT kvs (.nd l r)=some (some x):=by rw[ej,hl,hr'];rfl
     rw[e1,e2] at ea
     refine⟨⟨fun h=>(by rw[e3] at h;cases h),fun h=>(by rw[ea] at h;simp at h)⟩,fun w h=>?_,fun h=>(by rw[e3] at h;cases h)⟩
     rw[e3] at h
     cases h
     rw[ea,ox];rfl
   · have oy:=hr y hr'
     have e2:=ar.yes y hr'
     rw[oy] at e2
     have e3:ovT kvs (.nd l r)=none:=by
      rw[ej,hl,hr']
      exact jG ox oy (h0 x (List.mem_append_left _ (ZS hl))) (h0 y (List.mem_append_right _ (ZS hr')))
     rw[e1,e2] at ea
     exact⟨⟨fun _=>by rw[ea];simp,fun _=>e3⟩,fun w h=>(by rw[e3] at h;cases h),fun h=>(by rw[e3] at h;cases h)⟩
theorem Z01 {kvs:Kv2}{l r:Bt}(h0:∀p∈plT (.nd l r),0≤p)(ol:OvOk kvs l)(or_:OvOk kvs r)(hal:aliveT kvs r≠[])(hl':∀v,ovT kvs l=some (some v)→outB kvs v=false):OvAt kvs (.nd l r)∧(ovT kvs (.nd l r)=none→(∀v,ovT kvs l=some (some v)→outB kvs v=false)∧∀v,ovT kvs r=some (some v)→outB kvs v=false):=by
 have ej:ovT kvs (.nd l r)=ovJ kvs (ovT kvs l) (ovT kvs r):=rfl
 have ea:aliveT kvs (.nd l r)=aliveT kvs l++aliveT kvs r:=rfl
 have al:=ol.at
 have ar:=or_.at
 have hrv:∀v,ovT kvs r=some (some v)→outB kvs v=false∧aliveT kvs r=[v]:=fun v hv=>by
  have:=ar.yes v hv
  cases e:outB kvs v with
  | true=>rw[e] at this;exact absurd this hal
  | false=>rw[e] at this;exact⟨rfl,this⟩
 refine⟨?_,fun _=>⟨hl',fun v hv=>(hrv v hv).1⟩⟩
 rcases hr:ovT kvs r with _ | _ | y
 · have:=ar.no.mp hr
   have e3:ovT kvs (.nd l r)=none:=by rw[ej,hr];cases ovT kvs l <;> rfl
   exact⟨⟨fun _=>by rw[ea,List.length_append];omega,fun _=>e3⟩,fun w h=>(by rw[e3] at h;cases h),fun h=>(by rw[e3] at h;cases h)⟩
 · exact absurd (ar.nob hr) hal
 · obtain⟨oy,e1⟩:=hrv y hr
   rcases hl:ovT kvs l with _ | _ | x
   · have:=al.no.mp hl
     exact⟨⟨fun _=>by rw[ea,List.length_append];omega,fun _=>by rw[ej,hl];rfl⟩,fun w h=>(by rw[ej,hl] at h;cases h),fun h=>(by rw[ej,hl] at h;cases h)⟩
   · have e2:=al.nob hl
     have e3:ovT kvs (.nd l r)=some (some y):=by rw[ej,hl,hr];rfl
     rw[e1,e2] at ea
     refine⟨⟨fun h=>(by rw[e3] at h;cases h),fun h=>(by rw[ea] at h;simp at h)⟩,fun w h=>?_,fun h=>(by rw[e3] at h;cases h)⟩
     rw[e3] at h
     cases h
     rw[ea,oy];rfl
   · have ox:=hl' x hl
     have e2:=al.yes x hl
     rw[ox] at e2
     have e3:ovT kvs (.nd l r)=none:=by
      rw[ej,hl,hr]
      exact jG ox oy (h0 x (List.mem_append_left _ (ZS hl))) (h0 y (List.mem_append_right _ (ZS hr)))
     rw[e1,e2] at ea
     exact⟨⟨fun _=>by rw[ea];simp,fun _=>e3⟩,fun w h=>(by rw[e3] at h;cases h),fun h=>(by rw[e3] at h;cases h)⟩
theorem yM {kvs:Kv2}{x y:Int}(hx:outB kvs x=false)(y0:0≤y)(hy:byT kvs y=some x)(xy:x≠y):ovJ kvs (some (some x)) (some (some y))=some (some x)∧ovJ kvs (some (some y)) (some (some x))=some (some x):=by
 have b1:beatB kvs (some x) (some y)=false:=by
  show decide (some ((byT kvs x).getD (-1))=some y)=false
  rw[Z0E hx]
  simp;omega
 have b2:beatB kvs (some y) (some x)=true:=by
  show decide (some ((byT kvs y).getD (-1))=some x)=true
  rw[hy];simp
 rw[Yq,Yq,b1,b2];exact⟨rfl,rfl⟩
theorem Jo {kvs:Kv2}{x y a b:Int}(hab:(a=x∧b=y)∨(a=y∧b=x)):∀ {t:Bt},(∀p∈plT t,0≤p)→(plT t).Nodup→(x,y)∈dueT kvs t→OvOk kvs t→OvOk (kvs++[(b,a)]) t
 | .lf _,_,_,h,_=>by cases h
 | .nd l r,h0,nd,h,o=>by
  obtain⟨n1,n2,n3⟩:=Z02 nd
  have ne:=Yg nd h
  have da:=ZR h
  have ab:a≠b:=by
   rcases hab with ⟨e1,e2⟩ | ⟨e1,e2⟩ <;> rw[e1,e2]
   · exact ne
   · exact Ne.symm ne
  have hob:outB kvs b=false:=by
   rcases hab with ⟨_,e⟩ | ⟨_,e⟩ <;> rw[e]
   · exact(mem_alive.mp da.2).2
   · exact(mem_alive.mp da.1).2
  have hoa:outB kvs a=false:=by
   rcases hab with ⟨e,_⟩ | ⟨e,_⟩ <;> rw[e]
   · exact(mem_alive.mp da.1).2
   · exact(mem_alive.mp da.2).2
  have hoa':outB (kvs++[(b,a)]) a=false:=by
   rw[ZW,hoa,show (b==a)=false by simpa using Ne.symm ab];rfl
  have hbb:byT (kvs++[(b,a)]) b=some a:=by rw[JH hob,if_pos rfl]
  have h0l:∀p∈plT l,0≤p:=fun p hp=>h0 p (List.mem_append_left _ hp)
  have h0r:∀p∈plT r,0≤p:=fun p hp=>h0 p (List.mem_append_right _ hp)
  have ej:ovT (kvs++[(b,a)]) (.nd l r)=ovJ (kvs++[(b,a)]) (ovT (kvs++[(b,a)]) l) (ovT (kvs++[(b,a)]) r):=rfl
  have ea:aliveT (kvs++[(b,a)]) (.nd l r)=aliveT (kvs++[(b,a)]) l++aliveT (kvs++[(b,a)]) r:=rfl
  have stays:∀ {s:Bt},x∈aliveT kvs s→y∈aliveT kvs s→a∈aliveT (kvs++[(b,a)]) s:=fun {s} h1 h2=>by
   rw[Y7,List.mem_filter]
   refine⟨?_,by simpa using Ne.symm ab⟩
   rcases hab with ⟨e1,_⟩ | ⟨e1,_⟩ <;> rw[e1]
   · exact h1
   · exact h2
  rcases Jw h with ⟨e1,e2⟩ | h | h
  · have hx:x∈plT l:=(mem_alive.mp (by rw[e1];exact List.mem_singleton.mpr rfl)).1
    have hy:y∈plT r:=(mem_alive.mp (by rw[e2];exact List.mem_singleton.mpr rfl)).1
    obtain⟨vl,_⟩:=o.1.at.one e1
    obtain⟨vr,_⟩:=o.2.1.at.one e2
    rcases hab with ⟨z1,z2⟩ | ⟨z1,z2⟩
    · subst z1 z2
      have il:=Ya (a:=a) hob h0l (fun q=>n3 _ q _ hy rfl) o.1
      have ir:=YC (a:=a) hob h0r (fun q=>n3 _ hx _ q rfl) (fun p hp=>by rw[e2] at hp;exact List.mem_singleton.mp hp) (by rw[e2];exact Nat.le_refl 1) o.2.1
      have et:ovT (kvs++[(b,a)]) (.nd l r)=some (some a):=by
       rw[ej,il.2,ir.2,vl,vr]
       exact(yM hoa' (h0r _ hy) hbb ab).1
      have eal:aliveT (kvs++[(b,a)]) (.nd l r)=[a]:=by
       have q1:aliveT (kvs++[(b,a)]) l=[a]:=by rw[Jc (fun q=>n3 _ q _ hy rfl),e1]
       have q2:aliveT (kvs++[(b,a)]) r=[]:=by rw[Y7,e2];simp
       rw[ea,q1,q2];rfl
      refine⟨il.1,ir.1,⟨⟨fun z=>(by rw[et] at z;cases z),fun z=>(by rw[eal] at z;simp at z)⟩,fun w hw=>?_,fun z=>(by rw[et] at z;cases z)⟩,fun z=>(by rw[et] at z;cases z)⟩
      rw[et] at hw;cases hw
      rw[eal,hoa'];rfl
    · subst z1 z2
      have il:=YC (a:=a) hob h0l (fun q=>n3 _ q _ hy rfl) (fun p hp=>by rw[e1] at hp;exact List.mem_singleton.mp hp) (by rw[e1];exact Nat.le_refl 1) o.1
      have ir:=Ya (a:=a) hob h0r (fun q=>n3 _ hx _ q rfl) o.2.1
      have et:ovT (kvs++[(b,a)]) (.nd l r)=some (some a):=by
       rw[ej,il.2,ir.2,vl,vr]
       exact(yM hoa' (h0l _ hx) hbb ab).2
      have eal:aliveT (kvs++[(b,a)]) (.nd l r)=[a]:=by
       have q1:aliveT (kvs++[(b,a)]) r=[a]:=by rw[Jc (fun q=>n3 _ hx _ q rfl),e2]
       have q2:aliveT (kvs++[(b,a)]) l=[]:=by rw[Y7,e1];simp
       rw[ea,q1,q2];rfl
      refine⟨il.1,ir.1,⟨⟨fun z=>(by rw[et] at z;cases z),fun z=>(by rw[eal] at z;simp at z)⟩,fun w hw=>?_,fun z=>(by rw[et] at z;cases z)⟩,fun z=>(by rw[et] at z;cases z)⟩
      rw[et] at hw;cases hw
      rw[eal,hoa'];rfl
  · have dl:=ZR h
    have bl:b∈plT l:=by
     rcases hab with ⟨_,e2⟩ | ⟨_,e2⟩ <;> rw[e2]
     · exact(mem_alive.mp dl.2).1
     · exact(mem_alive.mp dl.1).1
    have br:b∉plT r:=fun z=>n3 _ bl _ z rfl
    have il:=Jo hab h0l n1 h o.1
    have ir:=Ya (a:=a) hob h0r br o.2.1
    have hn:ovT kvs l=none:=o.1.at.no.mpr (Classical.byContradiction fun z=>by
     rw[Yl (by omega)] at h;cases h)
    have htn:ovT kvs (.nd l r)=none:=by show ovJ kvs (ovT kvs l) (ovT kvs r)=none;rw[hn];rfl
    have hh:=Z0D h0 il ir.1 (fun z=>by have:=stays dl.1 dl.2;rw[z] at this;cases this) fun v hv=>by
     rw[ir.2] at hv
     have:b≠v:=fun z=>br (z▸ZS hv)
     rw[ZW,(o.2.2.2 htn).2 v hv,show (b==v)=false by simpa using this];rfl
    exact⟨il,ir.1,hh.1,hh.2⟩
  · have dl:=ZR h
    have bl:b∈plT r:=by
     rcases hab with ⟨_,e2⟩ | ⟨_,e2⟩ <;> rw[e2]
     · exact(mem_alive.mp dl.2).1
     · exact(mem_alive.mp dl.1).1
    have br:b∉plT l:=fun z=>n3 _ z _ bl rfl
    have il:=Ya (a:=a) hob h0l br o.1
    have ir:=Jo hab h0r n2 h o.2.1
    have hn:ovT kvs r=none:=o.2.1.at.no.mpr (Classical.byContradiction fun z=>by
     rw[Yl (by omega)] at h;cases h)
    have htn:ovT kvs (.nd l r)=none:=by
     show ovJ kvs (ovT kvs l) (ovT kvs r)=none
     rw[hn]
     cases ovT kvs l <;> rfl
    have hh:=Z01 h0 il.1 ir (fun z=>by have:=stays dl.1 dl.2;rw[z] at this;cases this) fun v hv=>by
     rw[il.2] at hv
     have:b≠v:=fun z=>br (z▸ZS hv)
     rw[ZW,(o.2.2.2 htn).1 v hv,show (b==v)=false by simpa using this];rfl
    exact⟨il.1,ir,hh.1,hh.2⟩
end
section
variable {P:Program}{w:World}{K:PySem.W.Frag}{mg:Str→Option Value}{base:Heap}
theorem Z1O (q:Int × Int):nkD (pD q)=true:=Z3h fun d hd=>by
 rcases List.mem_cons.mp hd with rfl | hd
 · exact ZX _
 · rw[List.mem_singleton.mp hd];exact ZX _
theorem yR (l:List (Int × Int)):nkD (.lst (l.map pD))=true:=Z3i fun d hd=>by
 obtain⟨q,_,rfl⟩:=List.mem_map.mp hd
 exact Z1O q
theorem Z1Z (kvs:Kv2)(p:Int):tget kvs p=byT kvs p:=by
 unfold tget
 induction kvs with
 | nil=>rfl
 | cons q l ih =>
  unfold byT
  by_cases h:q.1=p
  · rw[List.find?_cons_of_pos (by simpa using h),if_pos h];rfl
  · rw[List.find?_cons_of_neg (by simpa using h),if_neg h,ih]
theorem yU:∀ {ss:List Bt} {b:Nat} {s:Bt},(liftT ss)[b]? = some s→∃a c,s=.nd a c∧ss[2*b]? = some a∧ss[2*b+1]? = some c
 | [],b,s,h=>by simp[liftT] at h
 | [_],b,s,h=>by simp[liftT] at h
 | x::y::r,0,s,h=>by
  have:Bt.nd x y=s:=by simpa [liftT] using h
  exact⟨x,y,this.symm,rfl,rfl⟩
 | x::y::r,b+1,s,h=>by
  obtain⟨a,c,e,h1,h2⟩:=yU (ss:=r) (b:=b) (by simpa [liftT] using h)
  exact⟨a,c,e,by rw[show 2*(b+1)=2*b+1+1 by omega];simpa using h1,by rw[show 2*(b+1)+1=2*b+1+1+1 by omega];simpa using h2⟩
def ovD:Option (Option Int)→D
 | some o=>.tup [.bl true,oD o]
 | none=>.tup [.bl false,.non]
def pre__law_overN (N:Nat)(ds:List D)(r:R):Prop:=∃(n:Nat) (kvs:Kv2) (i b:Nat) (s:Bt),1≤n∧n≤16∧i≤N∧i≤lev n∧(subsT n i)[b]? = some s∧ds=[.lst ((slots n).map oD),tblD kvs,.int ((b*2 ^ i:Nat):Int),.int ((2 ^ i:Nat):Int)]∧r=.dat (ovD (ovT kvs s))
def pre__law_over (ds:List D)(r:R):Prop:=pre__law_overN 4 ds r
theorem ok_overN (T:Txt K mg t):∀N:Nat,Fn P w K mg base (N+2) "_law_over" ["_law_slots_here", "_law_beaten", "_law_low", "_law_size"] (pre__law_overN N)
 | N=>by
  refine ZO (k:=N+1) T.d__law_over sc__law_over (fun _ _ _ _ _ _ us hl=>match us,hl with | [_,_,_,_],_=>rfl) (by rintro _ _ ⟨n,kvs,i,b,s,_,_,_,_,_,rfl,rfl⟩;rfl) ?_
  rintro _ f cdv A outer s0 H E rfl hr _ _ ⟨n,kvs,i,b,s,h1,h2,hiN,hil,hs,rfl,rfl⟩
  cases i with
  | zero =>
   have hs':((slots n).map Bt.lf)[b]? = some s:=hs
   rw[List.getElem?_map] at hs'
   cases e:(slots n)[b]? with
   | none=>rw[e] at hs';cases hs'
   | some o =>
    rw[e] at hs'
    cases hs'
    have hat:atI ((slots n).map oD) ((b*2 ^ 0:Nat):Int)=some (oD o):=by
     refine atI_nat ?_
     rw[List.getElem?_map,Nat.pow_zero,Nat.mul_one,e];rfl
    refine Zr (Z7 (c:=true) (Zi op_eq Yr (Z0 3 rfl) Z3 (nomark _)) rfl) (fun _=>?_) (fun z=>nomatch z)
    exact Zd (ZC (Z1 Yn (Z1 (ZL (Z0 0 rfl) (Z0 2 rfl) hat) Z2))) rfl
  | succ i =>
   obtain⟨N',rfl⟩:∃N',N=N'+1:=⟨N-1,by omega⟩
   · have G_over:=ok_overN T N'
     obtain⟨a,c,rfl,ga,gc⟩:=yU (show (liftT (subsT n i))[b]? = some s from hs)
     have hp:2 ^ (i+1)=2*2 ^ i:=by rw[Nat.pow_succ];omega
     have hpos:0<2 ^ i:=Nat.pos_of_ne_zero (by simp)
     have hne:¬((2 ^ (i+1):Nat):Int)=1:=by rw[hp];omega
     have hhalf:((2 ^ (i+1):Nat):Int) / 2=((2 ^ i:Nat):Int):=by rw[hp];omega
     have hlow:((b*2 ^ (i+1):Nat):Int)=((2*b*2 ^ i:Nat):Int):=by rw[hp,←Nat.mul_assoc,Nat.mul_comm b 2]
     have hlow2:((b*2 ^ (i+1):Nat):Int)+((2 ^ i:Nat):Int)=(((2*b+1)*2 ^ i:Nat):Int):=by rw[hlow,Nat.add_mul,Nat.one_mul];omega
     refine Zr (Z7 (c:=false) (Zi op_eq Yr (Z0 3 rfl) Z3 (nomark _)) (decide_eq_false hne)) (fun z=>nomatch z) (fun _=>Ze ?_)
     refine Z4 (Zh 4 (r:=.dat (.int ((2 ^ i:Nat):Int))) (Z5 (Z6 op_fdiv (ZT ⟨by decide,by decide⟩) (Z0 3 rfl) Z3) (by rw[hhalf])) sc__law_over.nd) ?_
     refine Z4 (Zh 5 (Zc G_over (hr.mono (by omega)) (Z1 (Z0 0 rfl) (Z1 (Z0 1 rfl) (Z1 (Z0 2 rfl) (Z1 (Z0 4 rfl) Z2)))) ⟨n,kvs,i,2*b,a,h1,h2,by omega,by omega,ga,by show [_,_,D.int _,_]=_;rw[hlow];rfl,rfl⟩) sc__law_over.nd) ?_
     refine Z4 (Zh 6 (Zc G_over (hr.mono (by omega)) (Z1 (Z0 0 rfl) (Z1 (Z0 1 rfl) (Z1 (r:=.dat (.int (((2*b+1)*2 ^ i:Nat):Int))) (Z5 (Z6 op_add Zo (Z0 2 rfl) (Z0 4 rfl)) (by rw[hlow2])) (Z1 (Z0 4 rfl) Z2)))) ⟨n,kvs,i,2*b+1,c,h1,h2,by omega,by omega,gc,rfl,rfl⟩) sc__law_over.nd) ?_
     have ej:ovT kvs (.nd a c)=ovJ kvs (ovT kvs a) (ovT kvs c):=rfl
     rw[ej]
     generalize ovT kvs a=o1
     generalize ovT kvs c=o2
     have hu:(cxOf CX0 P w K mg base ["_law_slots_here", "_law_beaten", "_law_low", "_law_size", "_law_half", "_law_one", "_law_other"] "_law_over" (defScope s__law_over) f cdv A outer s0 H E).nox.A.units+1<cLine:=hu_of hr
     cases o1 with
     | none =>
      refine Zr (Z7 (c:=true) (QW.t (ZN (b1:=true) (b2:=true) (Z7 (c:=true) (Zm (Zg (Za (d:=.bl false) (Z0 5 rfl) Z3 rfl))) rfl) fun z=>nomatch z)) rfl) (fun _=>?_) (fun z=>nomatch z)
      exact Zd (ZC (Z1 Yn (Z1 Zt Z2))) rfl
     | some oa =>
      cases o2 with
      | none =>
       refine Zr (Z7 (c:=true) (QW.t (ZN (b1:=false) (b2:=true) (Z7 (c:=false) (Zm (Zg (Za (d:=.bl true) (Z0 5 rfl) Z3 rfl))) rfl) fun _=>ZP (Z7 (c:=true) (Zm (Zg (Za (d:=.bl false) (Z0 6 rfl) Z3 rfl))) rfl))) rfl) (fun _=>?_) (fun z=>nomatch z)
       exact Zd (ZC (Z1 Yn (Z1 Zt Z2))) rfl
      | some ob =>
       rw[Yq]
       refine Zr (Z7 (c:=false) (QW.t (ZN (b1:=false) (b2:=false) (Z7 (c:=false) (Zm (Zg (Za (d:=.bl true) (Z0 5 rfl) Z3 rfl))) rfl) fun _=>ZP (Z7 (c:=false) (Zm (Zg (Za (d:=.bl true) (Z0 6 rfl) Z3 rfl))) rfl))) rfl) (fun z=>nomatch z) (fun _=>Ze ?_)
       cases oa with
       | none =>
        refine Zr (Z7 (c:=true) (QW.t (ZN (b1:=true) (b2:=true) (Zi op_isN (Jq (da:=.non)) (Za (d:=.non) (Z0 5 rfl) Z3 rfl) Zt (nomark _)) fun z=>nomatch z)) rfl) (fun _=>?_) (fun z=>nomatch z)
        exact Zd (Z0 6 rfl) rfl
       | some x =>
        cases ob with
        | none =>
         refine Zr (Z7 (c:=false) (QW.t (ZN (b1:=false) (b2:=false) (Zi op_isN (Jq (da:=.int x)) (Za (d:=.int x) (Z0 5 rfl) Z3 rfl) Zt (nomark _)) fun _=>ZP (Z7 (c:=false) (Zi op_eq (Z1N (v:=.int ((tget kvs x).getD (-1))) (w:=.non) rfl rfl rfl) (zB hu (Z0 1 rfl) (Za (d:=.int x) (Z0 5 rfl) Z3 rfl) (YL Z3)) (Za (d:=.non) (Z0 6 rfl) Z3 rfl) (nomark _)) rfl))) rfl) (fun z=>nomatch z) (fun _=>Ze ?_)
         refine Zr (Z7 (c:=true) (QW.t (ZN (b1:=true) (b2:=true) (Zi op_isN (Jq (da:=.non)) (Za (d:=.non) (Z0 6 rfl) Z3 rfl) Zt (nomark _)) fun z=>nomatch z)) rfl) (fun _=>?_) (fun z=>nomatch z)
         exact Zd (Z0 5 rfl) rfl
        | some y =>
         have bx:∀u v:Int,beatB kvs (some u) (some v)=decide ((tget kvs u).getD (-1)=v):=fun u v=>by
          rw[Z1Z]
          show decide (some ((byT kvs u).getD (-1))=some v)=_
          exact decide_eq_decide.mpr ⟨fun e=>Option.some.inj e,fun e=>by rw[e]⟩
         rw[bx x y,bx y x]
         refine Zr (Z7 (c:=decide ((tget kvs x).getD (-1)=y)) (QW.t (ZN (b1:=false) (Zi op_isN (Jq (da:=.int x)) (Za (d:=.int x) (Z0 5 rfl) Z3 rfl) Zt (nomark _)) fun _=>ZP (Zi op_eq Yr (zB hu (Z0 1 rfl) (Za (d:=.int x) (Z0 5 rfl) Z3 rfl) (YL Z3)) (Za (d:=.int y) (Z0 6 rfl) Z3 rfl) (nomark _)))) rfl) (fun hb=>?_) (fun hb=>Ze ?_)
         · rw[hb]
           exact Zd (Z0 6 rfl) rfl
         · rw[hb]
           refine Zr (Z7 (c:=decide ((tget kvs y).getD (-1)=x)) (QW.t (ZN (b1:=false) (Zi op_isN (Jq (da:=.int y)) (Za (d:=.int y) (Z0 6 rfl) Z3 rfl) Zt (nomark _)) fun _=>ZP (Zi op_eq Yr (zB hu (Z0 1 rfl) (Za (d:=.int y) (Z0 6 rfl) Z3 rfl) (YL Z3)) (Za (d:=.int x) (Z0 5 rfl) Z3 rfl) (nomark _)))) rfl) (fun hb2=>?_) (fun hb2=>Ze ?_)
           · rw[hb2]
             exact Zd (Z0 5 rfl) rfl
           · rw[hb2]
             exact Zd (ZC (Z1 Yn (Z1 Zt Z2))) rfl
termination_by N=>N
theorem ok__law_over (T:Txt K mg t):Fn P w K mg base 6 "_law_over" ["_law_slots_here", "_law_beaten", "_law_low", "_law_size"] pre__law_over:=ok_overN T 4
end
section
variable {P:Program}{w:World}{K:PySem.W.Frag}{mg:Str→Option Value}{base:Heap}
theorem jK {kvs:Kv2}:∀ {m:Nat} {ss:List Bt},ss.length=2*m→(∀t∈liftT ss,OvOk kvs t)→∀s∈ss,OvOk kvs s
 | 0,[],_,_,s,h=>by cases h
 | 0,_::_,h,_,_,_=>by simp at h
 | m+1,[],h,_,_,_=>by simp at h
 | m+1,[_],h,_,_,_=>by simp at h;omega
 | m+1,a::b::r,h,ho,s,hs=>by
  have hn:OvOk kvs (.nd a b):=ho _ (show Bt.nd a b∈Bt.nd a b::liftT r from List.mem_cons_self)
  rcases List.mem_cons.mp hs with z | hs
  · rw[z];exact hn.1
  · rcases List.mem_cons.mp hs with z | hs
    · rw[z];exact hn.2.1
    · exact jK (m:=m) (ss:=r) (by simp only[List.length_cons] at h;omega) (fun t ht=>ho t (show t∈Bt.nd a b::liftT r from List.mem_cons_of_mem _ ht)) s hs
theorem jx {kvs:Kv2}{n:Nat}(h:OvOk kvs (btT n)):∀(j i:Nat),i+j=lev n→∀s∈subsT n i,OvOk kvs s
 | 0,i,e,s,hs=>by
  have:i=lev n:=by omega
  rw[this,JM] at hs
  rw[List.mem_singleton.mp hs];exact h
 | j+1,i,e,s,hs=>jK (m:=2 ^ j) (by rw[YU n (j:=j+1) (by omega),Nat.pow_succ];omega) (fun t ht=>jx h j (i+1) (by omega) t ht) s hs
theorem y8:∀ {m:Nat} {xs:List (List Int)} (a b:List Int),xs.length=2*m→pairUp (xs++[a,b])=pairUp xs++[(a,b)]
 | 0,[],a,b,_=>rfl
 | 0,_::_,_,_,h=>by simp at h
 | m+1,[],_,_,h=>by simp at h
 | m+1,[_],_,_,h=>by simp at h;omega
 | m+1,x::y::r,a,b,h=>by
  have ih:=y8 (m:=m) (xs:=r) a b (by simp only[List.length_cons] at h;omega)
  show (x,y)::pairUp (r++[a,b])=(x,y)::(pairUp r++[(a,b)])
  rw[ih]
theorem Z2U {ss:List Bt}{k:Nat}{a b:Bt}(h1:ss[2*k]? = some a)(h2:ss[2*k+1]? = some b):ss.take (2*(k+1))=ss.take (2*k)++[a,b]:=by
 rw[show 2*(k+1)=2*k+1+1 by omega,List.take_add_one,List.take_add_one,h1,h2]
 simp
def tri (n:Nat)(q:Int × Int):Tr:=((slotIx n q.1:Nat),q.1,q.2)
def triP (n:Nat)(q:List Int × List Int):D:=triD (tri n (pairI q))
theorem Z2G {kvs:Kv2}{a b:Bt}(ha:OvAt kvs a)(hb:OvAt kvs b){x y:Int}(ea:ovT kvs a=some (some x))(eb:ovT kvs b=some (some y)):bothOne (aliveT kvs a,aliveT kvs b)=(!outB kvs x && !outB kvs y)∧((!outB kvs x && !outB kvs y)=true→pairI (aliveT kvs a,aliveT kvs b)=(x,y)):=by
 have h1:=ha.yes x ea
 have h2:=hb.yes y eb
 cases e1:outB kvs x <;> cases e2:outB kvs y <;> rw[e1] at h1 <;> rw[e2] at h2 <;> rw[h1,h2]
 · exact⟨rfl,fun _=>rfl⟩
 · exact⟨rfl,fun z=>nomatch z⟩
 · exact⟨rfl,fun z=>nomatch z⟩
 · exact⟨rfl,fun z=>nomatch z⟩
theorem Z2H {kvs:Kv2}{a b:Bt}(ha:OvAt kvs a)(hb:OvAt kvs b)(h:∀x y,¬(ovT kvs a=some (some x)∧ovT kvs b=some (some y))):bothOne (aliveT kvs a,aliveT kvs b)=false:=by
 cases e:bothOne (aliveT kvs a,aliveT kvs b) with
 | false=>rfl
 | true =>
  obtain⟨x,y,e'⟩:=YA e
  have e1:aliveT kvs a=[x]:=congrArg Prod.fst e'
  have e2:aliveT kvs b=[y]:=congrArg Prod.snd e'
  exact absurd ⟨(ha.one e1).1,(hb.one e2).1⟩ (h x y)
theorem YW (n:Nat):(slots n).length=2 ^ lev n:=by unfold slots;rw[List.length_map,JA]
theorem Z2j {i:Nat}(h:i<4):StepS (2*((2 ^ i:Nat):Int)):=by
 match i,h with
 | 0,_=>exact .inl rfl
 | 1,_=>exact .inr (.inl rfl)
 | 2,_=>exact .inr (.inr (.inl rfl))
 | 3,_=>exact .inr (.inr (.inr rfl))
theorem Z3u {n:Nat}(kvs:Kv2):(dueK n kvs).Pairwise fun a b=>slotIx n a.1≤slotIx n b.1:=by
 have:=List.pairwise_mergeSort (le:=fun a b:Int × Int=>decide (slotIx n a.1≤slotIx n b.1)) (fun a b c h1 h2=>by
  simp only[decide_eq_true_eq] at *;omega) (fun a b=>by
  simp only[Bool.or_eq_true,decide_eq_true_eq];omega) (prsK n kvs)
 exact this.imp fun z=>by simpa using z
theorem Z2S {n:Nat}(h:n≤16)(kvs:Kv2):(((prsK n kvs).map (tri n)).map (·.1)).Nodup:=by
 rw[List.map_map]
 have nd:((prsK n kvs).map fun q=>q.1).Nodup:=by
  have:=jb h kvs
  unfold prsK
  rw[List.map_map];exact this
 have key:∀l:List (Int × Int),(∀q∈l,some q.1∈slots n)→(l.map fun q=>q.1).Nodup→(l.map ((fun x=>x.1)∘tri n)).Nodup:=by
  intro l
  induction l with
  | nil=>intro _ _;exact List.nodup_nil
  | cons q l ih =>
   intro hs hn
   rw[List.map_cons,List.nodup_cons] at hn
   rw[List.map_cons,List.nodup_cons]
   refine⟨fun z=>?_,ih (fun x hx=>hs x (List.mem_cons_of_mem _ hx)) hn.2⟩
   obtain⟨p,hp,e⟩:=List.mem_map.mp z
   have e':((slotIx n p.1:Nat):Int)=(slotIx n q.1:Nat):=e
   have:p.1=q.1:=za (hs p (List.mem_cons_of_mem _ hp)) (hs q List.mem_cons_self) (by omega)
   exact hn.1 (List.mem_map.mpr ⟨p,hp,this⟩)
 exact key _ (fun q hq=>Ys (J0 hq)) nd
def pre__law_due (ds:List D)(r:R):Prop:=∃(n:Nat) (kvs:Kv2),1≤n∧n≤16∧OvOk kvs (btT n)∧ds=[.lst ((slots n).map oD),tblD kvs]∧r=.own ((dueK n kvs).map pD)
theorem ok__law_due (T:Txt K mg t)(G__law_over:Fn P w K mg base 6 "_law_over" ["_law_slots_here", "_law_beaten", "_law_low", "_law_size"] pre__law_over):Fn P w K mg base 7 "_law_due" ["_law_slots_here", "_law_beaten"] pre__law_due:=by
 refine ZO T.d__law_due sc__law_due (fun _ _ _ _ _ _ us hl=>match us,hl with | [_,_],_=>rfl) (by rintro _ _ ⟨_,_,_,_,_,rfl,rfl⟩;rfl) ?_
 rintro _ f cdv A outer s H E rfl hr _ _ ⟨n,kvs,h1,h2,hov,rfl,rfl⟩
 have h4:=yW n
 refine Z4 (Zh 2 (ZA Z2) sc__law_due.nd) ?_
 refine Z4 (Zh 3 Z3 sc__law_due.nd) ?_
 refine Z4 (YX (lev n) (fun i=>[.dat (.lst ((slots n).map oD)),.dat (tblD kvs),.own ((pairsT n kvs i).map (triP n)),.dat (.int ((2 ^ i:Nat):Int)),.un,.un,.un,.un]) ⟨.inr rfl,.inr rfl,.inr rfl,.inr rfl,.inl rfl,.inl rfl,.inl rfl,.inl rfl,True.intro⟩ (fun i hi=>?_) ?_ (fun i hi=>?_) PassesOwn.never) ?_
 · refine Z7 (Zi op_lt Y3 (Z0 3 rfl) (Zj call_len_seq (Zu rfl) T.b_len Zv (Z1 (Z0 0 rfl) Z2)) (nomark _)) ?_
   rw[List.length_map,YW]
   have:2 ^ i<2 ^ lev n:=Nat.pow_lt_pow_right (by decide) hi
   exact decide_eq_true (by omega)
 · refine Z7 (Zi op_lt Y3 (Z0 3 rfl) (Zj call_len_seq (Zu rfl) T.b_len Zv (Z1 (Z0 0 rfl) Z2)) (nomark _)) ?_
   rw[List.length_map,YW]
   exact decide_eq_false (by omega)
 · have hsl:(subsT n i).length=2*2 ^ (lev n-(i+1)):=by
    rw[YU n (i:=i) (j:=lev n-(i+1)+1) (by omega),Nat.pow_succ];omega
   have hlen:2 ^ lev n=2*2 ^ i*2 ^ (lev n-(i+1)):=by
    rw[show 2*2 ^ i=2 ^ (i+1) by rw[Nat.pow_succ];omega,←Nat.pow_add]
    congr 1
    omega
   have hm8:2 ^ (lev n-(i+1))≤8:=Nat.le_trans (Nat.pow_le_pow_right (by decide) (show lev n-(i+1)≤3 by omega)) (by decide)
   have hall:∀s∈subsT n i,OvAt kvs s:=fun s hs=>(jx hov (lev n-i) i (by omega) s hs).at
   have hst:=Z2j (i:=i) (by omega)
   have hpl:=Yp n kvs i (lev n-i) (by omega)
   have hget:∀b s,(subsT n i)[b]? = some s→∀v:Int,v=((b*2 ^ i:Nat):Int)→pre__law_over [.lst ((slots n).map oD),tblD kvs,.int v,.int ((2 ^ i:Nat):Int)] (.dat (ovD (ovT kvs s))):=fun b s hb v hv=>⟨n,kvs,i,b,s,h1,h2,by omega,by omega,hb,by rw[hv],rfl⟩
   have hleft:∀x,(∃s∈subsT n i,x∈aliveT kvs s)→some x∈slots n:=fun x ⟨s,hs,hx⟩=>by
    have e1:x∈(sidesT n kvs i).flatten:=by
     rw[Y1]
     exact List.mem_flatten.mpr ⟨_,List.mem_map.mpr ⟨s,hs,rfl⟩,hx⟩
    rw[Yb n kvs i (lev n-i) (by omega)] at e1
    exact Ys e1
   have enx:(pairsT n kvs (i+1)).map (triP n)=(pairsT n kvs i).map (triP n)++((pairUp ((subsT n i).map (aliveT kvs))).filter bothOne).map (triP n):=by
    show (pairsT n kvs i++(pairUp (sidesT n kvs i)).filter bothOne).map (triP n)=_
    rw[List.map_append,Y1]
   rw[enx]
   generalize subsT n i=ss at *
   generalize hpa:(pairsT n kvs i).map (triP n)=pa at *
   have hpal:pa.length≤32:=by rw[←hpa,List.length_map];omega
   generalize 2 ^ (lev n-(i+1))=m at *
   refine Z4 (Z1e 4 (n:=m) (m:=((2 ^ lev n:Nat):Int)) (z:=2*((2 ^ i:Nat):Int)) (fun k=>[.dat (.lst ((slots n).map oD)),.dat (tblD kvs),.own (pa++((pairUp ((ss.take (2*k)).map (aliveT kvs))).filter bothOne).map (triP n)),.dat (.int ((2 ^ i:Nat):Int)),.un,.un,.un,.un]) hst Z3 (Z5 (Zj call_len_seq (Zu rfl) T.b_len Zv (Z1 (Z0 0 rfl) Z2)) (by rw[List.length_map,YW])) (Z6 op_mul (ZT (.inl ⟨by decide,by decide⟩)) Z3 (Z0 3 rfl)) (by rw[hlen];simp[Int.natCast_mul]) (by omega) ⟨.inr rfl,.inr rfl,.inr (by simp[pairUp]),.inr rfl,.inl rfl,.inl rfl,.inl rfl,.inl rfl,True.intro⟩ (fun k hk=>?_) T.b_range sc__law_due.nd PassesOwn.never) ?_
   · have l1:2*k<ss.length:=by omega
     have l2:2*k+1<ss.length:=by omega
     have g1:ss[2*k]? = some ss[2*k]:=List.getElem?_eq_getElem l1
     have g2:ss[2*k+1]? = some ss[2*k+1]:=List.getElem?_eq_getElem l2
     have m1:ss[2*k]∈ss:=List.getElem_mem l1
     have m2:ss[2*k+1]∈ss:=List.getElem_mem l2
     generalize ss[2*k]=a at *
     generalize ss[2*k+1]=b at *
     have tl:((ss.take (2*k)).map (aliveT kvs)).length=2*k:=by rw[List.length_map,List.length_take];omega
     have p1:=hget (2*k) a g1 (2*((2 ^ i:Nat):Int)*(k:Int)) (by
      have:2*k*2 ^ i=2*2 ^ i*k:=by rw[Nat.mul_assoc,Nat.mul_comm k,←Nat.mul_assoc]
      rw[this];simp[Int.natCast_mul])
     have p2:=hget (2*k+1) b g2 (2*((2 ^ i:Nat):Int)*(k:Int)+((2 ^ i:Nat):Int)) (by
      have:(2*k+1)*2 ^ i=2*2 ^ i*k+2 ^ i:=by rw[Nat.add_mul,Nat.one_mul,Nat.mul_assoc,Nat.mul_comm k,←Nat.mul_assoc]
      rw[this];simp[Int.natCast_mul])
     rw[Z2U g1 g2,List.map_append]
     have esn:pairUp ((ss.take (2*k)).map (aliveT kvs)++[a,b].map (aliveT kvs))=pairUp ((ss.take (2*k)).map (aliveT kvs))++[(aliveT kvs a,aliveT kvs b)]:=y8 _ _ tl
     rw[esn,List.filter_append,List.map_append,←List.append_assoc]
     have hfl:(pa++((pairUp ((ss.take (2*k)).map (aliveT kvs))).filter bothOne).map (triP n)).length≤100:=by
      rw[List.length_append,List.length_map]
      have:=List.length_filter_le bothOne (pairUp ((ss.take (2*k)).map (aliveT kvs)))
      rw[ZD tl] at this
      omega
     generalize pa++((pairUp ((ss.take (2*k)).map (aliveT kvs))).filter bothOne).map (triP n)=fo at *
     have oa:=hall a m1
     have ob:=hall b m2
     refine Z4 (Zh 5 (Zc G__law_over (hr.mono (by decide)) (Z1 (Z0 0 rfl) (Z1 (Z0 1 rfl) (Z1 (Z0 4 rfl) (Z1 (Z0 3 rfl) Z2)))) p1) sc__law_due.nd) ?_
     refine Z4 (Zh 6 (Zc G__law_over (hr.mono (by decide)) (Z1 (Z0 0 rfl) (Z1 (Z0 1 rfl) (Z1 (Z6 op_add Zo (Z0 4 rfl) (Z0 3 rfl)) (Z1 (Z0 3 rfl) Z2)))) p2) sc__law_due.nd) ?_
     have no:(∀x y,¬(ovT kvs a=some (some x)∧ovT kvs b=some (some y)))→[(aliveT kvs a,aliveT kvs b)].filter bothOne=[]:=fun h=>by
      rw[List.filter_cons_of_neg (by rw[Z2H oa ob h];decide)];rfl
     rcases e1:ovT kvs a with _ | _ | x
     · rw[no (fun x y z=>by rw[e1] at z;cases z.1),List.map_nil,List.append_nil]
       refine Z4 (Zh 7 (r:=.dat (.bl false)) (Z5 (Zy (b1:=false) (b2:=false) (Za (d:=.bl false) (Z0 5 rfl) Z3 rfl) fun z=>nomatch z) rfl) sc__law_due.nd) ?_
       refine Zr (Z7 (c:=false) (QW.t (Yc (b1:=false) (b2:=false) (Zg (Z0 7 rfl)) fun z=>nomatch z)) rfl) (fun z=>nomatch z) (fun _=>?_)
       exact Ze (Ze (ZK ⟨.inr rfl,.inr rfl,.inr rfl,.inr rfl,.inl rfl,.inl rfl,.inl rfl,.inl rfl,True.intro⟩))
     · rw[no (fun x y z=>by rw[e1] at z;cases z.1),List.map_nil,List.append_nil]
       rcases e2:ovT kvs b with _ | ob'
       · refine Z4 (Zh 7 (r:=.dat (.bl false)) (Z5 (Zy (b1:=true) (b2:=false) (Za (d:=.bl true) (Z0 5 rfl) Z3 rfl) fun _=>Z5 (Zy (b1:=false) (b2:=false) (Za (d:=.bl false) (Z0 6 rfl) Z3 rfl) fun z=>nomatch z) rfl) rfl) sc__law_due.nd) ?_
         refine Zr (Z7 (c:=false) (QW.t (Yc (b1:=false) (b2:=false) (Zg (Z0 7 rfl)) fun z=>nomatch z)) rfl) (fun z=>nomatch z) (fun _=>?_)
         exact Ze (Ze (ZK ⟨.inr rfl,.inr rfl,.inr rfl,.inr rfl,.inl rfl,.inl rfl,.inl rfl,.inl rfl,True.intro⟩))
       · refine Z4 (Zh 7 (r:=.dat (.bl false)) (Z5 (Zy (b1:=true) (b2:=false) (Za (d:=.bl true) (Z0 5 rfl) Z3 rfl) fun _=>Z5 (Zy (b1:=true) (b2:=false) (Za (d:=.bl true) (Z0 6 rfl) Z3 rfl) fun _=>Z5 (Zy (b1:=false) (b2:=false) (ZV op_notN (Yk (da:=.non)) (Za (d:=.non) (Z0 5 rfl) Z3 rfl) Zt (nomark _)) fun z=>nomatch z) rfl) rfl) rfl) sc__law_due.nd) ?_
         refine Zr (Z7 (c:=false) (QW.t (Yc (b1:=false) (b2:=false) (Zg (Z0 7 rfl)) fun z=>nomatch z)) rfl) (fun z=>nomatch z) (fun _=>?_)
         exact Ze (Ze (ZK ⟨.inr rfl,.inr rfl,.inr rfl,.inr rfl,.inl rfl,.inl rfl,.inl rfl,.inl rfl,True.intro⟩))
     · rcases e2:ovT kvs b with _ | _ | y
       · rw[no (fun x y z=>by rw[e2] at z;cases z.2),List.map_nil,List.append_nil]
         refine Z4 (Zh 7 (r:=.dat (.bl false)) (Z5 (Zy (b1:=true) (b2:=false) (Za (d:=.bl true) (Z0 5 rfl) Z3 rfl) fun _=>Z5 (Zy (b1:=false) (b2:=false) (Za (d:=.bl false) (Z0 6 rfl) Z3 rfl) fun z=>nomatch z) rfl) rfl) sc__law_due.nd) ?_
         refine Zr (Z7 (c:=false) (QW.t (Yc (b1:=false) (b2:=false) (Zg (Z0 7 rfl)) fun z=>nomatch z)) rfl) (fun z=>nomatch z) (fun _=>?_)
         exact Ze (Ze (ZK ⟨.inr rfl,.inr rfl,.inr rfl,.inr rfl,.inl rfl,.inl rfl,.inl rfl,.inl rfl,True.intro⟩))
       · rw[no (fun x y z=>by rw[e2] at z;cases z.2),List.map_nil,List.append_nil]
         refine Z4 (Zh 7 (r:=.dat (.bl false)) (Z5 (Zy (b1:=true) (b2:=false) (Za (d:=.bl true) (Z0 5 rfl) Z3 rfl) fun _=>Z5 (Zy (b1:=true) (b2:=false) (Za (d:=.bl true) (Z0 6 rfl) Z3 rfl) fun _=>Z5 (Zy (b1:=true) (b2:=false) (ZV op_notN (Yk (da:=.int x)) (Za (d:=.int x) (Z0 5 rfl) Z3 rfl) Zt (nomark _)) fun _=>Yd (ZV op_notN (Yk (da:=.non)) (Za (d:=.non) (Z0 6 rfl) Z3 rfl) Zt (nomark _))) rfl) rfl) rfl) sc__law_due.nd) ?_
         refine Zr (Z7 (c:=false) (QW.t (Yc (b1:=false) (b2:=false) (Zg (Z0 7 rfl)) fun z=>nomatch z)) rfl) (fun z=>nomatch z) (fun _=>?_)
         exact Ze (Ze (ZK ⟨.inr rfl,.inr rfl,.inr rfl,.inr rfl,.inl rfl,.inl rfl,.inl rfl,.inl rfl,True.intro⟩))
       · obtain⟨b1,b2⟩:=Z2G oa ob e1 e2
         refine Z4 (Zh 7 (r:=.dat (.bl true)) (Z5 (Zy (b1:=true) (b2:=true) (Za (d:=.bl true) (Z0 5 rfl) Z3 rfl) fun _=>Z5 (Zy (b1:=true) (b2:=true) (Za (d:=.bl true) (Z0 6 rfl) Z3 rfl) fun _=>Z5 (Zy (b1:=true) (b2:=true) (ZV op_notN (Yk (da:=.int x)) (Za (d:=.int x) (Z0 5 rfl) Z3 rfl) Zt (nomark _)) fun _=>Yd (ZV op_notN (Yk (da:=.int y)) (Za (d:=.int y) (Z0 6 rfl) Z3 rfl) Zt (nomark _))) rfl) rfl) rfl) sc__law_due.nd) ?_
         have nin:∀z:Int,(!(valG ((keysT kvs).zip (valsT kvs)) (.inl z)).isSome) = !outB kvs z:=fun z=>by rw[valT,Option.isSome_map,Yz]
         refine Zr (Z7 (c:=(!outB kvs x && !outB kvs y)) (QW.t (Yc (b1:=true) (Zg (Z0 7 rfl)) fun _=>Yc (Ji (k:=.inl x) (hu_of hr) (Za (d:=.int x) (Z0 5 rfl) Z3 rfl) (Z0 1 rfl)) fun _=>zz (Ji (k:=.inl y) (hu_of hr) (Za (d:=.int y) (Z0 6 rfl) Z3 rfl) (Z0 1 rfl)))) ?_) (fun hb=>?_) (fun hb=>?_)
         · show (true&&(!(valG ((keysT kvs).zip (valsT kvs)) (.inl x)).isSome && !(valG ((keysT kvs).zip (valsT kvs)) (.inl y)).isSome))=_
           rw[nin,nin];rfl
         · rw[hb] at b1
           have hxo:outB kvs x=false:=by cases e:outB kvs x <;> rw[e] at hb <;> first | rfl | cases hb
           have ax:=oa.yes x e1
           rw[hxo] at ax
           have hsl':some x∈slots n:=hleft x ⟨a,m1,by rw[ax];exact List.mem_singleton.mpr rfl⟩
           have hlt:=List.idxOf_lt_length_iff.mpr hsl'
           rw[List.filter_cons_of_pos b1]
           show QK _ _ _ _ (.lp [_,_,.own (fo++[triD (tri n (pairI (aliveT kvs a,aliveT kvs b)))]),_,_,_,_,_])
           rw[b2 hb]
           refine Z4 (Z0p 2 rfl (r:=.dat (triD (tri n (x,y)))) (ZC (Z1 (zW (dj:=.int x) (j:=slotIx n x) hr.units (Z0 0 rfl) (Za (d:=.int x) (Z0 5 rfl) Z3 rfl) (by rw[YT];decide) (jh _) (by unfold slotIx;rw[List.getElem?_map,List.getElem?_eq_getElem hlt,List.getElem_idxOf];rfl) (by rw[Yy]) (fun m d hm hd=>by
            obtain⟨o,ho,rfl⟩:=Y5 hd
            exact Z1P (Z0R hm ho))) (Z1 (Za (d:=.int x) (Z0 5 rfl) Z3 rfl) (Z1 (Za (d:=.int y) (Z0 6 rfl) Z3 rfl) Z2)))) (Nat.lt_of_le_of_lt hfl (by decide))) ?_
           exact Ze (Ze (ZK ⟨.inr rfl,.inr rfl,.inr rfl,.inr rfl,.inl rfl,.inl rfl,.inl rfl,.inl rfl,True.intro⟩))
         · rw[hb] at b1
           rw[List.filter_cons_of_neg (by rw[b1];decide),List.filter_nil,List.map_nil,List.append_nil]
           exact Ze (Ze (ZK ⟨.inr rfl,.inr rfl,.inr rfl,.inr rfl,.inl rfl,.inl rfl,.inl rfl,.inl rfl,True.intro⟩))
   · rw[←hsl,List.take_length]
     refine Z4 (Zh 3 (r:=.dat (.int ((2 ^ (i+1):Nat):Int))) (Z5 (Z6 op_mul (ZT (.inl ⟨by decide,by decide⟩)) Z3 (Z0 3 rfl)) (by rw[show 2 ^ (i+1)=2*2 ^ i by rw[Nat.pow_succ];omega];simp[Int.natCast_mul])) sc__law_due.nd) ?_
     exact Ze (ZK ⟨.inr rfl,.inr rfl,.inr rfl,.inr rfl,.inl rfl,.inl rfl,.inl rfl,.inl rfl,True.intro⟩)
 · have e2:(pairsT n kvs (lev n)).map (triP n)=((prsK n kvs).map (tri n)).map triD:=by unfold prsK;rw[List.map_map,List.map_map];rfl
   rw[e2]
   refine Y8 2 rfl ?_
   have h64:((prsK n kvs).map (tri n)).length<64:=by
    have hp:=Yp n kvs (lev n) 0 (by omega)
    unfold prsK
    rw[List.length_map,List.length_map]
    omega
   have hdl:(dueK n kvs).length≤100:=Nat.le_trans (Z2B h1 h2 kvs) (by decide)
   refine Zd (Z5 (Z2g (N:=["_law_spot", "_law_one", "_law_other"]) (gl:=dueK n kvs) (f1:=fun q=>.int (slotIx n q.1:Nat)) (f2:=fun q=>.int q.1) (f3:=fun q=>.int q.2) (F:=pD) [none,none,none] (ZZ (out':=defScope s__law_due) rfl ⟨rfl,by decide +kernel,by decide +kernel,by decide +kernel,by decide +kernel,rfl⟩) (ZI (N0:=["_law_slots_here", "_law_beaten", "_law_found", "_law_half", "_law_low", "_law_one", "_law_other", "_law_both"]) rfl (ZH (by decide +kernel))) (Zw (r:=.own ((dueK n kvs).map fun q=>.tup [.int (slotIx n q.1:Nat),.int q.1,.int q.2])) (Z5 (yI (ps:=(prsK n kvs).map (tri n)) (qs:=(dueK n kvs).map (tri n)) h64 (Z2S h2 kvs) ((List.mergeSort_perm _ _).map _) ?_ T.b_sorted (Z1 (Z0 2 rfl) Z2)) (by rw[List.map_map];rfl))) (fun C fp s H=>pg_tup rfl (pgs_cons (pg_name (i:=0) (show List.Nodup (["_law_spot", "_law_one", "_law_other"]:List Str) by decide +kernel) rfl (Or.inl rfl)) (pgs_cons (pg_name (i:=1) (show List.Nodup (["_law_spot", "_law_one", "_law_other"]:List Str) by decide +kernel) rfl (Or.inl rfl)) (pgs_cons (pg_name (i:=2) (show List.Nodup (["_law_spot", "_law_one", "_law_other"]:List Str) by decide +kernel) rfl (Or.inl rfl)) pgs_nil)))) rfl rfl (fun q hq C fp s H=>ZC (Z1 (Z0 1 rfl) (Z1 (Z0 2 rfl) Z2))) (Nat.le_trans hdl (by decide))) rfl) rfl
   rw[List.pairwise_map]
   exact(Z3u kvs).imp fun z=>by
    show ((slotIx n _:Nat):Int)≤(slotIx n _:Nat)
    omega
end
section
variable {P:Program}{w:World}{K:PySem.W.Frag}{mg:Str→Option Value}{base:Heap}
structure Told (n:Nat)(kvs:Kv2):Prop where
 ov:OvOk kvs (btT n)
 pos:1≤(aliveT kvs (btT n)).length
 cnt:(aliveT kvs (btT n)).length+kvs.length=n
theorem pl0 {n:Nat}(h1:1≤n)(h2:n≤16):∀p∈plT (btT n),0≤p:=fun p hp=>((Ye n (List.mem_range.mpr (by omega)) h1).2.2.1 p hp).1
theorem jV {n:Nat}(h1:1≤n)(h2:n≤16):Told n []:=by
 have pt:=Ye n (List.mem_range.mpr (by omega)) h1
 refine⟨J7 _ (pl0 h1 h2) pt.1,?_,?_⟩
 · rw[yh,pt.2.1];exact h1
 · rw[yh,pt.2.1];rfl
theorem Jf {n:Nat}(h1:1≤n)(h2:n≤16){kvs:Kv2}(p:Told n kvs){q:Int × Int}(hq:q∈dueK n kvs){a b:Int}(hab:(a=q.1∧b=q.2)∨(a=q.2∧b=q.1)) :
 Told n (kvs++[(b,a)])∧isDueB n kvs a b=true∧outB kvs b=false:=by
 have hq':=(jg h1 h2).mp hq
 have pt:=Ye n (List.mem_range.mpr (by omega)) h1
 have da:=ZR hq'
 have bal:b∈aliveT kvs (btT n):=by
  rcases hab with ⟨_,e⟩ | ⟨_,e⟩ <;> rw[e]
  · exact da.2
  · exact da.1
 have e1:=zK (a:=a) pt.1 bal
 have two:2≤(aliveT kvs (btT n)).length:=Classical.byContradiction fun z=>by
  rw[Yl (by omega)] at hq';cases hq'
 refine⟨⟨Jo hab (pl0 h1 h2) pt.1 hq' p.ov,by omega,?_⟩,?_,(mem_alive.mp bal).2⟩
 · have:=p.cnt
   rw[List.length_append]
   show _+(kvs.length+1)=n
   omega
 · unfold isDueB
   have:(q.1,q.2)∈dueK n kvs:=hq
   rcases hab with ⟨e1,e2⟩ | ⟨e1,e2⟩ <;> rw[e1,e2]
   · simp[this]
   · simp[this]
theorem zb:∀ {m n:Nat},((List.range' m n).map fun (i:Nat)=>(i:Int)).Pairwise (· ≤ ·)
 | m,0=>List.Pairwise.nil
 | m,n+1=>by
  rw[List.range'_succ,List.map_cons]
  refine List.pairwise_cons.mpr ⟨fun x hx=>?_,zb⟩
  obtain⟨i,hi,rfl⟩:=List.mem_map.mp hx
  have:=(List.mem_range'_1.mp hi).1
  omega
def restN (n:Nat)(kvs:Kv2):List Nat:=(List.range n).filter fun i=>!outB kvs (i:Nat)
theorem Z0n {n:Nat}(h1:1≤n)(h2:n≤16)(kvs:Kv2):sortI (leftL n kvs)=(restN n kvs).map fun (i:Nat)=>(i:Int):=by
 have pt:=Ye n (List.mem_range.mpr (by omega)) h1
 have perm0:(plT (btT n)).Perm ((List.range n).map fun (i:Nat)=>(i:Int)):=by
  refine(List.perm_ext_iff_of_nodup pt.1 ?_).mpr fun p=>⟨fun hp=>?_,fun hp=>?_⟩
  · exact List.Pairwise.map _ (fun a b h z=>h (by omega)) List.nodup_range
  · have:=pt.2.2.1 p hp
    exact List.mem_map.mpr ⟨p.toNat,List.mem_range.mpr (by omega),by omega⟩
  · obtain⟨i,hi,rfl⟩:=List.mem_map.mp hp
    exact pt.2.2.2.1 i hi
 have ef:(restN n kvs).map (fun (i:Nat)=>(i:Int))=((List.range n).map fun (i:Nat)=>(i:Int)).filter fun p=>!outB kvs p:=by
  unfold restN
  rw[List.filter_map];rfl
 refine(L2.sortI_one ?_ ?_).symm
 · rw[Jz,Y0,ef]
   exact(perm0.filter _).symm
 · rw[ef]
   have:((List.range n).map fun (i:Nat)=>(i:Int)).Pairwise (· ≤ ·):=by rw[List.range_eq_range'];exact zb
   exact this.filter _
theorem Z1b {n:Nat}(h1:1≤n)(h2:n≤16)(kvs:Kv2):(restN n kvs).length=(aliveT kvs (btT n)).length:=by
 have e:=congrArg List.length (Z0n h1 h2 kvs)
 rw[List.length_map] at e
 rw[←e,(YV _).length_eq,Jz]
end
section
variable {P:Program}{w:World}{K:PySem.W.Frag}{mg:Str→Option Value}{base:Heap}
theorem JS {K:PySem.W.Frag}{tt:Value}:∀ {cs:List Value},(∀c∈cs,PySem.W.kitOne K tt c=some false)→PySem.W.kitAny K tt cs=some false
 | [],_=>rfl
 | c::cs,h=>by
  unfold PySem.W.kitAny
  rw[h c List.mem_cons_self]
  exact JS fun d hd=>h d (List.mem_cons_of_mem _ hd)
def pre__law_whole (ds:List D)(r:R):Prop:=∃d,plD d=true∧ds=[d]∧r=.dat (.bl (isW d))
theorem ok__law_whole (T:Txt K mg t):Fn P w K mg base 1 "_law_whole" ["_law_found"] pre__law_whole:=by
 refine ZO T.d__law_whole sc__law_whole (fun _ _ _ _ _ _ us hl=>match us,hl with | [_],_=>rfl) (by rintro _ _ ⟨d,_,rfl,rfl⟩;rfl) ?_
 rintro _ f cdv A outer s H E rfl hr _ _ ⟨d,hp,rfl,rfl⟩
 refine Zd (Zy (Jk T.b_isinstance T.b_int Zp jj (Z0 0 rfl) (jM hp) (yr hp)) fun _=>(Yd (zg (Jk T.b_isinstance T.b_bool Zp jS (Z0 0 rfl) (j4 hp) (yr hp))))) ?_
 cases d <;> rfl
def pre__law_refused (t:Adr)(ds:List D)(r:R):Prop:=∃(n:Nat) (kvs:Kv2) (d1 d2:D),1≤n∧n≤16∧plD d1=true∧plD d2=true∧isDueD n kvs d1 d2=false∧ds=[treeD t n kvs,d1,d2]∧r=.dat (.bl true)
theorem ok__law_refused (T:Txt K mg t)(G_Tree_told:MtR P w K mg base 10 t.Tree "told" ["self", "winner", "loser"] (preR_Tree_told t))(GX_Tree_told:MtX P w K mg base 10 t.Tree "told" ["self", "winner", "loser"] (fun _ _=>False) (preX_Tree_told t)):Fn P w K mg base 12 "_law_refused" ["_law_tree", "_law_winner", "_law_loser"] (pre__law_refused t):=by
 refine ZO T.d__law_refused sc__law_refused (fun _ _ _ _ _ _ us hl=>match us,hl with | [_,_,_],_=>rfl) (by rintro _ _ ⟨_,_,_,_,_,_,_,_,_,rfl,rfl⟩;rfl) ?_
 rintro _ f cdv A outer s H E rfl hr _ _ ⟨n,kvs,d1,d2,h1,h2,p1,p2,hd,rfl,rfl⟩
 refine Z4 (Zh 3 Zt sc__law_refused.nd) ?_
 refine Z4 (yF (C:=t.NotDue) (c:=.ref t.CupError) (ρ1:=[.dat (treeD t n kvs),.dat d1,.dat d2,.dat .non,.un]) (ρ2:=[.dat (treeD t n kvs),.dat d1,.dat d2,.dat (.exn t.NotDue),.dat (.exn t.NotDue)]) ?hb T.ex_NotDue_CupError (.inl T.x_CupError) 4 ?hs sc__law_refused.nd) ?_
 case hb =>
  intro xe pn E xf
  exact QK.s (zd (JP (Z26 GX_Tree_told xf T.cl_Tree (hr.mono (by decide)) (Z0 0 rfl) (Z1 (Z0 1 rfl) (Z1 (Z0 2 rfl) Z2)) ⟨n,kvs,d1,d2,h1,h2,p1,p2,hd,rfl,rfl⟩)))
 case hs =>
  intro ea
  exact QK.s (Z4 (Zh 3 (Z0 4 rfl) sc__law_refused.nd) (Ze (ze ⟨.inr rfl,.inr rfl,.inr rfl,.inr rfl,.inr rfl,True.intro⟩)))
 refine Zr (QW.t (ZN (Zm (Zg (jE T.b_isinstance T.x_NotDue Zp (Z0 3 rfl) T.ki_NotDue_NotDue T.xk_NotDue))) fun _=>(ZP (Zm (Zg (jD T.b_isinstance T.b_ValueError Zp Jd (Z0 3 rfl) T.ki_NotDue_ValueError T.xk_NotDue)))))) (fun z=>nomatch z) (fun _=>Ze ?_)
 refine Zd (zg (zV (k:=false) T.b_isinstance Zp (Z0 3 rfl) (Zs T.x_NoGame (Zs T.x_NoRule (Zs T.x_NoSize (Zs T.x_NoPairing (Zs T.x_Uneven (Zs T.x_NoNumber (Zs T.x_NoText (Zs T.x_NoRow (Zs T.x_NoName Z0q))))))))) (JS ?_) T.xk_NotDue)) rfl
 intro c hc
 simp only[List.map_cons,List.map_nil,List.mem_cons,List.not_mem_nil,or_false] at hc
 rcases hc with rfl | rfl | rfl | rfl | rfl | rfl | rfl | rfl | rfl
 · exact T.ki_NotDue_NoGame
 · exact T.ki_NotDue_NoRule
 · exact T.ki_NotDue_NoSize
 · exact T.ki_NotDue_NoPairing
 · exact T.ki_NotDue_Uneven
 · exact T.ki_NotDue_NoNumber
 · exact T.ki_NotDue_NoText
 · exact T.ki_NotDue_NoRow
 · exact T.ki_NotDue_NoName
def pre__law_no_tree (ds:List D)(r:R):Prop:=∃d,plD d=true∧btw 1 16 d=false∧ds=[d]∧r=.dat (.bl true)
theorem ok__law_no_tree (T:Txt K mg t)(G_Tree_init:IniR P w K mg base 6 t.Tree ["self", "n"] (preJ_Tree t))(GX_Tree_init:IniX P w K mg base 6 t.Tree ["self", "n"] (fun _ _ _=>False) (preIX_Tree t)):Fn P w K mg base 9 "_law_no_tree" ["_law_n"] pre__law_no_tree:=by
 refine ZO T.d__law_no_tree sc__law_no_tree (fun _ _ _ _ _ _ us hl=>match us,hl with | [_],_=>rfl) (by rintro _ _ ⟨d,_,_,rfl,rfl⟩;rfl) ?_
 rintro _ f cdv A outer s H E rfl hr _ _ ⟨d,hp,hb,rfl,rfl⟩
 refine Z4 (Zh 1 Zt sc__law_no_tree.nd) ?_
 refine Z4 (yF (C:=t.NoSize) (c:=.ref t.CupError) (ρ1:=[.dat d,.dat .non,.un]) (ρ2:=[.dat d,.dat (.exn t.NoSize),.dat (.exn t.NoSize)]) ?hb T.ex_NoSize_CupError (.inl T.x_CupError) 2 ?hs sc__law_no_tree.nd) ?_
 case hb =>
  intro xe pn E xf
  exact QK.s (zd (JP (Z1d GX_Tree_init T.x_Tree xf (hr.mono (by decide)) (Z1 (Z0 0 rfl) Z2) ⟨d,hp,hb,rfl,rfl⟩)))
 case hs =>
  intro ea
  exact QK.s (Z4 (Zh 1 (Z0 2 rfl) sc__law_no_tree.nd) (Ze (ze ⟨.inr rfl,.inr rfl,.inr rfl,True.intro⟩)))
 refine Zr (QW.t (ZN (Zm (Zg (jE T.b_isinstance T.x_NoSize Zp (Z0 1 rfl) T.ki_NoSize_NoSize T.xk_NoSize))) fun _=>(ZP (Zm (Zg (jD T.b_isinstance T.b_ValueError Zp Jd (Z0 1 rfl) T.ki_NoSize_ValueError T.xk_NoSize)))))) (fun z=>nomatch z) (fun _=>Ze ?_)
 refine Zd (zg (zV (k:=false) T.b_isinstance Zp (Z0 1 rfl) (Zs T.x_NoGame (Zs T.x_NoRule (Zs T.x_NotDue (Zs T.x_NoPairing (Zs T.x_Uneven (Zs T.x_NoNumber (Zs T.x_NoText (Zs T.x_NoRow (Zs T.x_NoName Z0q))))))))) (JS ?_) T.xk_NoSize)) rfl
 intro c hc
 simp only[List.map_cons,List.map_nil,List.mem_cons,List.not_mem_nil,or_false] at hc
 rcases hc with rfl | rfl | rfl | rfl | rfl | rfl | rfl | rfl | rfl
 · exact T.ki_NoSize_NoGame
 · exact T.ki_NoSize_NoRule
 · exact T.ki_NoSize_NotDue
 · exact T.ki_NoSize_NoPairing
 · exact T.ki_NoSize_Uneven
 · exact T.ki_NoSize_NoNumber
 · exact T.ki_NoSize_NoText
 · exact T.ki_NoSize_NoRow
 · exact T.ki_NoSize_NoName
def toldL (n:Nat)(kvs:Kv2):List D:=[.lst ((dueK n kvs).map pD),.lst ((sortI (leftL n kvs)).map D.int),.lst ((List.range n).map fun i=>oD (byT kvs (i:Nat)))]
def pre__law_told (t:Adr)(ds:List D)(r:R):Prop:=∃(n:Nat) (kvs:Kv2),1≤n∧n≤16∧ds=[treeD t n kvs,.int n]∧r=.own (toldL n kvs)
theorem ok__law_told (T:Txt K mg t)(G_Tree_beaten_by:Mt P w K mg base 1 t.Tree "beaten_by" ["self", "player"] (pre_Tree_beaten_by t))(G_Tree_due:Mt P w K mg base 8 t.Tree "due" ["self"] (pre_Tree_due t))(G_Tree_left:Mt P w K mg base 2 t.Tree "left" ["self"] (pre_Tree_left t)):Fn P w K mg base 10 "_law_told" ["_law_tree", "_law_n"] (pre__law_told t):=by
 refine ZO T.d__law_told sc__law_told (fun _ _ _ _ _ _ us hl=>match us,hl with | [_,_],_=>rfl) (by rintro _ _ ⟨_,_,_,_,rfl,rfl⟩;rfl) ?_
 rintro _ f cdv A outer s H E rfl hr _ _ ⟨n,kvs,h1,h2,rfl,rfl⟩
 exact Zd (ZA (Z1 (YY G_Tree_due T.cl_Tree (hr.mono (by decide)) (Z0 0 rfl) ⟨n,kvs,h1,h2,rfl,rfl⟩) (Z1 (YY G_Tree_left T.cl_Tree (hr.mono (by decide)) (Z0 0 rfl) ⟨n,kvs,h1,h2,rfl,rfl⟩) (Z1 (Z2d (N:=["_law_player", "_law_tree"]) (n:=n) (F:=fun i=>oD (byT kvs (i:Nat))) [none,some 0] (ZZ (out':=defScope s__law_told) rfl ⟨rfl,by decide +kernel,by decide +kernel,by decide +kernel,by decide +kernel,rfl⟩) (ZI (N0:=["_law_tree", "_law_n"]) rfl (ZH (by decide +kernel))) (Z0 1 rfl) (by omega) (fun C fp s H=>pg_name (i:=0) (show List.Nodup (["_law_player", "_law_tree"]:List Str) by decide +kernel) rfl (Or.inl rfl)) (fun i hi C fp s H=>Yv G_Tree_beaten_by T.cl_Tree (hr.mono (by decide)) (Z0 1 rfl) (Z1 (Z0 0 rfl) Z2) ⟨n,kvs,(i:Nat),rfl,rfl⟩) (Nat.le_trans h2 (by decide)) T.b_range) Z2)))) rfl
def odd31 (n:Nat)(far:Int):List D:=[.int n,.int (-1),.int (n+1+far),.int (-2-far),.bl true,.bl false,.non,.str "1",.str "",.lst [.int 1],.tup [.int 0],.dct [.inl 0] [.int 1]]
def thing31 (ns:List Int)(k n:Nat):D:=if drawn ns (k+1) 3=0 then (odd31 n (drawn ns k 999983)).getD (drawn ns (k+2) 12).toNat .non else .int (drawn ns (k+3) n)
theorem z9 (ns:List Int)(k n:Nat):plD (thing31 ns k n)=true:=by
 unfold thing31
 split
 · have hd:=ZJ (ns:=ns) (k:=k+2) (m:=12) (by decide)
   have hk:(drawn ns (k+2) 12).toNat<(odd31 n (drawn ns k 999983)).length:=by show _<12;omega
   have:(odd31 n (drawn ns k 999983)).getD (drawn ns (k+2) 12).toNat .non∈odd31 n (drawn ns k 999983):=by
    simp only[List.getD,List.getElem?_eq_getElem hk,Option.getD_some]
    exact List.getElem_mem hk
   generalize (odd31 n (drawn ns k 999983)).getD (drawn ns (k+2) 12).toNat .non=d at this
   simp only[odd31,List.mem_cons,List.not_mem_nil,or_false] at this
   rcases this with rfl | rfl | rfl | rfl | rfl | rfl | rfl | rfl | rfl | rfl | rfl | rfl <;> rfl
 · rfl
def pre__law_thing (ds:List D)(r:R):Prop:=∃(ns:List Int) (k n:Nat),k≤1000∧1≤n∧n≤16∧ds=[.lst (ns.map D.int),.int k,.int n]∧r=.dat (thing31 ns k n)
theorem ok__law_thing (T:Txt K mg t)(G__law_drawn:Fn P w K mg base 1 "_law_drawn" ["_law_script", "_law_k", "_law_size"] pre__law_drawn):Fn P w K mg base 2 "_law_thing" ["_law_script", "_law_k", "_law_n"] pre__law_thing:=by
 refine ZO T.d__law_thing sc__law_thing (fun _ _ _ _ _ _ us hl=>match us,hl with | [_,_,_],_=>rfl) (by rintro _ _ ⟨_,_,_,_,_,_,rfl,rfl⟩;rfl) ?_
 rintro _ f cdv A outer s H E rfl hr _ _ ⟨ns,k,n,hk,h1,h2,rfl,rfl⟩
 refine Z4 (Zh 3 (Zc G__law_drawn (hr.mono (by decide)) (Z1 (Z0 0 rfl) (Z1 (Z0 1 rfl) (Z1 (r:=.dat (.int ((999983:Nat):Int))) (Z5 Z3 rfl) Z2))) ⟨ns,k,999983,by omega,by decide,rfl,rfl⟩) sc__law_thing.nd) ?_
 refine Z4 (Zh 4 (r:=.own (odd31 n (drawn ns k 999983))) (ZA (Z1 (Z0 2 rfl) (Z1 (YL Z3) (Z1 (Z6 op_add Zo (Z6 op_add Zo (Z0 2 rfl) Z3) (Z0 3 rfl)) (Z1 (Z6 op_sub Zo (YL Z3) (Z0 3 rfl)) (Z1 Yn (Z1 Yn (Z1 Zt (Z1 Jj (Z1 Jj (Z1 (Zw (ZA (Z1 Z3 Z2))) (Z1 (ZC (Z1 Z3 Z2)) (Z1 yJ Z2))))))))))))) sc__law_thing.nd) ?_
 refine Y8 4 rfl ?_
 have hd:=ZJ (ns:=ns) (k:=k+2) (m:=12) (by decide)
 refine Z33 (p:=drawn ns (k+1) 3=0) (Zi op_eq Yr (Zc G__law_drawn (hr.mono (by decide)) (Z1 (Z0 0 rfl) (Z1 (r:=.dat (.int ((k+1:Nat):Int))) (Z5 (Z6 op_add Zo (Z0 1 rfl) Z3) (by congr 2)) (Z1 (r:=.dat (.int ((3:Nat):Int))) (Z5 Z3 rfl) Z2))) ⟨ns,k+1,3,by omega,by decide,rfl,rfl⟩) Z3 (nomark _)) (fun h=>?_) (fun h=>Ze ?_)
 · refine Zd (ZL (i:=drawn ns (k+2) 12) (Z0 4 rfl) (Zc G__law_drawn (hr.mono (by decide)) (Z1 (Z0 0 rfl) (Z1 (r:=.dat (.int ((k+2:Nat):Int))) (Z5 (Z6 op_add Zo (Z0 1 rfl) Z3) (by congr 2)) (Z1 (r:=.dat (.int ((12:Nat):Int))) (Z5 Z3 rfl) Z2))) ⟨ns,k+2,12,by omega,by decide,rfl,rfl⟩) (Z1Q (l:=odd31 n (drawn ns k 999983)) hd.1 (by show _<(12:Int);exact hd.2))) ?_
   unfold thing31;rw[if_pos h]
 · refine Zd (Zc G__law_drawn (hr.mono (by decide)) (Z1 (Z0 0 rfl) (Z1 (r:=.dat (.int ((k+3:Nat):Int))) (Z5 (Z6 op_add Zo (Z0 1 rfl) Z3) (by congr 2)) (Z1 (Z0 2 rfl) Z2))) ⟨ns,k+3,n,by omega,by omega,rfl,rfl⟩) ?_
   unfold thing31;rw[if_neg h]
def pre__law_alike_due (ds:List D)(r:R):Prop:=∃(n:Nat) (kvs:Kv2) (d1 d2:D),plD d1=true∧plD d2=true∧ds=[d1,d2,.lst ((dueK n kvs).map pD)]∧r=.dat (.bl (isDueD n kvs d1 d2))
theorem Z0N {n:Nat}{kvs:Kv2}{d1 d2:D}(h:(isW d1&&isW d2)=false):isDueD n kvs d1 d2=false:=by
 cases d1 <;> cases d2 <;> first | rfl | cases h
theorem ok__law_alike_due (T:Txt K mg t)(G__law_whole:Fn P w K mg base 1 "_law_whole" ["_law_found"] pre__law_whole):Fn P w K mg base 2 "_law_alike_due" ["_law_winner", "_law_loser", "_law_due_here"] pre__law_alike_due:=by
 refine ZO T.d__law_alike_due sc__law_alike_due (fun _ _ _ _ _ _ us hl=>match us,hl with | [_,_,_],_=>rfl) (by rintro _ _ ⟨_,_,_,_,_,_,rfl,rfl⟩;rfl) ?_
 rintro _ f cdv A outer s H E rfl hr _ _ ⟨n,kvs,d1,d2,p1,p2,rfl,rfl⟩
 cases hw:(isW d1&&isW d2) with
 | false =>
  rw[Z0N hw]
  refine Zr (Z7 (c:=true) (QW.t (ZN (Zm (Zg (Zc G__law_whole (hr.mono (by decide)) (Z1 (Z0 0 rfl) Z2) ⟨d1,p1,rfl,rfl⟩))) fun _=>ZP (Zm (Zg (Zc G__law_whole (hr.mono (by decide)) (Z1 (Z0 1 rfl) Z2) ⟨d2,p2,rfl,rfl⟩))))) ?_) (fun _=>Zd Yn rfl) (fun z=>nomatch z)
  cases e1:isW d1 <;> cases e2:isW d2 <;> first | rfl | (rw[e1,e2] at hw;cases hw)
 | true =>
  rw[Bool.and_eq_true] at hw
  obtain⟨a,rfl⟩:=YO hw.1
  obtain⟨b,rfl⟩:=YO hw.2
  refine Zr (Z7 (c:=false) (QW.t (ZN (b1:=false) (b2:=false) (Z7 (c:=false) (Zm (Zg (Zc G__law_whole (hr.mono (by decide)) (Z1 (Z0 0 rfl) Z2) ⟨_,rfl,rfl,rfl⟩))) rfl) fun _=>ZP (Z7 (c:=false) (Zm (Zg (Zc G__law_whole (hr.mono (by decide)) (Z1 (Z0 1 rfl) Z2) ⟨_,rfl,rfl,rfl⟩))) rfl))) rfl) (fun z=>nomatch z) (fun _=>Ze ?_)
  refine Zd (Z5 (Z1K (zh (da:=pD (a,b)) hr.units (ZC (Z1 (Z0 0 rfl) (Z1 (Z0 1 rfl) Z2))) (Z0 2 rfl) (YQ _) (Y6 _)) (fun _=>Yd (zh (da:=pD (b,a)) hr.units (ZC (Z1 (Z0 1 rfl) (Z1 (Z0 0 rfl) Z2))) (Z0 2 rfl) (YQ _) (Y6 _)))) ?_) rfl
  rw[Yx,Yx];rfl
end
section
variable {P:Program}{w:World}{K:PySem.W.Frag}{mg:Str→Option Value}{base:Heap}
def pick30 (ns:List Int)(k:Nat)(l:List (Int × Int)):Int × Int:=l.getD (drawn ns (2*k+5) l.length).toNat (0,0)
def won30 (ns:List Int)(k:Nat)(q:Int × Int):Int × Int:=if drawn ns (2*k+6) 2=0 then (q.1,q.2) else (q.2,q.1)
noncomputable def step30 (ns:List Int)(k n:Nat)(kvs:Kv2):Kv2:=if dueK n kvs=[] then kvs else kvs++[((won30 ns k (pick30 ns k (dueK n kvs))).2,(won30 ns k (pick30 ns k (dueK n kvs))).1)]
theorem zY {ns:List Int}{k:Nat}{l:List (Int × Int)}(h:l≠[]):pick30 ns k l∈l:=by
 have hp:0<l.length:=List.length_pos_iff.mpr h
 have hd:=ZJ (ns:=ns) (k:=2*k+5) hp
 have:(drawn ns (2*k+5) l.length).toNat<l.length:=by omega
 unfold pick30
 simp only[List.getD,List.getElem?_eq_getElem this,Option.getD_some]
 exact List.getElem_mem this
theorem yt {ns:List Int}{k:Nat}{q:Int × Int}:((won30 ns k q).1=q.1∧(won30 ns k q).2=q.2)∨((won30 ns k q).1=q.2∧(won30 ns k q).2=q.1):=by
 unfold won30
 split
 · exact .inl ⟨rfl,rfl⟩
 · exact .inr ⟨rfl,rfl⟩
theorem Z0h {ns:List Int}{k n:Nat}(h1:1≤n)(h2:n≤16){kvs:Kv2}(p:Told n kvs):Told n (step30 ns k n kvs):=by
 unfold step30
 split
 · exact p
 · rename_i h
   exact(Jf h1 h2 p (zY h) yt).1
theorem zM {n:Nat}{kvs:Kv2}{b:Int}(h:outB kvs b=false):∀z∈kvs,z.1≠b:=fun z hz e=>by
 unfold outB at h
 have:=List.any_eq_false.mp h z hz
 simp[e] at this
noncomputable def seqB (ns:List Int)(n:Nat):Nat→Kv2
 | 0=>[]
 | i+1=>step30 ns i n (seqB ns n i)
theorem zy {ns:List Int}{n:Nat}(h1:1≤n)(h2:n≤16):∀i,Told n (seqB ns n i)
 | 0=>jV h1 h2
 | i+1=>Z0h h1 h2 (zy h1 h2 i)
abbrev r31b (n:Nat)(k du pa wo:Slot):Ro:=[.un,.un,.dat (.int n),.un,k,du,pa,wo]
theorem nk31b {n:Nat}{k du pa wo:Slot}(h0:nkS k=true)(h1:nkS du=true)(h2:nkS pa=true)(h3:nkS wo=true):nkR (r31b n k du pa wo):=⟨rfl,rfl,ZX (n:Int),rfl,h0,h1,h2,h3,trivial⟩
theorem Z1p {K:PySem.W.Frag}{t:Adr}{H Ha:Hp}{j1 j2 j3:Nat}{x dx sa wa ba:Addr}{n:Nat}{kvs:Kv2}{v0:V}{d:D}(ta:TreeAt t H x dx sa wa n kvs)(hba:H ba=some (.dK (kvV kvs)))(hne:wa≠ba)(ha0:Ha wa=none)(hb0:Ha ba=none):∀k1 k2,Dis [muT t j1 x dx sa wa n k1,muD j2 ba k2,muA j3 v0 d Ha]:=fun k1 k2=>by
 have nx:ba≠x∧ba≠sa:=⟨(fun z=>by have:=ta.ins;rw[←z,hba] at this;cases this),(fun z=>by have:=ta.sl;rw[←z,hba] at this;cases this)⟩
 refine List.pairwise_cons.mpr ⟨fun m hm=>?_,List.pairwise_cons.mpr ⟨fun m hm=>?_,List.pairwise_singleton _ _⟩⟩
 · rcases List.mem_cons.mp hm with z | hm
   · subst z
     refine⟨fun b e z=>?_,fun b e z=>?_⟩
     · cases e;exact hne z
     · cases e
       rcases z with z | z | z
       · exact nx.1 z
       · exact nx.2 z
       · exact hne z.symm
   · rw[List.mem_singleton.mp hm]
     refine⟨fun b e z=>?_,fun b e=>nomatch e⟩
     cases e;exact z ha0
 · rw[List.mem_singleton.mp hm]
   refine⟨fun b e z=>?_,fun b e=>nomatch e⟩
   cases e;exact z hb0
def preF__law_begun (K:PySem.W.Frag)(t:Adr)(vs:List V)(H:Hp)(R:V→Hp→Prop):Prop:=∃(ns:List Int) (v0:V) (x dx sa wa ba:Addr) (n:Nat),1≤n∧n≤16∧vs=[v0,.ref x,.int n,.ref ba]∧Is K H (.lst (ns.map D.int)) v0∧TreeAt t H x dx sa wa n []∧H ba=some (.dK (kvV []))∧wa≠ba ∧
 R=fun v H'=>v=.non∧TreeAt t H' x dx sa wa n (seqB ns n (drawn ns 1 (n+1)).toNat)∧H' ba=some (.dK (kvV (seqB ns n (drawn ns 1 (n+1)).toNat)))∧SameX [wa,ba] H H'
theorem ok__law_begun (T:Txt K mg t)(G_Tree_told:MtR P w K mg base 10 t.Tree "told" ["self", "winner", "loser"] (preR_Tree_told t))(GX_Tree_told:MtX P w K mg base 10 t.Tree "told" ["self", "winner", "loser"] (fun _ _=>False) (preX_Tree_told t))(G__law_drawn:Fn P w K mg base 1 "_law_drawn" ["_law_script", "_law_k", "_law_size"] pre__law_drawn)(G__law_due:Fn P w K mg base 7 "_law_due" ["_law_slots_here", "_law_beaten"] pre__law_due)(G__law_slots:Fn P w K mg base 1 "_law_slots" ["_law_n"] pre__law_slots):FnR P w K mg base 14 "_law_begun" ["_law_script", "_law_tree", "_law_n", "_law_beaten"] (preF__law_begun K t):=by
 refine Z0T T.d__law_begun sc__law_begun (fun _ _ _ _ _ _ us hl=>match us,hl with | [_,_,_,_],_=>rfl) (by rintro _ _ _ ⟨_,_,_,_,_,_,_,_,_,_,rfl,_⟩;rfl) ?_
 rintro _ f cdv A outer s H E rfl hr _ _ ⟨ns,v0,x,dx,sa,wa,ba,n,h1,h2,rfl,i0,ta,hba,hne,rfl⟩ De fnx frt
 have i1:Is K (fun c=>if c=wa then none else H c) (.lst (ns.map D.int)) v0:=Is.nod ta.wi (fun _ z=>nomatch z) (fun _ z=>nomatch z) (fun _ _ z=>nomatch z) (yQ ns) i0
 have hba':(fun c=>if c=wa then none else H c) ba=some (.dK (kvV [])):=by
  show (if ba=wa then none else H ba)=_
  rw[if_neg (Ne.symm hne)];exact hba
 have i2:Is K (fun c=>if c=ba then none else (fun c=>if c=wa then none else H c) c) (.lst (ns.map D.int)) v0:=Is.nod (ob:=.dK (kvV [])) hba' (fun _ z=>nomatch z) (fun _ z=>nomatch z) (fun _ _ z=>nomatch z) (yQ ns) i1
 have okA:MuOk K (muA 0 v0 (.lst (ns.map D.int)) (fun c=>if c=ba then none else (fun c=>if c=wa then none else H c) c)):=yT i2
 have sa0:Same (fun c=>if c=ba then none else (fun c=>if c=wa then none else H c) c) H:=fun c o e=>by
  have e':(if c=ba then none else if c=wa then none else H c)=some o:=e
  split at e'
  · cases e'
  · split at e'
    · cases e'
    · exact e'
 generalize hHa:(fun c=>if c=ba then none else (fun c=>if c=wa then none else H c) c)=Ha at *
 have ha0:Ha wa=none:=by rw[←hHa];simp
 have hb0:Ha ba=none:=by rw[←hHa];simp
 refine zS (ρ:=r31b n .un .un .un .un) (ms:=[muT t 1 x dx sa wa n [],muD 3 ba [],muA 0 v0 (.lst (ns.map D.int)) Ha]) (as:=[wa,ba]) ⟨trivial,trivial,⟨_,rfl,Zl⟩,trivial,trivial,trivial,trivial,trivial,trivial⟩ ?_ ?_
 · intro m hm
   rcases List.mem_cons.mp hm with z | hm
   · subst z;exact⟨rfl,ta⟩
   · rcases List.mem_cons.mp hm with z | hm
     · subst z;exact⟨rfl,hba⟩
     · rw[List.mem_singleton.mp hm];exact⟨rfl,sa0⟩
 have ok3:∀k1 k2,MsOk K [muT t 1 x dx sa wa n k1,muD 3 ba k2,muA 0 v0 (.lst (ns.map D.int)) Ha]:=fun k1 k2=>.cons Jr (.cons zm (.cons okA .nil))
 have di3:∀k1 k2,Dis [muT t 1 x dx sa wa n k1,muD 3 ba k2,muA 0 v0 (.lst (ns.map D.int)) Ha]:=Z1p (K:=K) ta hba hne ha0 hb0
 have hdc:=ZJ (ns:=ns) (k:=1) (m:=n+1) (by omega)
 refine yu 4 (n:=(drawn ns 1 (n+1)).toNat) (fun _=>r31b n .un .un .un .un) (fun i=>[muT t 1 x dx sa wa n (seqB ns n i),muD 3 ba (seqB ns n i),muA 0 v0 (.lst (ns.map D.int)) Ha]) (fun i _=>ok3 _ _) (Z5 (Zc G__law_drawn (hr.mono (by decide)) (Z1 (Z0 0 rfl) (Z1 Z3 (Z1 (r:=.dat (.int ((n+1:Nat):Int))) (Z5 (Z6 op_add Zo (Z0 2 rfl) Z3) (by congr 2)) Z2))) ⟨ns,1,n+1,by decide,by omega,rfl,rfl⟩) (by rw[Int.toNat_of_nonneg hdc.1])) (by omega) ⟨.inl rfl,.inl rfl,.inr rfl,.inl rfl,.inl rfl,.inl rfl,.inl rfl,.inl rfl,True.intro⟩ rfl (fun i hi D' hrt hnx=>?_) ?_ T.b_range sc__law_begun.nd PassesOwn.never (fun _ _=>rfl)
 · have td:=zy (ns:=ns) h1 h2 i
   have enx:seqB ns n (i+1)=step30 ns i n (seqB ns n i):=rfl
   rw[enx] at hnx
   generalize seqB ns n i=kvs at *
   refine Ym 5 (ok3 kvs kvs) (Zc G__law_due (hr.mono (by decide)) (Z1 (Zc G__law_slots (hr.mono (by decide)) (Z1 (Z0 2 rfl) Z2) ⟨n,h1,h2,rfl,rfl⟩) (Z1 (Z0 3 rfl) Z2)) ⟨n,kvs,h1,h2,td.ov,rfl,rfl⟩) ?_ sc__law_begun.nd
   by_cases hn:dueK n kvs=[]
   · refine Je (bv:=false) (ok3 kvs kvs) (Z7 (c:=false) (Zi (yN hr.units) (zD (da:=.lst ((dueK n kvs).map pD)) (db:=.lst []) rfl rfl (Y6 _) (by decide)) (Z0 5 rfl) (Zw (ZA Z2)) (nomark _)) (by rw[hn];rfl)) (fun z=>nomatch z) (fun _=>Zx (Zx (ZU fun σ Hx w=>hnx σ Hx ?_)))
     unfold step30
     rw[if_pos hn]
     exact w.weak (ρ':=r31b n .un .un .un .un) ⟨.inl rfl,.inl rfl,.inr rfl,.inl rfl,.inl rfl,.inl rfl,.inl rfl,.inl rfl,True.intro⟩
   · have hpos:0<(dueK n kvs).length:=List.length_pos_iff.mpr hn
     have hd:=ZJ (ns:=ns) (k:=2*i+5) hpos
     have hd2:=drawn2 (ns:=ns) (k:=2*i+6)
     have hq:=zY (ns:=ns) (k:=i) hn
     have st:=Jf h1 h2 td hq (yt (ns:=ns) (k:=i))
     have hat:atI ((dueK n kvs).map pD) (drawn ns (2*i+5) (dueK n kvs).length)=some (pD (pick30 ns i (dueK n kvs))):=by
      have hi':(drawn ns (2*i+5) (dueK n kvs).length).toNat<(dueK n kvs).length:=by omega
      have e:((dueK n kvs).map pD)[(drawn ns (2*i+5) (dueK n kvs).length).toNat]? = some (pD (pick30 ns i (dueK n kvs))):=by
       unfold pick30
       rw[List.getElem?_map,List.getElem?_eq_getElem hi']
       simp only[List.getD,List.getElem?_eq_getElem hi',Option.getD_some,Option.map_some]
      have:=atI_nat e
      rwa [Int.toNat_of_nonneg hd.1] at this
     have est:step30 ns i n kvs=kvs++[((won30 ns i (pick30 ns i (dueK n kvs))).2,(won30 ns i (pick30 ns i (dueK n kvs))).1)]:=by unfold step30;rw[if_neg hn]
     rw[est] at hnx
     have hcnt:=td.cnt
     have hwd:∀q:Int × Int,atI [D.int q.1,.int q.2] (drawn ns (2*i+6) 2)=some (.int (won30 ns i q).1)∧atI [D.int q.1,.int q.2] (1-drawn ns (2*i+6) 2)=some (.int (won30 ns i q).2):=fun q=>by
      unfold won30
      rcases hd2 with e | e <;> rw[e]
      · exact⟨atI_nat (j:=0) rfl,atI_nat (j:=1) rfl⟩
      · exact⟨atI_nat (j:=1) rfl,atI_nat (j:=0) rfl⟩
     generalize pick30 ns i (dueK n kvs)=q at *
     obtain⟨hw1,hw2⟩:=hwd q
     have hko:∀z∈kvs,z.1≠(won30 ns i q).2:=zM (n:=n) st.2.2
     generalize won30 ns i q=wq at *
     have hpd:pre__law_drawn [.lst (ns.map D.int),.int ((2*i+5:Nat):Int),.int ((dueK n kvs).length:Nat)] (.dat (.int (drawn ns (2*i+5) (dueK n kvs).length))):=⟨ns,2*i+5,(dueK n kvs).length,by omega,hpos,rfl,rfl⟩
     have hpd2:pre__law_drawn [.lst (ns.map D.int),.int ((2*i+6:Nat):Int),.int ((2:Nat):Int)] (.dat (.int (drawn ns (2*i+6) 2))):=⟨ns,2*i+6,2,by omega,by decide,rfl,rfl⟩
     generalize drawn ns (2*i+5) (dueK n kvs).length=jd at *
     generalize drawn ns (2*i+6) 2=jw at *
     generalize dueK n kvs=l at *
     refine Je (bv:=true) (ok3 kvs kvs) (Z7 (c:=true) (Zi (yN hr.units) (zD (da:=.lst (l.map pD)) (db:=.lst []) rfl rfl (Y6 _) (by decide)) (Z0 5 rfl) (Zw (ZA Z2)) (nomark _)) ?_) (fun _=>?_) (fun z=>nomatch z)
     · cases l with
       | nil=>exact absurd rfl hn
       | cons z l=>rfl
     refine Ym 6 (r:=.dat (pD q)) (ok3 kvs kvs) (ZL (i:=jd) (d:=pD q) (Z0 5 rfl) (Zc G__law_drawn (hr.mono (by decide)) (Z1 (Z0 0 rfl) (Z1 (r:=.dat (.int ((2*i+5:Nat):Int))) (Z5 (Z6 op_add Zo (Z6 op_mul (ZT (.inl ⟨by decide,by decide⟩)) Z3 (Z0 4 rfl)) Z3) (by congr 2)) (Z1 (r:=.dat (.int (l.length:Nat))) (Z5 (Zj call_len_seq (Zu rfl) T.b_len Zv (Z1 (Z0 5 rfl) Z2)) (by rw[List.length_map])) Z2))) hpd) hat) ?_ sc__law_begun.nd
     refine Ym 7 (r:=.dat (.int jw)) (ok3 kvs kvs) (Zc G__law_drawn (hr.mono (by decide)) (Z1 (Z0 0 rfl) (Z1 (r:=.dat (.int ((2*i+6:Nat):Int))) (Z5 (Z6 op_add Zo (Z6 op_mul (ZT (.inl ⟨by decide,by decide⟩)) Z3 (Z0 4 rfl)) Z3) (by congr 2)) (Z1 (r:=.dat (.int ((2:Nat):Int))) (Z5 Z3 rfl) Z2))) hpd2) ?_ sc__law_begun.nd
     have nk:=nk31b (n:=n) (ZX (i:Int)) (yR l) (Z1O q) (ZX jw) (k:=.dat (.int i)) (du:=.dat (.lst (l.map pD))) (pa:=.dat (pD q)) (wo:=.dat (.int jw))
     refine zv 0 (m:=muT t 1 x dx sa wa n kvs) (m':=muT t 1 x dx sa wa n (kvs++[(wq.2,wq.1)])) rfl rfl rfl rfl (ok3 kvs kvs) (di3 kvs kvs) nk (.inl List.mem_cons_self) G_Tree_told T.cl_Tree (hr.mono (by decide)) (Z1 (Za (i:=jw) (d:=.int wq.1) (Z0 6 rfl) (Z0 7 rfl) hw1) (Z1 (Za (i:=1-jw) (d:=.int wq.2) (Z0 6 rfl) (Z6 op_sub Zo Z3 (Z0 7 rfl)) hw2) Z2)) (atT (by decide) (by decide)) (toldT h1 h2 (by omega) st.2.1 st.2.2) ?_
     refine Z0c 1 (j:=3) (a:=ba) (kvs:=kvs) (kk:=wq.2) (vv:=wq.1) rfl (ok3 _ kvs) (di3 _ kvs) nk (.inl (List.mem_cons_of_mem _ List.mem_cons_self)) (Nat.lt_of_le_of_lt (show kvs.length≤100 by omega) (by decide)) hko (hu_of hr) (Za (i:=1-jw) (d:=.int wq.2) (Z0 6 rfl) (Z6 op_sub Zo Z3 (Z0 7 rfl)) hw2) (Za (i:=jw) (d:=.int wq.1) (Z0 6 rfl) (Z0 7 rfl) hw1) ?_
     refine Zx (Zx (ZU fun σ Hx w=>hnx σ Hx ?_))
     exact w.weak (ρ':=r31b n .un .un .un .un) ⟨.inl rfl,.inl rfl,.inr rfl,.inl rfl,.inl rfl,.inl rfl,.inl rfl,.inl rfl,True.intro⟩
 · exact Zx (ZU fun σ Hx w=>fnx σ Hx ⟨rfl,(w.at_ _ List.mem_cons_self).2,(w.at_ _ (List.mem_cons_of_mem _ List.mem_cons_self)).2,w.fr⟩)
end
section
variable {P:Program}{w:World}{K:PySem.W.Frag}{mg:Str→Option Value}{base:Heap}
structure MeetI (n:Nat)(kvs:Kv2)(one other:Int):Prop where
 td:Told n kvs
 o1:outB kvs one=false
 o2:outB kvs other=false
 p1:one∈plT (btT n)
 p2:other∈plT (btT n)
 ne:one≠other
theorem Z1Y {l:List Int}{a b:Int}(ha:a∈l)(hb:b∈l)(h:a≠b):2≤l.length:=by
 match l,ha,hb with
 | [x],ha,hb=>rw[List.mem_singleton] at ha hb;exact absurd (ha.trans hb.symm) h
 | _::_::_,_,_=>simp
theorem MeetI.two {n:Nat}{kvs:Kv2}{one other:Int}(m:MeetI n kvs one other):2≤(aliveT kvs (btT n)).length:=Z1Y (mem_alive.mpr ⟨m.p1,m.o1⟩) (mem_alive.mpr ⟨m.p2,m.o2⟩) m.ne
noncomputable def headU (n:Nat)(kvs:Kv2):Int × Int:=(dueK n kvs).headD (0,0)
noncomputable def wlU (one other:Int)(n:Nat)(kvs:Kv2):Int × Int:=if (headU n kvs).2=one∨(headU n kvs).2=other then ((headU n kvs).2,(headU n kvs).1) else ((headU n kvs).1,(headU n kvs).2)
noncomputable def stepU (one other:Int)(n:Nat)(kvs:Kv2):Kv2:=if isDueB n kvs one other=true then kvs else kvs++[((wlU one other n kvs).2,(wlU one other n kvs).1)]
noncomputable def seqU (one other:Int)(n:Nat)(kvs:Kv2):Nat→Kv2
 | 0=>kvs
 | i+1=>stepU one other n (seqU one other n kvs i)
theorem Z1B {n:Nat}{kvs:Kv2}(h:dueK n kvs≠[]):headU n kvs∈dueK n kvs:=by
 unfold headU
 cases e:dueK n kvs with
 | nil=>exact absurd e h
 | cons a l=>exact List.mem_cons_self
theorem Z2L {one other:Int}{n:Nat}{kvs:Kv2}:((wlU one other n kvs).1=(headU n kvs).1∧(wlU one other n kvs).2=(headU n kvs).2)∨((wlU one other n kvs).1=(headU n kvs).2∧(wlU one other n kvs).2=(headU n kvs).1):=by
 unfold wlU
 split
 · exact .inr ⟨rfl,rfl⟩
 · exact .inl ⟨rfl,rfl⟩
theorem ya {n:Nat}(h1:1≤n)(h2:n≤16){kvs:Kv2}{one other:Int}(m:MeetI n kvs one other)(hd:isDueB n kvs one other=false) :
 dueK n kvs≠[]∧MeetI n (kvs++[((wlU one other n kvs).2,(wlU one other n kvs).1)]) one other∧isDueB n kvs (wlU one other n kvs).1 (wlU one other n kvs).2=true∧outB kvs (wlU one other n kvs).2=false:=by
 have hne:=Z1E h1 h2 (kvs:=kvs) m.two
 have hq:=Z1B hne
 have st:=Jf h1 h2 m.td hq (Z2L (one:=one) (other:=other))
 unfold isDueB at hd
 rw[Bool.or_eq_false_iff,decide_eq_false_iff_not,decide_eq_false_iff_not] at hd
 have qne:=Yg (Ye n (List.mem_range.mpr (by omega)) h1).1 ((jg h1 h2).mp hq)
 have hl:(wlU one other n kvs).2≠one∧(wlU one other n kvs).2≠other:=by
  unfold wlU
  by_cases c:(headU n kvs).2=one∨(headU n kvs).2=other
  · rw[if_pos c]
    show (headU n kvs).1≠one∧(headU n kvs).1≠other
    have hm:((headU n kvs).1,(headU n kvs).2)∈dueK n kvs:=hq
    rcases c with c | c
    · refine⟨fun z=>qne (z.trans c.symm),fun z=>hd.2 ?_⟩
      rw[z,c] at hm;exact hm
    · refine⟨fun z=>hd.1 ?_,fun z=>qne (z.trans c.symm)⟩
      rw[z,c] at hm;exact hm
  · rw[if_neg c]
    rw[not_or] at c
    exact c
 refine⟨hne,⟨st.1,?_,?_,m.p1,m.p2,m.ne⟩,st.2.1,st.2.2⟩
 · rw[ZW,m.o1,show ((wlU one other n kvs).2==one)=false by simpa using hl.1];rfl
 · rw[ZW,m.o2,show ((wlU one other n kvs).2==other)=false by simpa using hl.2];rfl
theorem jy {n:Nat}(h1:1≤n)(h2:n≤16){kvs:Kv2}{one other:Int}(m:MeetI n kvs one other):∀i,MeetI n (seqU one other n kvs i) one other∧(isDueB n (seqU one other n kvs i) one other=false→(seqU one other n kvs i).length=kvs.length+i)
 | 0=>⟨m,fun _=>rfl⟩
 | i+1=>by
  obtain⟨m',hl⟩:=jy h1 h2 m i
  show MeetI n (stepU one other n (seqU one other n kvs i)) one other∧(isDueB n (stepU one other n (seqU one other n kvs i)) one other=false→(stepU one other n (seqU one other n kvs i)).length=_)
  unfold stepU
  cases hd:isDueB n (seqU one other n kvs i) one other with
  | true =>
   rw[if_pos rfl]
   exact⟨m',fun z=>by rw[hd] at z;cases z⟩
  | false =>
   rw[if_neg (by decide)]
   refine⟨(ya h1 h2 m' hd).2.1,fun _=>?_⟩
   rw[List.length_append,hl hd];rfl
abbrev r31c (n:Nat)(one other:Int)(du wi lo:Slot):Ro:=[.un,.dat (.int n),.un,.dat (.int one),.dat (.int other),du,wi,lo]
theorem nk31c {n:Nat}{one other:Int}{du wi lo:Slot}(h1:nkS du=true)(h2:nkS wi=true)(h3:nkS lo=true):nkR (r31c n one other du wi lo):=⟨rfl,ZX (n:Int),rfl,ZX one,ZX other,h1,h2,h3,trivial⟩
theorem zH (i:Int):∀l:List Int,inD (.int i) (l.map D.int)=decide (i∈l)
 | []=>by simp[inD]
 | a::l=>by
  have ih:=zH i l
  unfold inD at ih ⊢
  have e:eqD (.int a) (.int i)=decide (a=i):=by simp[eqD];rfl
  rw[List.map_cons,List.any_cons,ih,e]
  by_cases h:a=i
  · simp[h]
  · have h':¬i=a:=fun z=>h z.symm
    simp[h,h']
def preF__law_until_they_meet (K:PySem.W.Frag)(t:Adr)(vs:List V)(H:Hp)(R:V→Hp→Prop):Prop:=∃(x dx sa wa ba:Addr) (n:Nat) (kvs:Kv2) (one other:Int),1≤n∧n≤16∧MeetI n kvs one other∧vs=[.ref x,.int n,.ref ba,.int one,.int other]∧TreeAt t H x dx sa wa n kvs∧H ba=some (.dK (kvV kvs))∧wa≠ba ∧
 R=fun v H'=>v=.bl true∧SameX [wa,ba] H H'
theorem ok__law_until_they_meet (T:Txt K mg t)(G_Tree_beaten_by:Mt P w K mg base 1 t.Tree "beaten_by" ["self", "player"] (pre_Tree_beaten_by t))(G_Tree_left:Mt P w K mg base 2 t.Tree "left" ["self"] (pre_Tree_left t))(G_Tree_told:MtR P w K mg base 10 t.Tree "told" ["self", "winner", "loser"] (preR_Tree_told t))(GX_Tree_told:MtX P w K mg base 10 t.Tree "told" ["self", "winner", "loser"] (fun _ _=>False) (preX_Tree_told t))(G__law_due:Fn P w K mg base 7 "_law_due" ["_law_slots_here", "_law_beaten"] pre__law_due)(G__law_refused:Fn P w K mg base 12 "_law_refused" ["_law_tree", "_law_winner", "_law_loser"] (pre__law_refused t))(G__law_slots:Fn P w K mg base 1 "_law_slots" ["_law_n"] pre__law_slots):FnR P w K mg base 15 "_law_until_they_meet" ["_law_tree", "_law_n", "_law_beaten", "_law_one", "_law_other"] (preF__law_until_they_meet K t):=by
 refine Z0T T.d__law_until_they_meet sc__law_until_they_meet (fun _ _ _ _ _ _ us hl=>match us,hl with | [_,_,_,_,_],_=>rfl) (by rintro _ _ _ ⟨_,_,_,_,_,_,_,_,_,_,_,_,rfl,_⟩;rfl) ?_
 rintro _ f cdv A outer s H E rfl hr _ _ ⟨x,dx,sa,wa,ba,n,kvs0,one,other,h1,h2,mi,rfl,ta,hba,hne,rfl⟩ De fnx frt
 refine zS (ρ:=r31c n one other .un .un .un) (ms:=[muT t 0 x dx sa wa n kvs0,muD 2 ba kvs0]) (as:=[wa,ba]) ⟨trivial,⟨_,rfl,Zl⟩,trivial,⟨_,rfl,Zl⟩,⟨_,rfl,Zl⟩,trivial,trivial,trivial,trivial⟩ ?_ ?_
 · intro m hm
   rcases List.mem_cons.mp hm with z | hm
   · subst z;exact⟨rfl,ta⟩
   · rw[List.mem_singleton.mp hm];exact⟨rfl,hba⟩
 have ok2:∀k1 k2,MsOk K [muT t 0 x dx sa wa n k1,muD 2 ba k2]:=fun k1 k2=>.cons Jr (.cons zm .nil)
 have di2:∀k1 k2,Dis [muT t 0 x dx sa wa n k1,muD 2 ba k2]:=fun k1 k2=>by
  have nx:ba≠x∧ba≠sa:=⟨(fun z=>by have:=ta.ins;rw[←z,hba] at this;cases this),(fun z=>by have:=ta.sl;rw[←z,hba] at this;cases this)⟩
  refine List.pairwise_cons.mpr ⟨fun m hm=>?_,List.pairwise_singleton _ _⟩
  rw[List.mem_singleton.mp hm]
  refine⟨fun b e z=>?_,fun b e z=>?_⟩
  · cases e;exact hne z
  · cases e
    rcases z with z | z | z
    · exact nx.1 z
    · exact nx.2 z
    · exact hne z.symm
 have pdue:∀k,Told n k→pre__law_due [.lst ((slots n).map oD),tblD k] (.own ((dueK n k).map pD)):=fun k td=>⟨n,k,h1,h2,td.ov,rfl,rfl⟩
 have psl:pre__law_slots [.int (n:Nat)] (.own ((slots n).map oD)):=⟨n,h1,h2,rfl,rfl⟩
 refine Ym 5 (ok2 kvs0 kvs0) (Zc G__law_due (hr.mono (by decide)) (Z1 (Zc G__law_slots (hr.mono (by decide)) (Z1 (Z0 1 rfl) Z2) psl) (Z1 (Z0 2 rfl) Z2)) (pdue kvs0 mi.td)) ?_ sc__law_until_they_meet.nd
 have sq:=jy h1 h2 mi
 refine Z1V n (fun i=>r31c n one other (.dat (.lst ((dueK n (seqU one other n kvs0 i)).map pD))) .un .un) (fun i=>[muT t 0 x dx sa wa n (seqU one other n kvs0 i),muD 2 ba (seqU one other n kvs0 i)]) (fun i=>!isDueB n (seqU one other n kvs0 i) one other) (fun i=>ok2 _ _) ⟨.inl rfl,.inr rfl,.inl rfl,.inr rfl,.inr rfl,.inr rfl,.inl rfl,.inl rfl,True.intro⟩ rfl (fun i hi=>?_) (fun i hi hb D' hrt hnx=>?_) (fun i hi hb=>?_) PassesOwn.never
 · refine Z7 (QW.t (Yc (zT (da:=pD (one,other)) hr.units (ZC (Z1 (Z0 3 rfl) (Z1 (Z0 4 rfl) Z2))) (Z0 5 rfl) (YQ _) (Y6 _)) fun _=>zz (zT (da:=pD (other,one)) hr.units (ZC (Z1 (Z0 4 rfl) (Z1 (Z0 3 rfl) Z2))) (Z0 5 rfl) (YQ _) (Y6 _)))) ?_
   rw[Yx,Yx]
   unfold isDueB
   cases decide ((one,other)∈dueK n (seqU one other n kvs0 i)) <;> cases decide ((other,one)∈dueK n (seqU one other n kvs0 i)) <;> rfl
 · have hd:isDueB n (seqU one other n kvs0 i) one other=false:=by
    cases e:isDueB n (seqU one other n kvs0 i) one other with
    | false=>rfl
    | true=>rw[e] at hb;cases hb
   obtain⟨m',hl⟩:=sq i
   have hlen:=hl hd
   have hcnt:=m'.td.cnt
   have htwo:=m'.two
   have hin:i<n:=by omega
   obtain⟨hn,mnext,isd,osd⟩:=ya h1 h2 m' hd
   have enx:seqU one other n kvs0 (i+1)=seqU one other n kvs0 i++[((wlU one other n (seqU one other n kvs0 i)).2,(wlU one other n (seqU one other n kvs0 i)).1)]:=by
    show stepU one other n (seqU one other n kvs0 i)=_
    unfold stepU
    rw[hd,if_neg (by decide)]
   rw[enx] at hnx
   have pn:=pdue _ mnext.td
   have hhead:atI ((dueK n (seqU one other n kvs0 i)).map pD) 0=some (pD (headU n (seqU one other n kvs0 i))):=by
    unfold headU
    cases e:dueK n (seqU one other n kvs0 i) with
    | nil=>exact absurd e hn
    | cons a l=>exact atI_nat (j:=0) rfl
   have hwl:wlU one other n (seqU one other n kvs0 i)=if (headU n (seqU one other n kvs0 i)).2=one∨(headU n (seqU one other n kvs0 i)).2=other then ((headU n (seqU one other n kvs0 i)).2,(headU n (seqU one other n kvs0 i)).1) else ((headU n (seqU one other n kvs0 i)).1,(headU n (seqU one other n kvs0 i)).2):=rfl
   have hko:=zM (n:=n) osd
   have pref:pre__law_refused t [treeD t n (seqU one other n kvs0 i),.int one,.int other] (.dat (.bl true)):=⟨n,_,.int one,.int other,h1,h2,rfl,rfl,hd,rfl,rfl⟩
   have toldS:=toldT (K:=K) (t:=t) (j:=0) (x:=x) (dx:=dx) (sa:=sa) (wa:=wa) h1 h2 (show (seqU one other n kvs0 i).length≤100 by omega) isd osd
   generalize wlU one other n (seqU one other n kvs0 i)=wq at *
   generalize headU n (seqU one other n kvs0 i)=q at *
   generalize hdl:dueK n (seqU one other n kvs0 i)=l at *
   generalize seqU one other n kvs0 i=kvs at *
   refine Je (bv:=false) (ok2 kvs kvs) (Z7 (c:=false) (QW.t (ZN (b1:=false) (b2:=false) (Z7 (c:=false) (Zi (Z3c hr.units) (Z2q (da:=.lst (l.map pD)) (db:=.lst []) rfl rfl (Y6 _) (by decide)) (Z0 5 rfl) (Zw (ZA Z2)) (nomark _)) ?_) fun _=>ZP (Z7 (c:=false) (Zm (Zg (Zc G__law_refused (hr.mono (by decide)) (Z1 (Z0 0 rfl) (Z1 (Z0 3 rfl) (Z1 (Z0 4 rfl) Z2))) pref))) rfl))) rfl) (fun z=>nomatch z) (fun _=>Zx ?_)
   · cases l with
     | nil=>exact absurd rfl hn
     | cons z l=>rfl
   refine Z2M 6 7 (d1:=.int q.1) (d2:=.int q.2) (ok2 kvs kvs) (ZL (d:=pD q) (Z0 5 rfl) Z3 hhead) ?_ sc__law_until_they_meet.nd
   refine Z3B (P':=Wd K (r31c n one other (.dat (.lst (l.map pD))) (.dat (.int wq.1)) (.dat (.int wq.2))) [muT t 0 x dx sa wa n kvs,muD 2 ba kvs] [wa,ba] H) (bv:=decide (q.2∈[one,other])) (ok2 kvs kvs) (Z7 (Z27 hr.units (da:=.int q.2) (ds:=[.int one,.int other]) (Z0 7 rfl) (ZC (Z1 (Z0 3 rfl) (Z1 (Z0 4 rfl) Z2))) (by rw[YT];decide) (by unfold dep;rw[show depL [D.int one,D.int other]=0 from rfl];decide)) (zH q.2 [one,other])) (fun hb D2 hrt2 hnx2=>?_) (fun hb D2 hrt2 hnx2=>?_) ?_
   · have hb':=of_decide_eq_true hb
     simp only[List.mem_cons,List.not_mem_nil,or_false] at hb'
     rw[if_pos hb'] at hwl
     refine Z3A 6 7 (d1:=.int q.2) (d2:=.int q.1) (ok2 kvs kvs) (Z1 (Z0 7 rfl) (Z1 (Z0 6 rfl) Z2)) ?_ sc__law_until_they_meet.nd (by decide)
     refine Zx (ZU fun σ Hx w=>hnx2 σ Hx ?_)
     rw[hwl];exact w
   · have hb':=of_decide_eq_false hb
     simp only[List.mem_cons,List.not_mem_nil,or_false] at hb'
     rw[if_neg hb'] at hwl
     refine Zx (ZU fun σ Hx w=>hnx2 σ Hx ?_)
     rw[hwl];exact w
   have nk:=nk31c (n:=n) (one:=one) (other:=other) (yR l) (ZX wq.1) (ZX wq.2) (du:=.dat (.lst (l.map pD))) (wi:=.dat (.int wq.1)) (lo:=.dat (.int wq.2))
   refine zv 0 (m:=muT t 0 x dx sa wa n kvs) (m':=muT t 0 x dx sa wa n (kvs++[(wq.2,wq.1)])) rfl rfl rfl rfl (ok2 kvs kvs) (di2 kvs kvs) nk (.inl List.mem_cons_self) G_Tree_told T.cl_Tree (hr.mono (by decide)) (Z1 (Z0 6 rfl) (Z1 (Z0 7 rfl) Z2)) (atT (by decide) (by decide)) toldS ?_
   refine Z0c 1 (j:=2) (a:=ba) (kvs:=kvs) (kk:=wq.2) (vv:=wq.1) rfl (ok2 _ kvs) (di2 _ kvs) nk (.inl (List.mem_cons_of_mem _ List.mem_cons_self)) (Nat.lt_of_le_of_lt (show kvs.length≤100 by omega) (by decide)) hko (hu_of hr) (Z0 7 rfl) (Z0 6 rfl) ?_
   refine Ym 5 (ok2 _ _) (Zc G__law_due (hr.mono (by decide)) (Z1 (Zc G__law_slots (hr.mono (by decide)) (Z1 (Z0 1 rfl) Z2) psl) (Z1 (Z0 2 rfl) Z2)) pn) ?_ sc__law_until_they_meet.nd
   exact Zx (ZU fun σ Hx w=>hnx σ Hx hin (w.weak (ρ':=r31c n one other (.dat (.lst ((dueK n (kvs++[(wq.2,wq.1)])).map pD))) .un .un) ⟨.inl rfl,.inr rfl,.inl rfl,.inr rfl,.inr rfl,.inr rfl,.inl rfl,.inl rfl,True.intro⟩))
 · have hd:isDueB n (seqU one other n kvs0 i) one other=true:=by
    cases e:isDueB n (seqU one other n kvs0 i) one other with
    | true=>rfl
    | false=>rw[e] at hb;cases hb
   obtain⟨m',hl⟩:=sq i
   have hcnt:=m'.td.cnt
   have hby:byT (seqU one other n kvs0 i++[(other,one)]) other=some one:=by rw[JH m'.o2,if_pos rfl]
   have hout:outB (seqU one other n kvs0 i++[(other,one)]) other=true:=Z0Z hby
   have toldS:=toldT (K:=K) (t:=t) (j:=0) (x:=x) (dx:=dx) (sa:=sa) (wa:=wa) h1 h2 (show (seqU one other n kvs0 i).length≤100 by omega) hd m'.o2
   generalize dueK n (seqU one other n kvs0 i)=l at *
   generalize seqU one other n kvs0 i=kvs at *
   have nk:=nk31c (n:=n) (one:=one) (other:=other) (yR l) (show nkS .un=true from rfl) (show nkS .un=true from rfl) (du:=.dat (.lst (l.map pD)))
   refine zv 0 (m:=muT t 0 x dx sa wa n kvs) (m':=muT t 0 x dx sa wa n (kvs++[(other,one)])) rfl rfl rfl rfl (ok2 kvs kvs) (di2 kvs kvs) nk (.inl List.mem_cons_self) G_Tree_told T.cl_Tree (hr.mono (by decide)) (Z1 (Z0 3 rfl) (Z1 (Z0 4 rfl) Z2)) (atT (by decide) (by decide)) toldS ?_
   have hnot:decide (other∈sortI (leftL n (kvs++[(other,one)])))=false:=by
    refine decide_eq_false fun z=>?_
    have:=(YV _).mem_iff.mp z
    rw[Jz] at this
    have:=(mem_alive.mp this).2
    rw[hout] at this;cases this
   refine Z3z (r:=.dat (.bl true)) (ok2 _ _) (Z5 (Zy (b1:=true) (b2:=true) (Z5 (ZV op_eq Yr (Z5 (Yv G_Tree_beaten_by T.cl_Tree (hr.mono (by decide)) (Z0 0 rfl) (Z1 (Z0 4 rfl) Z2) ⟨n,_,other,rfl,rfl⟩) (by rw[hby];rfl)) (Z0 3 rfl) (nomark _)) (by simp)) fun _=>Yd (Z5 (ZV (y9 hr.units) (yO (da:=.int other) (ds:=(sortI (leftL n (kvs++[(other,one)]))).map D.int) (by rw[YT];decide) (Z1F _) true) (Z0 4 rfl) (Zw (YY G_Tree_left T.cl_Tree (hr.mono (by decide)) (Z0 0 rfl) ⟨n,_,h1,h2,rfl,rfl⟩)) rfl) (by rw[zH,hnot];rfl))) rfl) fun σ Hx v Hy w sm rs=>?_
   rw[Y9 rs]
   exact frt _ _ ⟨rfl,w.fr⟩
end
section
variable {P:Program}{w:World}{K:PySem.W.Frag}{mg:Str→Option Value}{base:Heap}
theorem jn {K:PySem.W.Frag}{t:Adr}{ρ:Ro}{ms:List Mu}{as:List Addr}{Hs H H':Hp}{σ:St}{q1 q2 j1 j2:Nat}{x dx sa wa ba:Addr}{n:Nat}{kvs kvs':Kv2}(ok:MsOk K ms)(dis:Dis ms)(h1:ms[q1]? = some (muT t j1 x dx sa wa n kvs))(h2:ms[q2]? = some (muD j2 ba kvs))(nk:nkR ρ)(hwa:wa∈as∨Hs wa=none)(hba:ba∈as∨Hs ba=none)
 (w:Wd K ρ ms as Hs σ H) (s:SameX [wa,ba] H H') (ta:TreeAt t H' x dx sa wa n kvs') (hb:H' ba=some (.dK (kvV kvs'))):Wd K ρ ((ms.set q1 (muT t j1 x dx sa wa n kvs')).set q2 (muD j2 ba kvs')) as Hs σ H':=by
 have m1:=List.mem_of_getElem? h1
 have m2:=List.mem_of_getElem? h2
 have t0:TreeAt t H x dx sa wa n kvs:=(w.at_ _ m1).2
 have b0:H ba=some (.dK (kvV kvs)):=(w.at_ _ m2).2
 have hdk:∀b∈[wa,ba],∃es,H b=some (.dK es):=fun b hb=>by
  rcases List.mem_cons.mp hb with z | z
  · rw[z];exact⟨_,t0.wi⟩
  · rw[List.mem_singleton.mp z];exact⟨_,b0⟩
 refine w.called s hdk nk (fun b hb=>?_) fun m hm=>?_
 · rcases List.mem_cons.mp hb with z | z
   · rw[z];exact hwa
   · rw[List.mem_singleton.mp z];exact hba
 · rcases YD hm with z | ⟨i,hi,e⟩
   · subst z;exact⟨(w.at_ _ m2).1,hb⟩
   · by_cases z:q1=i
     · subst z
       rw[List.getElem?_set_self (List.getElem?_eq_some_iff.mp h1).1] at e
       cases e
       exact⟨(w.at_ _ m1).1,ta⟩
     · rw[List.getElem?_set_ne z] at e
       have mm:=List.mem_of_getElem? e
       refine⟨(w.at_ m mm).1,(ok m mm).otherX H H' [wa,ba] (w.at_ m mm).2 s fun b hb=>?_⟩
       rcases List.mem_cons.mp hb with z' | z'
       · rw[z'];exact⟨(dis.at h1 e z).1 wa rfl,.inl ⟨_,t0.wi⟩⟩
       · rw[List.mem_singleton.mp z'];exact⟨(dis.at h2 e (Ne.symm hi)).1 ba rfl,.inl ⟨_,b0⟩⟩
def wrong31 (far:Int):List D:=[.int 0,.int 17,.int (18+far),.int (-1-far),.int (10 ^ (50:Int).toNat+far),.bl true,.bl false,.non,.str "1",.str "",.lst [.int 2],.tup [.int 2],.dct [.inl 2] [.int 2]]
theorem jU {far:Int}(h:0≤far):∀d∈wrong31 far,plD d=true∧btw 1 16 d=false:=by
 intro d hd
 have hp:(0:Int)<10 ^ (50:Int).toNat:=by decide +kernel
 have hp2:(100:Int)<10 ^ (50:Int).toNat:=by decide +kernel
 simp only[wrong31,List.mem_cons,List.not_mem_nil,or_false] at hd
 rcases hd with rfl | rfl | rfl | rfl | rfl | rfl | rfl | rfl | rfl | rfl | rfl | rfl | rfl
 · exact⟨rfl,rfl⟩
 · exact⟨rfl,rfl⟩
 · refine⟨rfl,?_⟩
   simp only[btw,Bool.and_eq_false_iff,decide_eq_false_iff_not]
   right;omega
 · refine⟨rfl,?_⟩
   simp only[btw,Bool.and_eq_false_iff,decide_eq_false_iff_not]
   left;omega
 · refine⟨rfl,?_⟩
   generalize (10:Int) ^ (50:Int).toNat=z at *
   simp only[btw,Bool.and_eq_false_iff,decide_eq_false_iff_not]
   right;omega
 all_goals exact⟨rfl,rfl⟩
theorem ye (n:Nat)(kvs:Kv2):dep (.lst (toldL n kvs))≤30:=by
 refine Nat.le_trans (YR (k:=29) fun d hd=>?_) (by decide)
 simp only[toldL,List.mem_cons,List.not_mem_nil,or_false] at hd
 have o0:∀o:Option Int,dep (oD o)=0:=fun o=>by cases o <;> rfl
 rcases hd with rfl | rfl | rfl
 · refine Nat.le_trans (YR (k:=1) fun d hd=>?_) (by decide)
   obtain⟨q,_,rfl⟩:=List.mem_map.mp hd
   exact Nat.le_refl 1
 · refine Nat.le_trans (YR (k:=0) fun d hd=>?_) (by decide)
   obtain⟨q,_,rfl⟩:=List.mem_map.mp hd
   rw[YT];exact Nat.le_refl 0
 · refine Nat.le_trans (YR (k:=0) fun d hd=>?_) (by decide)
   obtain⟨q,_,rfl⟩:=List.mem_map.mp hd
   rw[o0];exact Nat.le_refl 0
theorem Z24 {n:Nat}{kvs:Kv2}:(restN n kvs).Nodup:=List.nodup_range.sublist List.filter_sublist
theorem Z1a {n:Nat}(h1:1≤n)(h2:n≤16){kvs:Kv2}{z:Int}(h:z∈(restN n kvs).map fun (i:Nat)=>(i:Int)):z∈plT (btT n)∧outB kvs z=false:=by
 obtain⟨i,hi,rfl⟩:=List.mem_map.mp h
 have:=List.mem_filter.mp hi
 exact⟨(Ye n (List.mem_range.mpr (by omega)) h1).2.2.2.1 i this.1,by simpa using this.2⟩
theorem Z3n {l:List Nat}(h:l.Nodup):(l.map fun (i:Nat)=>(i:Int)).Nodup:=List.Pairwise.map _ (fun a b h z=>h (by omega)) h
theorem je:∀ {l:List Int} {i:Nat} {z:Int},l.Nodup→l[i]? = some z→z∉l.eraseIdx i
 | [],i,z,_,h=>by simp at h
 | a::l,0,z,nd,h=>by
  have:a=z:=by simpa using h
  subst this
  exact(List.nodup_cons.mp nd).1
 | a::l,i+1,z,nd,h=>by
  rw[List.nodup_cons] at nd
  have h':l[i]? = some z:=by simpa using h
  intro m
  have m':z∈a::l.eraseIdx i:=m
  rcases List.mem_cons.mp m' with e | e
  · exact nd.1 (e▸List.mem_of_getElem? h')
  · exact je nd.2 h' e
theorem jm {l:List Int}(nd:l.Nodup){i j:Nat}(hi:i<l.length)(hj:j<(l.eraseIdx i).length):l.getD i 0∈l∧(l.eraseIdx i).getD j 0∈l∧l.getD i 0≠(l.eraseIdx i).getD j 0:=by
 have e1:l.getD i 0=l[i]:=by simp[List.getD,List.getElem?_eq_getElem hi]
 have e2:(l.eraseIdx i).getD j 0=(l.eraseIdx i)[j]:=by simp[List.getD,List.getElem?_eq_getElem hj]
 have m2:(l.eraseIdx i)[j]∈l.eraseIdx i:=List.getElem_mem hj
 rw[e1,e2]
 refine⟨List.getElem_mem hi,List.mem_of_mem_eraseIdx m2,fun z=>?_⟩
 rw[←z] at m2
 exact je nd (List.getElem?_eq_getElem hi) m2
abbrev rl31 (n:Nat)(be fa wr k wi lo:Slot):Ro:=[.un,.dat (.int n),.un,.un,be,fa,wr,k,wi,lo,.un,.un]
abbrev pre_law:=lawPre
theorem ok_law (T:Txt K mg t){f:Addr}{fd:FuncData}(F:Fun K "law" "law" s_law f fd)(G_Tree_init:IniR P w K mg base 6 t.Tree ["self", "n"] (preJ_Tree t))(GX_Tree_init:IniX P w K mg base 6 t.Tree ["self", "n"] (fun _ _ _=>False) (preIX_Tree t))(G__law_alike_due:Fn P w K mg base 2 "_law_alike_due" ["_law_winner", "_law_loser", "_law_due_here"] pre__law_alike_due)(G__law_begun:FnR P w K mg base 14 "_law_begun" ["_law_script", "_law_tree", "_law_n", "_law_beaten"] (preF__law_begun K t))(G__law_drawn:Fn P w K mg base 1 "_law_drawn" ["_law_script", "_law_k", "_law_size"] pre__law_drawn)(G__law_due:Fn P w K mg base 7 "_law_due" ["_law_slots_here", "_law_beaten"] pre__law_due)(G__law_no_tree:Fn P w K mg base 9 "_law_no_tree" ["_law_n"] pre__law_no_tree)(G__law_refused:Fn P w K mg base 12 "_law_refused" ["_law_tree", "_law_winner", "_law_loser"] (pre__law_refused t))(G__law_slots:Fn P w K mg base 1 "_law_slots" ["_law_n"] pre__law_slots)(G__law_thing:Fn P w K mg base 2 "_law_thing" ["_law_script", "_law_k", "_law_n"] pre__law_thing)(G__law_told:Fn P w K mg base 10 "_law_told" ["_law_tree", "_law_n"] (pre__law_told t))(G__law_until_they_meet:FnR P w K mg base 15 "_law_until_they_meet" ["_law_tree", "_law_n", "_law_beaten", "_law_one", "_law_other"] (preF__law_until_they_meet K t)):FnOk P w K mg base CX0 20 f fd ["_law_script"] (dsp K pre_law):=by
 refine Z3p F sc_law (by rintro _ _ ⟨ns,_,rfl,rfl⟩;rfl) ?_
 rintro _ cdv A outer s H E rfl hr _ _ ⟨ns,hns,rfl,rfl⟩
 refine Z4 (Zh 1 (Z6 op_add Zo Z3 (Zc G__law_drawn (hr.mono (by decide)) (Z1 (Z0 0 rfl) (Z1 Z3 (Z1 Z3 Z2))) ⟨ns,0,15,by decide,by decide,rfl,rfl⟩)) sc_law.nd) ?_
 have hd:=ZJ (ns:=ns) (k:=0) (m:=15) (by decide)
 obtain⟨n,hn,n1,n2⟩:∃n:Nat,2+drawn ns 0 15=(n:Int)∧1≤n∧n≤16:=⟨(2+drawn ns 0 15).toNat,by omega,by omega,by omega⟩
 rw[hn]
 refine Z3F (ρ':=[.dat (.lst (ns.map D.int)),.dat (.int n),.un,.un,.un,.un,.un,.un,.un,.un,.un,.un]) ⟨.inr rfl,.inr rfl,.inl rfl,.inl rfl,.inl rfl,.inl rfl,.inl rfl,.inl rfl,.inl rfl,.inl rfl,.inl rfl,.inl rfl,True.intro⟩ ?_
 refine Z32 fun G0 H0 Gg De fin=>?_
 refine Z0l 0 rfl rfl fun Hs v0 bs i0=>?_
 have okA:MsOk K [muA 0 v0 (.lst (ns.map D.int)) Hs]:=.cons (yT i0) .nil
 refine Z3K 2 (fun mu=>∃x dx sa wa,mu=muT t 2 x dx sa wa n []) okA G_Tree_init T.x_Tree (hr.mono (by decide)) (Z1 (Z0 1 rfl) Z2) (mkT 2 n1 n2) (List.pairwise_singleton _ _) ?_ sc_law.nd rfl
 rintro _ ⟨x,dx,sa,wa,rfl⟩ hwa dis1
 have hwa:=hwa wa rfl
 have ok1:MsOk K [muT t 2 x dx sa wa n [],muA 0 v0 (.lst (ns.map D.int)) Hs]:=.cons Jr okA
 refine Z2O 3 ok1 dis1 ?_ sc_law.nd rfl
 intro bb hbb dis2
 have ok3:∀a:Kv2,MsOk K [muD 3 bb a,muT t 2 x dx sa wa n a,muA 0 v0 (.lst (ns.map D.int)) Hs]:=fun a=>.cons zm (.cons Jr okA)
 have di3:∀a:Kv2,Dis [muD 3 bb a,muT t 2 x dx sa wa n a,muA 0 v0 (.lst (ns.map D.int)) Hs]:=fun a=>Dis.set (q:=0) (m':=muD 3 bb a) (Dis.set (q:=1) (m':=muT t 2 x dx sa wa n a) dis2 rfl rfl rfl) rfl rfl rfl
 refine Z11 (ρ':=rl31 n .un .un .un .un .un .un) ⟨.inl rfl,.inr rfl,.inl rfl,.inl rfl,.inl rfl,.inl rfl,.inl rfl,.inl rfl,.inl rfl,.inl rfl,.inl rfl,.inl rfl,True.intro⟩ ?_
 have neA:wa≠bb:=fun z=>(dis2.at (i:=0) (j:=1) rfl rfl (by decide)).1 bb rfl (.inr (.inr z.symm))
 have nk0:nkR (rl31 n .un .un .un .un .un .un):=⟨rfl,ZX (n:Int),rfl,rfl,rfl,rfl,rfl,rfl,rfl,rfl,rfl,rfl,trivial⟩
 have td:=zy (ns:=ns) n1 n2 (drawn ns 1 (n+1)).toNat
 have hpb:∀H1,Is K H1 (.lst (ns.map D.int)) v0→TreeAt t H1 x dx sa wa n []→H1 bb=some (.dK (kvV []))→preF__law_begun K t [v0,.ref x,.int n,.ref bb] H1 (fun v H'=>v=.non∧TreeAt t H' x dx sa wa n (seqB ns n (drawn ns 1 (n+1)).toNat)∧H' bb=some (.dK (kvV (seqB ns n (drawn ns 1 (n+1)).toNat)))∧SameX [wa,bb] H1 H'):=fun H1 i1 ta hb=>⟨ns,v0,x,dx,sa,wa,bb,n,n1,n2,rfl,i1,ta,hb,neA,rfl⟩
 generalize seqB ns n (drawn ns 1 (n+1)).toNat=kvs at *
 refine Z3C (P':=Wd K (rl31 n .un .un .un .un .un .un) [muD 3 bb kvs,muT t 2 x dx sa wa n kvs,muA 0 v0 (.lst (ns.map D.int)) Hs] [] Hs) G__law_begun (hr.mono (by decide)) (ok3 []) (JX 2 rfl (JX 1 rfl (JY (ok3 []) (Z0 1 rfl) (JX 0 rfl Z0a)))) ?_ ?_
 · rintro σ H1 vs w ⟨_,rfl,_,rfl,v1,_,rfl,i1,_,rfl,rfl⟩
   rw[Z8 i1]
   have tt:TreeAt t H1 x dx sa wa n []:=(w.at_ (muT t 2 x dx sa wa n []) (List.mem_of_getElem? (i:=1) rfl)).2
   have bb':H1 bb=some (.dK (kvV [])):=(w.at_ (muD 3 bb []) (List.mem_of_getElem? (i:=0) rfl)).2
   have is0:Is K H1 (.lst (ns.map D.int)) v0:=(yT i0 (j:=0)).is H1 (w.at_ (muA 0 v0 (.lst (ns.map D.int)) Hs) (List.mem_of_getElem? (i:=2) rfl)).2
   refine⟨_,hpb H1 is0 tt bb',fun v H' ⟨_,ta2,hb2,s2⟩=>?_⟩
   exact jn (q1:=1) (q2:=0) (ok3 []) (di3 []) rfl rfl nk0 hwa hbb w s2 ta2 hb2
 refine Ym 4 (ok3 kvs) (Zc G__law_told (hr.mono (by decide)) (Z1 (Z0 2 rfl) (Z1 (Z0 1 rfl) Z2)) ⟨n,kvs,n1,n2,rfl,rfl⟩) ?_ sc_law.nd
 refine Ym 5 (ok3 kvs) (Zc G__law_drawn (hr.mono (by decide)) (Z1 (Z0 0 rfl) (Z1 (r:=.dat (.int ((202:Nat):Int))) (Z5 Z3 rfl) (Z1 (r:=.dat (.int ((999983:Nat):Int))) (Z5 Z3 rfl) Z2))) ⟨ns,202,999983,by decide,by decide,rfl,rfl⟩) ?_ sc_law.nd
 have hfar:=(ZJ (ns:=ns) (k:=202) (m:=999983) (by decide)).1
 generalize drawn ns 202 999983=far at *
 refine Ym 6 (r:=.own (wrong31 far)) (ok3 kvs) (ZA (Z1 Z3 (Z1 Z3 (Z1 (Z6 op_add Zo Z3 (Z0 5 rfl)) (Z1 (Z6 op_sub Zo (YL Z3) (Z0 5 rfl)) (Z1 (Z6 op_add Zo (Z0s Z3 Z3) (Z0 5 rfl)) (Z1 Yn (Z1 Yn (Z1 Zt (Z1 Jj (Z1 Jj (Z1 (Zw (ZA (Z1 Z3 Z2))) (Z1 (ZC (Z1 Z3 Z2)) (Z1 yJ Z2)))))))))))))) ?_ sc_law.nd
 refine Z11 (ρ':=rl31 n (.dat (.lst (toldL n kvs))) .un (.dat (.lst (wrong31 far))) .un .un .un) ⟨.inl rfl,.inr rfl,.inl rfl,.inl rfl,.inr rfl,.inl rfl,.inr rfl,.inl rfl,.inl rfl,.inl rfl,.inl rfl,.inl rfl,True.intro⟩ ?_
 refine yu 7 (n:=3) (fun _=>rl31 n (.dat (.lst (toldL n kvs))) .un (.dat (.lst (wrong31 far))) .un .un .un) (fun _=>[muD 3 bb kvs,muT t 2 x dx sa wa n kvs,muA 0 v0 (.lst (ns.map D.int)) Hs]) (fun _ _=>ok3 kvs) Z3 (by decide) ⟨.inl rfl,.inr rfl,.inl rfl,.inl rfl,.inr rfl,.inl rfl,.inr rfl,.inl rfl,.inl rfl,.inl rfl,.inl rfl,.inl rfl,True.intro⟩ rfl (fun i hi D' hrt hnx=>?_) ?_ T.b_range sc_law.nd PassesOwn.never (fun _ _=>rfl)
 · have h13:=ZJ (ns:=ns) (k:=203+i) (m:=13) (by decide)
   have hat:=Z1Q (l:=wrong31 far) h13.1 (by show _<(13:Int);exact h13.2)
   have hwo:plD ((wrong31 far).getD (drawn ns (203+i) 13).toNat .non)=true∧btw 1 16 ((wrong31 far).getD (drawn ns (203+i) 13).toNat .non)=false:=by
    have hk:(drawn ns (203+i) 13).toNat<(wrong31 far).length:=by show _<13;omega
    have:(wrong31 far).getD (drawn ns (203+i) 13).toNat .non∈wrong31 far:=by
     simp only[List.getD,List.getElem?_eq_getElem hk,Option.getD_some]
     exact List.getElem_mem hk
    exact jU hfar _ this
   refine Je (bv:=false) (ok3 kvs) (Z7 (c:=false) (Zm (Zg (Zc G__law_no_tree (hr.mono (by decide)) (Z1 (ZL (i:=drawn ns (203+i) 13) (Z0 6 rfl) (Zc G__law_drawn (hr.mono (by decide)) (Z1 (Z0 0 rfl) (Z1 (r:=.dat (.int ((203+i:Nat):Int))) (Z5 (Z6 op_add Zo Z3 (Z0 7 rfl)) (by congr 2)) (Z1 (r:=.dat (.int ((13:Nat):Int))) (Z5 Z3 rfl) Z2))) ⟨ns,203+i,13,by omega,by decide,rfl,rfl⟩) hat) Z2) ⟨_,hwo.1,hwo.2,rfl,rfl⟩))) rfl) (fun z=>nomatch z) (fun _=>Zx (Zx (ZU fun σ Hx w=>hnx σ Hx ?_)))
   exact w.weak ⟨.inl rfl,.inr rfl,.inl rfl,.inl rfl,.inr rfl,.inl rfl,.inr rfl,.inl rfl,.inl rfl,.inl rfl,.inl rfl,.inl rfl,True.intro⟩
 refine yu 7 (n:=8) (fun _=>rl31 n (.dat (.lst (toldL n kvs))) .un .un .un .un .un) (fun _=>[muD 3 bb kvs,muT t 2 x dx sa wa n kvs,muA 0 v0 (.lst (ns.map D.int)) Hs]) (fun _ _=>ok3 kvs) Z3 (by decide) ⟨.inl rfl,.inr rfl,.inl rfl,.inl rfl,.inr rfl,.inl rfl,.inl rfl,.inl rfl,.inl rfl,.inl rfl,.inl rfl,.inl rfl,True.intro⟩ rfl (fun i hi D' hrt hnx=>?_) ?_ T.b_range sc_law.nd PassesOwn.never (fun _ _=>rfl)
 · refine Ym 8 (ok3 kvs) (Zc G__law_thing (hr.mono (by decide)) (Z1 (Z0 0 rfl) (Z1 (r:=.dat (.int ((100+10*i:Nat):Int))) (Z5 (Z6 op_add Zo Z3 (Z6 op_mul (ZT (.inl ⟨by decide,by decide⟩)) Z3 (Z0 7 rfl))) (by congr 2)) (Z1 (Z0 1 rfl) Z2))) ⟨ns,100+10*i,n,by omega,n1,n2,rfl,rfl⟩) ?_ sc_law.nd
   refine Ym 9 (ok3 kvs) (Zc G__law_thing (hr.mono (by decide)) (Z1 (Z0 0 rfl) (Z1 (r:=.dat (.int ((105+10*i:Nat):Int))) (Z5 (Z6 op_add Zo Z3 (Z6 op_mul (ZT (.inl ⟨by decide,by decide⟩)) Z3 (Z0 7 rfl))) (by congr 2)) (Z1 (Z0 1 rfl) Z2))) ⟨ns,105+10*i,n,by omega,n1,n2,rfl,rfl⟩) ?_ sc_law.nd
   have p1:=z9 ns (100+10*i) n
   have p2:=z9 ns (105+10*i) n
   generalize thing31 ns (100+10*i) n=d1 at *
   generalize thing31 ns (105+10*i) n=d2 at *
   refine Je (bv:=!isDueD n kvs d1 d2) (ok3 kvs) (Zm (Zg (Zc G__law_alike_due (hr.mono (by decide)) (Z1 (Z0 8 rfl) (Z1 (Z0 9 rfl) (Z1 (Zc G__law_due (hr.mono (by decide)) (Z1 (Zc G__law_slots (hr.mono (by decide)) (Z1 (Z0 1 rfl) Z2) ⟨n,n1,n2,rfl,rfl⟩) (Z1 (Z0 3 rfl) Z2)) ⟨n,kvs,n1,n2,td.ov,rfl,rfl⟩) Z2))) ⟨n,kvs,d1,d2,p1,p2,rfl,rfl⟩))) (fun hb=>?_) (fun hb=>?_)
   · have hdd:isDueD n kvs d1 d2=false:=by
      cases e:isDueD n kvs d1 d2 with
      | false=>rfl
      | true=>rw[e] at hb;cases hb
     refine Je (bv:=false) (ok3 kvs) (Z7 (c:=false) (QW.t (ZN (b1:=false) (b2:=false) (Z7 (c:=false) (Zm (Zg (Zc G__law_refused (hr.mono (by decide)) (Z1 (Z0 2 rfl) (Z1 (Z0 8 rfl) (Z1 (Z0 9 rfl) Z2))) ⟨n,kvs,d1,d2,n1,n2,p1,p2,hdd,rfl,rfl⟩))) rfl) fun _=>ZP (Z7 (c:=false) (Zi (yN hr.units) (zD (da:=.lst (toldL n kvs)) (db:=.lst (toldL n kvs)) rfl rfl (ye _ _) (ye _ _)) (Zw (Zc G__law_told (hr.mono (by decide)) (Z1 (Z0 2 rfl) (Z1 (Z0 1 rfl) Z2)) ⟨n,kvs,n1,n2,rfl,rfl⟩)) (Z0 4 rfl) (nomark _)) (by rw[Yy];rfl)))) rfl) (fun z=>nomatch z) (fun _=>Zx (Zx (Zx (ZU fun σ Hx w=>hnx σ Hx ?_))))
     exact w.weak ⟨.inl rfl,.inr rfl,.inl rfl,.inl rfl,.inr rfl,.inl rfl,.inl rfl,.inl rfl,.inl rfl,.inl rfl,.inl rfl,.inl rfl,True.intro⟩
   · refine Zx (Zx (ZU fun σ Hx w=>hnx σ Hx ?_))
     exact w.weak ⟨.inl rfl,.inr rfl,.inl rfl,.inl rfl,.inr rfl,.inl rfl,.inl rfl,.inl rfl,.inl rfl,.inl rfl,.inl rfl,.inl rfl,True.intro⟩
 refine Z11 (ρ':=rl31 n .un .un .un .un .un .un) ⟨.inl rfl,.inr rfl,.inl rfl,.inl rfl,.inl rfl,.inl rfl,.inl rfl,.inl rfl,.inl rfl,.inl rfl,.inl rfl,.inl rfl,True.intro⟩ ?_
 have nin:∀z:Int,(!(valG ((keysT kvs).zip (valsT kvs)) (.inl z)).isSome) = !outB kvs z:=fun z=>by rw[valT,Option.isSome_map,Yz]
 refine Z1W 10 (N:=["_law_player", "_law_beaten"]) (n:=n) (F:=fun i=>D.int (i:Nat)) (pp:=fun i=>!outB kvs (i:Nat)) [none,some 3] (ok3 kvs) (di3 kvs) (ZZ (out':=defScope s_law) rfl ⟨rfl,by decide +kernel,by decide +kernel,by decide +kernel,by decide +kernel,rfl⟩) (ZI (N0:=["_law_script", "_law_n", "_law_tree", "_law_beaten", "_law_before", "_law_far", "_law_wrong", "_law_k", "_law_winner", "_law_loser", "_law_left", "_law_one"]) rfl (ZH (by decide +kernel))) (Z0 1 rfl) (by omega) (fun C fp s H=>pg_name (i:=0) (show List.Nodup (["_law_player", "_law_beaten"]:List Str) by decide +kernel) rfl (Or.inl rfl)) (fun p hp C fp s H=>zA (Z7 (Ji (k:=.inl (p:Nat)) (hu_of hr) (Z0 0 rfl) (Z0 1 rfl)) (nin _))) (fun p hp _ C fp s H=>Z0 0 rfl) (fun ad had dis4=>?_) (Nat.le_trans n2 (by decide)) T.b_range sc_law.nd rfl
 have er:((List.range n).filter fun i=>!outB kvs (i:Nat)).map (fun i=>D.int (i:Nat))=((restN n kvs).map fun (i:Nat)=>(i:Int)).map D.int:=by
  show (restN n kvs).map _=_
  rw[List.map_map];rfl
 rw[er] at dis4 ⊢
 have hrl:=Z1b n1 n2 kvs
 have hcnt:=td.cnt
 have hpos:=td.pos
 have rnd:=Z3n (Z24 (n:=n) (kvs:=kvs))
 have rmem:∀z∈(restN n kvs).map fun (i:Nat)=>(i:Int),z∈plT (btT n)∧outB kvs z=false:=fun z hz=>Z1a n1 n2 hz
 have rlen:((restN n kvs).map fun (i:Nat)=>(i:Int)).length=(restN n kvs).length:=List.length_map _
 generalize (restN n kvs).map (fun (i:Nat)=>(i:Int))=rs at *
 have flrs:∀l:List Int,flatDs (l.map D.int)=true:=fun l=>by
  induction l with
  | nil=>unfold flatDs;rfl
  | cons a l ih=>rw[List.map_cons];unfold flatDs;rw[ih];rfl
 have ok4:∀l:List Int,MsOk K [muL K 10 ad (l.map D.int),muD 3 bb kvs,muT t 2 x dx sa wa n kvs,muA 0 v0 (.lst (ns.map D.int)) Hs]:=fun l=>.cons (Z3j (flrs l)) (ok3 kvs)
 by_cases hshort:rs.length<2
 · match hm:rs,hshort with
   | [],_=>simp at rlen;rw[←rlen] at hrl;omega
   | [z],_ =>
    have hzz:isDueD n kvs (.int z) (.int z)=false:=by
     show isDueB n kvs z z=false
     unfold isDueB
     have:(z,z)∉dueK n kvs:=fun hq=>Yg (Ye n (List.mem_range.mpr (by omega)) n1).1 ((jg n1 n2).mp hq) rfl
     simp[this]
    have hat:atI ([z].map D.int) 0=some (.int z):=atI_nat (j:=0) rfl
    refine Je (bv:=true) (ok4 [z]) (Z7 (c:=true) (Zi op_lt Y3 (Zj call_len_seq (Zu rfl) T.b_len Zv (Z1 (Z0 10 rfl) Z2)) Z3 (nomark _)) rfl) (fun _=>?_) (fun z=>nomatch z)
    refine Z1X (E:=noX) (ok4 [z]) bs fin ?_
    exact Zd (Zc G__law_refused (hr.mono (by decide)) (Z1 (Z0 2 rfl) (Z1 (ZL (d:=.int z) (Z0 10 rfl) Z3 hat) (Z1 (ZL (d:=.int z) (Z0 10 rfl) Z3 hat) Z2))) ⟨n,kvs,.int z,.int z,n1,n2,rfl,rfl,hzz,rfl,rfl⟩) rfl
 · refine Je (bv:=false) (ok4 rs) (Z7 (c:=false) (Zi op_lt Y3 (Zj call_len_seq (Zu rfl) T.b_len Zv (Z1 (Z0 10 rfl) Z2)) Z3 (nomark _)) (by rw[List.length_map];exact decide_eq_false (by omega))) (fun z=>nomatch z) (fun _=>Zx ?_)
   have hd1:=ZJ (ns:=ns) (k:=200) (m:=rs.length) (by omega)
   refine Z2N 0 11 (i:=drawn ns 200 rs.length) rfl (ok4 rs) dis4 rfl had (Zc G__law_drawn (hr.mono (by decide)) (Z1 (Z0 0 rfl) (Z1 (r:=.dat (.int ((200:Nat):Int))) (Z5 Z3 rfl) (Z1 (r:=.dat (.int (rs.length:Nat))) (Z5 (Zj call_len_seq (Zu rfl) T.b_len Zv (Z1 (Z0 10 rfl) Z2)) (by rw[List.length_map])) Z2))) ⟨ns,200,rs.length,by decide,by omega,rfl,rfl⟩) hd1.1 hd1.2 (by omega) ?_ sc_law.nd
   have hi1:(drawn ns 200 rs.length).toNat<rs.length:=by omega
   have hel:(rs.eraseIdx (drawn ns 200 rs.length).toNat).length=rs.length-1:=by rw[List.length_eraseIdx,if_pos hi1]
   have hd2:=ZJ (ns:=ns) (k:=201) (m:=(rs.eraseIdx (drawn ns 200 rs.length).toNat).length) (by omega)
   have tw:=jm rnd hi1 (j:=(drawn ns 201 (rs.eraseIdx (drawn ns 200 rs.length).toNat).length).toNat) (by omega)
   have hat:=Z0f (t:=rs.eraseIdx (drawn ns 200 rs.length).toNat) hd2.1 hd2.2
   have hpd:pre__law_drawn [.lst (ns.map D.int),.int ((201:Nat):Int),.int ((rs.eraseIdx (drawn ns 200 rs.length).toNat).length:Nat)] (.dat (.int (drawn ns 201 (rs.eraseIdx (drawn ns 200 rs.length).toNat).length))):=⟨ns,201,_,by decide,by omega,rfl,rfl⟩
   generalize drawn ns 201 (rs.eraseIdx (drawn ns 200 rs.length).toNat).length=j2 at *
   generalize rs.getD (drawn ns 200 rs.length).toNat 0=one at *
   generalize rs.eraseIdx (drawn ns 200 rs.length).toNat=rs2 at *
   generalize rs2.getD j2.toNat 0=other at *
   have mi:MeetI n kvs one other:=⟨td,(rmem _ tw.1).2,(rmem _ tw.2.1).2,(rmem _ tw.1).1,(rmem _ tw.2.1).1,tw.2.2⟩
   refine Z0b G__law_until_they_meet (hr.mono (by decide)) (ok4 rs2) (JX 2 rfl (JY (ok4 rs2) (Z0 1 rfl) (JX 1 rfl (JY (ok4 rs2) (Z0 11 rfl) (JY (d:=.int other) (ok4 rs2) (ZL (i:=j2) (Z0 10 rfl) (Zc G__law_drawn (hr.mono (by decide)) (Z1 (Z0 0 rfl) (Z1 (r:=.dat (.int ((201:Nat):Int))) (Z5 Z3 rfl) (Z1 (r:=.dat (.int (rs2.length:Nat))) (Z5 (Zj call_len_seq (Zu rfl) T.b_len Zv (Z1 (Z0 10 rfl) Z2)) (by rw[List.length_map])) Z2))) hpd) hat) Z0a))))) ?_
   rintro σ H1 vs w ⟨_,rfl,v1,_,rfl,i1,_,rfl,v2,_,rfl,i2,v3,_,rfl,i3,rfl⟩
   rw[Z8 i1,Z8 i2,Z8 i3]
   have tt:TreeAt t H1 x dx sa wa n kvs:=(w.at_ (muT t 2 x dx sa wa n kvs) (List.mem_of_getElem? (i:=2) rfl)).2
   have bb':H1 bb=some (.dK (kvV kvs)):=(w.at_ (muD 3 bb kvs) (List.mem_of_getElem? (i:=1) rfl)).2
   refine⟨_,⟨x,dx,sa,wa,bb,n,kvs,one,other,n1,n2,mi,rfl,tt,bb',neA,rfl⟩,fun v H' ⟨ev,s2⟩=>?_⟩
   rw[ev]
   refine bs.end_ fin fun b o hb e=>s2 b o (fun z=>?_) (w.fr b o hb e)
   rcases List.mem_cons.mp z with z | z
   · rcases hwa with q | q
     · cases q
     · rw[z,q] at e;cases e
   · rw[List.mem_singleton] at z
     rcases hbb with q | q
     · cases q
     · rw[z,q] at e;cases e
end
section
variable {P:Program}{w:World}{K:PySem.W.Frag}{mg:Str→Option Value}{base:Heap}
theorem txt_mk {K:PySem.W.Frag}{h:Heap}{mg:Str→Option Value}(X:K.In h)(G:h.Ns mainGlobals mg)
 {f0:Addr} {od0 an0:Option Addr} {sl0:Array (Option Value)} {oc0 kV0 dc0 pm0 cd0 ct0:Value} (a0:PySem.W.nsIn K mainGlobals "_wall" = some (some (.ref f0))) (l0:K.lookup f0=some ⟨oc0,od0,.func (PySem.W.fnOf "_wall" "_wall" (defArgs s__wall) (defBody s__wall) (defScope s__wall) .none kV0 dc0 pm0 an0 cd0 ct0),sl0⟩) (c0:PySem.W.codeIn K cd0 "_wall" = true) (k0:PySem.W.keepIn K (.ref f0)=true)
 {f1:Addr} {od1 an1:Option Addr} {sl1:Array (Option Value)} {oc1 kV1 dc1 pm1 cd1 ct1:Value} (a1:PySem.W.nsIn K mainGlobals "is_whole" = some (some (.ref f1))) (l1:K.lookup f1=some ⟨oc1,od1,.func (PySem.W.fnOf "is_whole" "is_whole" (defArgs s_is_whole) (defBody s_is_whole) (defScope s_is_whole) .none kV1 dc1 pm1 an1 cd1 ct1),sl1⟩) (c1:PySem.W.codeIn K cd1 "is_whole" = true) (k1:PySem.W.keepIn K (.ref f1)=true)
 {f2:Addr} {od2 an2:Option Addr} {sl2:Array (Option Value)} {oc2 kV2 dc2 pm2 cd2 ct2:Value} (a2:PySem.W.nsIn K mainGlobals "is_between" = some (some (.ref f2))) (l2:K.lookup f2=some ⟨oc2,od2,.func (PySem.W.fnOf "is_between" "is_between" (defArgs s_is_between) (defBody s_is_between) (defScope s_is_between) .none kV2 dc2 pm2 an2 cd2 ct2),sl2⟩) (c2:PySem.W.codeIn K cd2 "is_between" = true) (k2:PySem.W.keepIn K (.ref f2)=true)
 {f3:Addr} {od3 an3:Option Addr} {sl3:Array (Option Value)} {oc3 kV3 dc3 pm3 cd3 ct3:Value} (a3:PySem.W.nsIn K mainGlobals "checked_size" = some (some (.ref f3))) (l3:K.lookup f3=some ⟨oc3,od3,.func (PySem.W.fnOf "checked_size" "checked_size" (defArgs s_checked_size) (defBody s_checked_size) (defScope s_checked_size) .none kV3 dc3 pm3 an3 cd3 ct3),sl3⟩) (c3:PySem.W.codeIn K cd3 "checked_size" = true) (k3:PySem.W.keepIn K (.ref f3)=true)
 {f4:Addr} {od4 an4:Option Addr} {sl4:Array (Option Value)} {oc4 kV4 dc4 pm4 cd4 ct4:Value} (a4:PySem.W.nsIn K mainGlobals "doubled" = some (some (.ref f4))) (l4:K.lookup f4=some ⟨oc4,od4,.func (PySem.W.fnOf "doubled" "doubled" (defArgs s_doubled) (defBody s_doubled) (defScope s_doubled) .none kV4 dc4 pm4 an4 cd4 ct4),sl4⟩) (c4:PySem.W.codeIn K cd4 "doubled" = true) (k4:PySem.W.keepIn K (.ref f4)=true)
 {f5:Addr} {od5 an5:Option Addr} {sl5:Array (Option Value)} {oc5 kV5 dc5 pm5 cd5 ct5:Value} (a5:PySem.W.nsIn K mainGlobals "slots_of" = some (some (.ref f5))) (l5:K.lookup f5=some ⟨oc5,od5,.func (PySem.W.fnOf "slots_of" "slots_of" (defArgs s_slots_of) (defBody s_slots_of) (defScope s_slots_of) .none kV5 dc5 pm5 an5 cd5 ct5),sl5⟩) (c5:PySem.W.codeIn K cd5 "slots_of" = true) (k5:PySem.W.keepIn K (.ref f5)=true)
 {f6:Addr} {od6 an6:Option Addr} {sl6:Array (Option Value)} {oc6 kV6 dc6 pm6 cd6 ct6:Value} (a6:PySem.W.nsIn K mainGlobals "neighbours" = some (some (.ref f6))) (l6:K.lookup f6=some ⟨oc6,od6,.func (PySem.W.fnOf "neighbours" "neighbours" (defArgs s_neighbours) (defBody s_neighbours) (defScope s_neighbours) .none kV6 dc6 pm6 an6 cd6 ct6),sl6⟩) (c6:PySem.W.codeIn K cd6 "neighbours" = true) (k6:PySem.W.keepIn K (.ref f6)=true)
 {f7:Addr} {od7 an7:Option Addr} {sl7:Array (Option Value)} {oc7 kV7 dc7 pm7 cd7 ct7:Value} (a7:PySem.W.nsIn K mainGlobals "contests_between" = some (some (.ref f7))) (l7:K.lookup f7=some ⟨oc7,od7,.func (PySem.W.fnOf "contests_between" "contests_between" (defArgs s_contests_between) (defBody s_contests_between) (defScope s_contests_between) .none kV7 dc7 pm7 an7 cd7 ct7),sl7⟩) (c7:PySem.W.codeIn K cd7 "contests_between" = true) (k7:PySem.W.keepIn K (.ref f7)=true)
 {f8:Addr} {od8 an8:Option Addr} {sl8:Array (Option Value)} {oc8 kV8 dc8 pm8 cd8 ct8:Value} (a8:PySem.W.nsIn K mainGlobals "joined" = some (some (.ref f8))) (l8:K.lookup f8=some ⟨oc8,od8,.func (PySem.W.fnOf "joined" "joined" (defArgs s_joined) (defBody s_joined) (defScope s_joined) .none kV8 dc8 pm8 an8 cd8 ct8),sl8⟩) (c8:PySem.W.codeIn K cd8 "joined" = true) (k8:PySem.W.keepIn K (.ref f8)=true)
 {f9:Addr} {od9 an9:Option Addr} {sl9:Array (Option Value)} {oc9 kV9 dc9 pm9 cd9 ct9:Value} (a9:PySem.W.nsIn K mainGlobals "_law_drawn" = some (some (.ref f9))) (l9:K.lookup f9=some ⟨oc9,od9,.func (PySem.W.fnOf "_law_drawn" "_law_drawn" (defArgs s__law_drawn) (defBody s__law_drawn) (defScope s__law_drawn) .none kV9 dc9 pm9 an9 cd9 ct9),sl9⟩) (c9:PySem.W.codeIn K cd9 "_law_drawn" = true) (k9:PySem.W.keepIn K (.ref f9)=true)
 {f10:Addr} {od10 an10:Option Addr} {sl10:Array (Option Value)} {oc10 kV10 dc10 pm10 cd10 ct10:Value} (a10:PySem.W.nsIn K mainGlobals "_law_whole" = some (some (.ref f10))) (l10:K.lookup f10=some ⟨oc10,od10,.func (PySem.W.fnOf "_law_whole" "_law_whole" (defArgs s__law_whole) (defBody s__law_whole) (defScope s__law_whole) .none kV10 dc10 pm10 an10 cd10 ct10),sl10⟩) (c10:PySem.W.codeIn K cd10 "_law_whole" = true) (k10:PySem.W.keepIn K (.ref f10)=true)
 {f11:Addr} {od11 an11:Option Addr} {sl11:Array (Option Value)} {oc11 kV11 dc11 pm11 cd11 ct11:Value} (a11:PySem.W.nsIn K mainGlobals "_law_slots" = some (some (.ref f11))) (l11:K.lookup f11=some ⟨oc11,od11,.func (PySem.W.fnOf "_law_slots" "_law_slots" (defArgs s__law_slots) (defBody s__law_slots) (defScope s__law_slots) .none kV11 dc11 pm11 an11 cd11 ct11),sl11⟩) (c11:PySem.W.codeIn K cd11 "_law_slots" = true) (k11:PySem.W.keepIn K (.ref f11)=true)
 {f12:Addr} {od12 an12:Option Addr} {sl12:Array (Option Value)} {oc12 kV12 dc12 pm12 cd12 ct12:Value} (a12:PySem.W.nsIn K mainGlobals "_law_over" = some (some (.ref f12))) (l12:K.lookup f12=some ⟨oc12,od12,.func (PySem.W.fnOf "_law_over" "_law_over" (defArgs s__law_over) (defBody s__law_over) (defScope s__law_over) .none kV12 dc12 pm12 an12 cd12 ct12),sl12⟩) (c12:PySem.W.codeIn K cd12 "_law_over" = true) (k12:PySem.W.keepIn K (.ref f12)=true)
 {f13:Addr} {od13 an13:Option Addr} {sl13:Array (Option Value)} {oc13 kV13 dc13 pm13 cd13 ct13:Value} (a13:PySem.W.nsIn K mainGlobals "_law_due" = some (some (.ref f13))) (l13:K.lookup f13=some ⟨oc13,od13,.func (PySem.W.fnOf "_law_due" "_law_due" (defArgs s__law_due) (defBody s__law_due) (defScope s__law_due) .none kV13 dc13 pm13 an13 cd13 ct13),sl13⟩) (c13:PySem.W.codeIn K cd13 "_law_due" = true) (k13:PySem.W.keepIn K (.ref f13)=true)
 {f14:Addr} {od14 an14:Option Addr} {sl14:Array (Option Value)} {oc14 kV14 dc14 pm14 cd14 ct14:Value} (a14:PySem.W.nsIn K mainGlobals "_law_refused" = some (some (.ref f14))) (l14:K.lookup f14=some ⟨oc14,od14,.func (PySem.W.fnOf "_law_refused" "_law_refused" (defArgs s__law_refused) (defBody s__law_refused) (defScope s__law_refused) .none kV14 dc14 pm14 an14 cd14 ct14),sl14⟩) (c14:PySem.W.codeIn K cd14 "_law_refused" = true) (k14:PySem.W.keepIn K (.ref f14)=true)
 {f15:Addr} {od15 an15:Option Addr} {sl15:Array (Option Value)} {oc15 kV15 dc15 pm15 cd15 ct15:Value} (a15:PySem.W.nsIn K mainGlobals "_law_no_tree" = some (some (.ref f15))) (l15:K.lookup f15=some ⟨oc15,od15,.func (PySem.W.fnOf "_law_no_tree" "_law_no_tree" (defArgs s__law_no_tree) (defBody s__law_no_tree) (defScope s__law_no_tree) .none kV15 dc15 pm15 an15 cd15 ct15),sl15⟩) (c15:PySem.W.codeIn K cd15 "_law_no_tree" = true) (k15:PySem.W.keepIn K (.ref f15)=true)
 {f16:Addr} {od16 an16:Option Addr} {sl16:Array (Option Value)} {oc16 kV16 dc16 pm16 cd16 ct16:Value} (a16:PySem.W.nsIn K mainGlobals "_law_told" = some (some (.ref f16))) (l16:K.lookup f16=some ⟨oc16,od16,.func (PySem.W.fnOf "_law_told" "_law_told" (defArgs s__law_told) (defBody s__law_told) (defScope s__law_told) .none kV16 dc16 pm16 an16 cd16 ct16),sl16⟩) (c16:PySem.W.codeIn K cd16 "_law_told" = true) (k16:PySem.W.keepIn K (.ref f16)=true)
 {f17:Addr} {od17 an17:Option Addr} {sl17:Array (Option Value)} {oc17 kV17 dc17 pm17 cd17 ct17:Value} (a17:PySem.W.nsIn K mainGlobals "_law_thing" = some (some (.ref f17))) (l17:K.lookup f17=some ⟨oc17,od17,.func (PySem.W.fnOf "_law_thing" "_law_thing" (defArgs s__law_thing) (defBody s__law_thing) (defScope s__law_thing) .none kV17 dc17 pm17 an17 cd17 ct17),sl17⟩) (c17:PySem.W.codeIn K cd17 "_law_thing" = true) (k17:PySem.W.keepIn K (.ref f17)=true)
 {f18:Addr} {od18 an18:Option Addr} {sl18:Array (Option Value)} {oc18 kV18 dc18 pm18 cd18 ct18:Value} (a18:PySem.W.nsIn K mainGlobals "_law_alike_due" = some (some (.ref f18))) (l18:K.lookup f18=some ⟨oc18,od18,.func (PySem.W.fnOf "_law_alike_due" "_law_alike_due" (defArgs s__law_alike_due) (defBody s__law_alike_due) (defScope s__law_alike_due) .none kV18 dc18 pm18 an18 cd18 ct18),sl18⟩) (c18:PySem.W.codeIn K cd18 "_law_alike_due" = true) (k18:PySem.W.keepIn K (.ref f18)=true)
 {f19:Addr} {od19 an19:Option Addr} {sl19:Array (Option Value)} {oc19 kV19 dc19 pm19 cd19 ct19:Value} (a19:PySem.W.nsIn K mainGlobals "_law_begun" = some (some (.ref f19))) (l19:K.lookup f19=some ⟨oc19,od19,.func (PySem.W.fnOf "_law_begun" "_law_begun" (defArgs s__law_begun) (defBody s__law_begun) (defScope s__law_begun) .none kV19 dc19 pm19 an19 cd19 ct19),sl19⟩) (c19:PySem.W.codeIn K cd19 "_law_begun" = true) (k19:PySem.W.keepIn K (.ref f19)=true)
 {f20:Addr} {od20 an20:Option Addr} {sl20:Array (Option Value)} {oc20 kV20 dc20 pm20 cd20 ct20:Value} (a20:PySem.W.nsIn K mainGlobals "_law_until_they_meet" = some (some (.ref f20))) (l20:K.lookup f20=some ⟨oc20,od20,.func (PySem.W.fnOf "_law_until_they_meet" "_law_until_they_meet" (defArgs s__law_until_they_meet) (defBody s__law_until_they_meet) (defScope s__law_until_they_meet) .none kV20 dc20 pm20 an20 cd20 ct20),sl20⟩) (c20:PySem.W.codeIn K cd20 "_law_until_they_meet" = true) (k20:PySem.W.keepIn K (.ref f20)=true)
 {f21:Addr} {od21 an21:Option Addr} {sl21:Array (Option Value)} {oc21 kV21 dc21 pm21 cd21 ct21:Value} (a21:PySem.W.nsIn K mainGlobals "law" = some (some (.ref f21))) (l21:K.lookup f21=some ⟨oc21,od21,.func (PySem.W.fnOf "law" "law" (defArgs s_law) (defBody s_law) (defScope s_law) .none kV21 dc21 pm21 an21 cd21 ct21),sl21⟩) (c21:PySem.W.codeIn K cd21 "law" = true) (k21:PySem.W.keepIn K (.ref f21)=true)
 (z0:PySem.W.nsIn K mainGlobals "ValueError" = some none)
 (z1:PySem.W.nsIn K mainGlobals "bool" = some none)
 (z2:PySem.W.nsIn K mainGlobals "int" = some none)
 (z3:PySem.W.nsIn K mainGlobals "isinstance" = some none)
 (z4:PySem.W.nsIn K mainGlobals "len" = some none)
 (z5:PySem.W.nsIn K mainGlobals "list" = some none)
 (z6:PySem.W.nsIn K mainGlobals "range" = some none)
 (z7:PySem.W.nsIn K mainGlobals "sorted" = some none)
 (z8:PySem.W.nsIn K mainGlobals "sum" = some none)
 {t0:Tok} (y0:PySem.W.nsIn K mainGlobals "LEAST_PLAYERS" = some (some (.int 1 t0)))
 {t1:Tok} (y1:PySem.W.nsIn K mainGlobals "MOST_PLAYERS" = some (some (.int 16 t1)))
 {CCupError:Addr} (u0:PySem.W.nsIn K mainGlobals "CupError" = some (some (.ref CCupError)))
 {CNoGame:Addr} (u1:PySem.W.nsIn K mainGlobals "NoGame" = some (some (.ref CNoGame)))
 {CNoRule:Addr} (u2:PySem.W.nsIn K mainGlobals "NoRule" = some (some (.ref CNoRule)))
 {CNoSize:Addr} (u3:PySem.W.nsIn K mainGlobals "NoSize" = some (some (.ref CNoSize)))
 {CNotDue:Addr} (u4:PySem.W.nsIn K mainGlobals "NotDue" = some (some (.ref CNotDue)))
 {CNoPairing:Addr} (u5:PySem.W.nsIn K mainGlobals "NoPairing" = some (some (.ref CNoPairing)))
 {CUneven:Addr} (u6:PySem.W.nsIn K mainGlobals "Uneven" = some (some (.ref CUneven)))
 {CNoNumber:Addr} (u7:PySem.W.nsIn K mainGlobals "NoNumber" = some (some (.ref CNoNumber)))
 {CNoText:Addr} (u8:PySem.W.nsIn K mainGlobals "NoText" = some (some (.ref CNoText)))
 {CNoRow:Addr} (u9:PySem.W.nsIn K mainGlobals "NoRow" = some (some (.ref CNoRow)))
 {CNoName:Addr} (u10:PySem.W.nsIn K mainGlobals "NoName" = some (some (.ref CNoName)))
 {CTree:Addr} (u11:PySem.W.nsIn K mainGlobals "Tree" = some (some (.ref CTree)))
 (ja0:PySem.W.plainGet K CTree Str.empty=true) (jb0:PySem.W.hasDictIn K CTree=true) (jc0:PySem.W.plainOver K CTree=true) (jd0:PySem.W.findIn K (.ref CTree) "__setattr__" = some (some (.builtin "object.__setattr__"))) (je0:PySem.W.makesIn K CTree=true) (jg0:PySem.W.keepIn K (.ref CTree)=true)
 {jf0:Addr} {jod0 jan0:Option Addr} {jsl0:Array (Option Value)} {joc0 jkV0 jdc0 jpm0 jcd0 jct0:Value} (jh0:PySem.W.findIn K (.ref CTree) "__init__" = some (some (.ref jf0))) (jl0:K.lookup jf0=some ⟨joc0,jod0,.func (PySem.W.fnOf "__init__" "Tree.__init__" (defArgs s_Tree_init) (defBody s_Tree_init) (defScope s_Tree_init) .none jkV0 jdc0 jpm0 jan0 jcd0 jct0),jsl0⟩) (jm0:PySem.W.codeIn K jcd0 "Tree.__init__" = true) (jk0:PySem.W.keepIn K (.ref jf0)=true) (jn0:PySem.W.isFn K (.ref jf0)=true)
 (jz0_0:PySem.W.findIn K (.ref CTree) "slots" = some none)
 (jz0_1:PySem.W.findIn K (.ref CTree) "winners" = some none)
 {mf0:Addr} {mod0 man0:Option Addr} {msl0:Array (Option Value)} {moc0 mkV0 mdc0 mpm0 mcd0 mct0:Value} (ma0:PySem.W.findIn K (.ref CTree) "is_left" = some (some (.ref mf0))) (ml0:K.lookup mf0=some ⟨moc0,mod0,.func (PySem.W.fnOf "is_left" "Tree.is_left" (defArgs s_Tree_is_left) (defBody s_Tree_is_left) (defScope s_Tree_is_left) .none mkV0 mdc0 mpm0 man0 mcd0 mct0),msl0⟩) (mc0:PySem.W.codeIn K mcd0 "Tree.is_left" = true) (mk0:PySem.W.keepIn K (.ref mf0)=true) (mn0:PySem.W.isFn K (.ref mf0)=true)
 {mf1:Addr} {mod1 man1:Option Addr} {msl1:Array (Option Value)} {moc1 mkV1 mdc1 mpm1 mcd1 mct1:Value} (ma1:PySem.W.findIn K (.ref CTree) "beaten_by" = some (some (.ref mf1))) (ml1:K.lookup mf1=some ⟨moc1,mod1,.func (PySem.W.fnOf "beaten_by" "Tree.beaten_by" (defArgs s_Tree_beaten_by) (defBody s_Tree_beaten_by) (defScope s_Tree_beaten_by) .none mkV1 mdc1 mpm1 man1 mcd1 mct1),msl1⟩) (mc1:PySem.W.codeIn K mcd1 "Tree.beaten_by" = true) (mk1:PySem.W.keepIn K (.ref mf1)=true) (mn1:PySem.W.isFn K (.ref mf1)=true)
 {mf2:Addr} {mod2 man2:Option Addr} {msl2:Array (Option Value)} {moc2 mkV2 mdc2 mpm2 mcd2 mct2:Value} (ma2:PySem.W.findIn K (.ref CTree) "left" = some (some (.ref mf2))) (ml2:K.lookup mf2=some ⟨moc2,mod2,.func (PySem.W.fnOf "left" "Tree.left" (defArgs s_Tree_left) (defBody s_Tree_left) (defScope s_Tree_left) .none mkV2 mdc2 mpm2 man2 mcd2 mct2),msl2⟩) (mc2:PySem.W.codeIn K mcd2 "Tree.left" = true) (mk2:PySem.W.keepIn K (.ref mf2)=true) (mn2:PySem.W.isFn K (.ref mf2)=true)
 {mf3:Addr} {mod3 man3:Option Addr} {msl3:Array (Option Value)} {moc3 mkV3 mdc3 mpm3 mct3:Value} (ma3:PySem.W.findIn K (.ref CTree) "due" = some (some (.ref mf3))) (ml3:K.lookup mf3=some ⟨moc3,mod3,.func (PySem.W.fnOf "due" "Tree.due" (defArgs s_Tree_due) (defBody s_Tree_due) (defScope s_Tree_due) .none mkV3 mdc3 mpm3 man3 (.ref Yu) mct3),msl3⟩) (mc3:PySem.W.codeIn K (.ref Yu) "Tree.due" = true) (mk3:PySem.W.keepIn K (.ref mf3)=true) (mn3:PySem.W.isFn K (.ref mf3)=true) (mh3:PySem.W.codeHdIn K Yu Yh=true)
 {mf4:Addr} {mod4 man4:Option Addr} {msl4:Array (Option Value)} {moc4 mkV4 mdc4 mpm4 mcd4 mct4:Value} (ma4:PySem.W.findIn K (.ref CTree) "is_due" = some (some (.ref mf4))) (ml4:K.lookup mf4=some ⟨moc4,mod4,.func (PySem.W.fnOf "is_due" "Tree.is_due" (defArgs s_Tree_is_due) (defBody s_Tree_is_due) (defScope s_Tree_is_due) .none mkV4 mdc4 mpm4 man4 mcd4 mct4),msl4⟩) (mc4:PySem.W.codeIn K mcd4 "Tree.is_due" = true) (mk4:PySem.W.keepIn K (.ref mf4)=true) (mn4:PySem.W.isFn K (.ref mf4)=true)
 {mf5:Addr} {mod5 man5:Option Addr} {msl5:Array (Option Value)} {moc5 mkV5 mdc5 mpm5 mcd5 mct5:Value} (ma5:PySem.W.findIn K (.ref CTree) "told" = some (some (.ref mf5))) (ml5:K.lookup mf5=some ⟨moc5,mod5,.func (PySem.W.fnOf "told" "Tree.told" (defArgs s_Tree_told) (defBody s_Tree_told) (defScope s_Tree_told) .none mkV5 mdc5 mpm5 man5 mcd5 mct5),msl5⟩) (mc5:PySem.W.codeIn K mcd5 "Tree.told" = true) (mk5:PySem.W.keepIn K (.ref mf5)=true) (mn5:PySem.W.isFn K (.ref mf5)=true)
 (v0:PySem.W.excIn K CNotDue bmV "ValueError.__new__" = true) (va0:PySem.W.findIn K (.ref CNotDue) "__getattribute__" = some (some (.builtin "BaseException.__getattribute__"))) (vb0:PySem.W.findIn K (.ref CNotDue) "__getattr__" = some none) (vc0:PySem.W.findIn K (.ref CNotDue) "__class__" = some (some (.builtin "object.__class__"))) (vd0:PySem.W.mroIn K CNotDue (.type "object")=some true) (ve0:PySem.W.mroIn K CNotDue (.type "BaseException")=some true)
 (w0_0:PySem.W.kitOne K (.ref CNotDue) (.ref CCupError)=some true)
 (w0_1:PySem.W.kitOne K (.ref CNotDue) (.ref CNoGame)=some false)
 (w0_2:PySem.W.kitOne K (.ref CNotDue) (.ref CNoRule)=some false)
 (w0_3:PySem.W.kitOne K (.ref CNotDue) (.ref CNoSize)=some false)
 (w0_4:PySem.W.kitOne K (.ref CNotDue) (.ref CNotDue)=some true)
 (w0_5:PySem.W.kitOne K (.ref CNotDue) (.ref CNoPairing)=some false)
 (w0_6:PySem.W.kitOne K (.ref CNotDue) (.ref CUneven)=some false)
 (w0_7:PySem.W.kitOne K (.ref CNotDue) (.ref CNoNumber)=some false)
 (w0_8:PySem.W.kitOne K (.ref CNotDue) (.ref CNoText)=some false)
 (w0_9:PySem.W.kitOne K (.ref CNotDue) (.ref CNoRow)=some false)
 (w0_10:PySem.W.kitOne K (.ref CNotDue) (.ref CNoName)=some false)
 (w0_V:PySem.W.kitOne K (.ref CNotDue) (.type "ValueError")=some true)
 (q0_0:PySem.W.exmOne K (.ref CNotDue) (.ref CNotDue)=some true)
 (q0_1:PySem.W.exmOne K (.ref CNotDue) (.ref CCupError)=some true)
 (v1:PySem.W.excIn K CNoSize bmV "ValueError.__new__" = true) (va1:PySem.W.findIn K (.ref CNoSize) "__getattribute__" = some (some (.builtin "BaseException.__getattribute__"))) (vb1:PySem.W.findIn K (.ref CNoSize) "__getattr__" = some none) (vc1:PySem.W.findIn K (.ref CNoSize) "__class__" = some (some (.builtin "object.__class__"))) (vd1:PySem.W.mroIn K CNoSize (.type "object")=some true) (ve1:PySem.W.mroIn K CNoSize (.type "BaseException")=some true)
 (w1_0:PySem.W.kitOne K (.ref CNoSize) (.ref CCupError)=some true)
 (w1_1:PySem.W.kitOne K (.ref CNoSize) (.ref CNoGame)=some false)
 (w1_2:PySem.W.kitOne K (.ref CNoSize) (.ref CNoRule)=some false)
 (w1_3:PySem.W.kitOne K (.ref CNoSize) (.ref CNoSize)=some true)
 (w1_4:PySem.W.kitOne K (.ref CNoSize) (.ref CNotDue)=some false)
 (w1_5:PySem.W.kitOne K (.ref CNoSize) (.ref CNoPairing)=some false)
 (w1_6:PySem.W.kitOne K (.ref CNoSize) (.ref CUneven)=some false)
 (w1_7:PySem.W.kitOne K (.ref CNoSize) (.ref CNoNumber)=some false)
 (w1_8:PySem.W.kitOne K (.ref CNoSize) (.ref CNoText)=some false)
 (w1_9:PySem.W.kitOne K (.ref CNoSize) (.ref CNoRow)=some false)
 (w1_10:PySem.W.kitOne K (.ref CNoSize) (.ref CNoName)=some false)
 (w1_V:PySem.W.kitOne K (.ref CNoSize) (.type "ValueError")=some true)
 (q1_0:PySem.W.exmOne K (.ref CNoSize) (.ref CNoSize)=some true)
 (q1_1:PySem.W.exmOne K (.ref CNoSize) (.ref CCupError)=some true):∃t:Adr,Txt K mg t :=
 ⟨⟨CCupError,CNoGame,CNoRule,CNoSize,CNotDue,CNoPairing,CUneven,CNoNumber,CNoText,CNoRow,CNoName,CTree⟩,⟨⟨⟨f0,_,fun_mk (st:=s__wall) l0 c0 k0,PySem.W.mg_of X G a0⟩⟩,⟨⟨f1,_,fun_mk (st:=s_is_whole) l1 c1 k1,PySem.W.mg_of X G a1⟩⟩,⟨⟨f2,_,fun_mk (st:=s_is_between) l2 c2 k2,PySem.W.mg_of X G a2⟩⟩,⟨⟨f3,_,fun_mk (st:=s_checked_size) l3 c3 k3,PySem.W.mg_of X G a3⟩⟩,⟨⟨f4,_,fun_mk (st:=s_doubled) l4 c4 k4,PySem.W.mg_of X G a4⟩⟩,⟨⟨f5,_,fun_mk (st:=s_slots_of) l5 c5 k5,PySem.W.mg_of X G a5⟩⟩,⟨⟨f6,_,fun_mk (st:=s_neighbours) l6 c6 k6,PySem.W.mg_of X G a6⟩⟩,⟨⟨f7,_,fun_mk (st:=s_contests_between) l7 c7 k7,PySem.W.mg_of X G a7⟩⟩,⟨⟨f8,_,fun_mk (st:=s_joined) l8 c8 k8,PySem.W.mg_of X G a8⟩⟩,⟨⟨f9,_,fun_mk (st:=s__law_drawn) l9 c9 k9,PySem.W.mg_of X G a9⟩⟩,⟨⟨f10,_,fun_mk (st:=s__law_whole) l10 c10 k10,PySem.W.mg_of X G a10⟩⟩,⟨⟨f11,_,fun_mk (st:=s__law_slots) l11 c11 k11,PySem.W.mg_of X G a11⟩⟩,⟨⟨f12,_,fun_mk (st:=s__law_over) l12 c12 k12,PySem.W.mg_of X G a12⟩⟩,⟨⟨f13,_,fun_mk (st:=s__law_due) l13 c13 k13,PySem.W.mg_of X G a13⟩⟩,⟨⟨f14,_,fun_mk (st:=s__law_refused) l14 c14 k14,PySem.W.mg_of X G a14⟩⟩,⟨⟨f15,_,fun_mk (st:=s__law_no_tree) l15 c15 k15,PySem.W.mg_of X G a15⟩⟩,⟨⟨f16,_,fun_mk (st:=s__law_told) l16 c16 k16,PySem.W.mg_of X G a16⟩⟩,⟨⟨f17,_,fun_mk (st:=s__law_thing) l17 c17 k17,PySem.W.mg_of X G a17⟩⟩,⟨⟨f18,_,fun_mk (st:=s__law_alike_due) l18 c18 k18,PySem.W.mg_of X G a18⟩⟩,⟨⟨f19,_,fun_mk (st:=s__law_begun) l19 c19 k19,PySem.W.mg_of X G a19⟩⟩,⟨⟨f20,_,fun_mk (st:=s__law_until_they_meet) l20 c20 k20,PySem.W.mg_of X G a20⟩⟩,⟨⟨f21,_,fun_mk (st:=s_law) l21 c21 k21,PySem.W.mg_of X G a21⟩⟩,PySem.W.mg_none_of X G z0,PySem.W.mg_none_of X G z1,PySem.W.mg_none_of X G z2,PySem.W.mg_none_of X G z3,PySem.W.mg_none_of X G z4,PySem.W.mg_none_of X G z5,PySem.W.mg_none_of X G z6,PySem.W.mg_none_of X G z7,PySem.W.mg_none_of X G z8,⟨t0,PySem.W.mg_of X G y0⟩,⟨t1,PySem.W.mg_of X G y1⟩,PySem.W.mg_of X G u0,PySem.W.mg_of X G u1,PySem.W.mg_of X G u2,PySem.W.mg_of X G u3,PySem.W.mg_of X G u4,PySem.W.mg_of X G u5,PySem.W.mg_of X G u6,PySem.W.mg_of X G u7,PySem.W.mg_of X G u8,PySem.W.mg_of X G u9,PySem.W.mg_of X G u10,PySem.W.mg_of X G u11,⟨ja0,jb0,jc0,jd0⟩,⟨jf0,_,fun_mk (st:=s_Tree_init) jl0 jm0 jk0,⟨je0,jh0,jn0,jg0⟩⟩,jz0_0,jz0_1,⟨mf0,_,fun_mk (st:=s_Tree_is_left) ml0 mc0 mk0,⟨ma0,mn0,mk0⟩⟩,⟨mf1,_,fun_mk (st:=s_Tree_beaten_by) ml1 mc1 mk1,⟨ma1,mn1,mk1⟩⟩,⟨mf2,_,fun_mk (st:=s_Tree_left) ml2 mc2 mk2,⟨ma2,mn2,mk2⟩⟩,⟨⟨mf3,moc3,mod3,mkV3,mdc3,mpm3,man3,mct3,msl3,ml3,mc3,mk3,⟨ma3,mn3,mk3⟩⟩,mh3⟩,⟨mf4,_,fun_mk (st:=s_Tree_is_due) ml4 mc4 mk4,⟨ma4,mn4,mk4⟩⟩,⟨mf5,_,fun_mk (st:=s_Tree_told) ml5 mc5 mk5,⟨ma5,mn5,mk5⟩⟩,v0,⟨va0,vb0,vc0,vd0,ve0,zr v0⟩,w0_0,w0_1,w0_2,w0_3,w0_4,w0_5,w0_6,w0_7,w0_8,w0_9,w0_10,w0_V,q0_0,q0_1,v1,⟨va1,vb1,vc1,vd1,ve1,zr v1⟩,w1_0,w1_1,w1_2,w1_3,w1_4,w1_5,w1_6,w1_7,w1_8,w1_9,w1_10,w1_V,q1_0,q1_1⟩⟩
theorem law_all {P:Program}{w:World}{K:PySem.W.Frag}{mg:Str→Option Value}{base:Heap}{t:Adr}(T:Txt K mg t)(L_Tree_due:LamAt mg base Yh "Tree.due.<locals>.<lambda>"){f:Addr}{fd:FuncData}(F:Fun K "law" "law" s_law f fd):FnOk P w K mg base CX0 20 f fd ["_law_script"] (dsp K pre_law):=by
 have g_is_whole:=ok_is_whole (P:=P) (w:=w) (base:=base) T 
 have g_is_between:=ok_is_between (P:=P) (w:=w) (base:=base) T g_is_whole
 have g_checked_size:=ok_checked_size (P:=P) (w:=w) (base:=base) T g_is_between
 have g_doubled:=ok_doubled (P:=P) (w:=w) (base:=base) T 
 have g_slots_of:=ok_slots_of (P:=P) (w:=w) (base:=base) T g_checked_size g_doubled
 have g_Tree_init:=ok_Tree_init (P:=P) (w:=w) (base:=base) T g_slots_of
 have gX_Tree_init:=yl (P:=P) (w:=w) (base:=base) T g_slots_of
 have g__law_whole:=ok__law_whole (P:=P) (w:=w) (base:=base) T 
 have g__law_alike_due:=ok__law_alike_due (P:=P) (w:=w) (base:=base) T g__law_whole
 have g_Tree_is_left:=ok_Tree_is_left (P:=P) (w:=w) (base:=base) T 
 have g_neighbours:=ok_neighbours (P:=P) (w:=w) (base:=base) T 
 have g_contests_between:=ok_contests_between (P:=P) (w:=w) (base:=base) T g_neighbours
 have g_joined:=ok_joined (P:=P) (w:=w) (base:=base) T g_neighbours
 have g_Tree_due:=ok_Tree_due (P:=P) (w:=w) (base:=base) T L_Tree_due g_Tree_is_left g_contests_between g_joined
 have g_Tree_is_due:=ok_Tree_is_due (P:=P) (w:=w) (base:=base) T g_Tree_due g_is_whole
 have g_Tree_told:=ok_Tree_told (P:=P) (w:=w) (base:=base) T g_Tree_is_due
 have gX_Tree_told:=yk (P:=P) (w:=w) (base:=base) T g_Tree_is_due
 have g__law_drawn:=ok__law_drawn (P:=P) (w:=w) (base:=base) T 
 have g__law_over:=ok__law_over (P:=P) (w:=w) (base:=base) T 
 have g__law_due:=ok__law_due (P:=P) (w:=w) (base:=base) T g__law_over
 have g__law_slots:=ok__law_slots (P:=P) (w:=w) (base:=base) T 
 have g__law_begun:=ok__law_begun (P:=P) (w:=w) (base:=base) T g_Tree_told gX_Tree_told g__law_drawn g__law_due g__law_slots
 have g__law_no_tree:=ok__law_no_tree (P:=P) (w:=w) (base:=base) T g_Tree_init gX_Tree_init
 have g__law_refused:=ok__law_refused (P:=P) (w:=w) (base:=base) T g_Tree_told gX_Tree_told
 have g__law_thing:=ok__law_thing (P:=P) (w:=w) (base:=base) T g__law_drawn
 have g_Tree_beaten_by:=ok_Tree_beaten_by (P:=P) (w:=w) (base:=base) T 
 have g_Tree_left:=ok_Tree_left (P:=P) (w:=w) (base:=base) T g_Tree_is_left
 have g__law_told:=ok__law_told (P:=P) (w:=w) (base:=base) T g_Tree_beaten_by g_Tree_due g_Tree_left
 have g__law_until_they_meet:=ok__law_until_they_meet (P:=P) (w:=w) (base:=base) T g_Tree_beaten_by g_Tree_left g_Tree_told gX_Tree_told g__law_due g__law_refused g__law_slots
 exact ok_law T F g_Tree_init gX_Tree_init g__law_alike_due g__law_begun g__law_drawn g__law_due g__law_no_tree g__law_refused g__law_slots g__law_thing g__law_told g__law_until_they_meet
end
end K31
def PySem.W.Fast.tw9275953378154396168:Unit:=()
def PySem.W.Fast.tw7908453544699644486:Unit:=()
def PySem.W.Fast.tw8020508323769320714:Unit:=()
def PySem.W.Fast.tw13529780800581285050:Unit:=()
def PySem.W.Fast.tw3892207951557010395:Unit:=()
def PySem.W.Fast.tw14751821425974815185:Unit:=()
def PySem.W.Fast.tw1912171731391363908:Unit:=()
def PySem.W.Fast.tw583089515622049922:Unit:=()
set_option maxRecDepth 100000 in
set_option maxHeartbeats 0 in
theorem PySem.Challenge.cw_cupdraw_k31_contests_not_due_holds : PySem.Challenge.rw_cupdraw_k31_contests_not_due.Holds := by
 w_on;o_law;k_head;(case hw=>w_witness2)
 k_fill
 refine L2.walk_ofT (ts:=K31.tabs) (l:=PySem.Challenge.rw_cupdraw_k31_contests_not_due) (n:=63) (k:=20) (x := "_law_script") (CX:=L2.CX0) (sp:=fun K=>L2.L3.dsp K K31.pre_law) rfl (by decide) rfl ⟨rfl,by decide,by decide⟩ (fun w h Y=>PySem.W.km_in_of Y) ?T ?F ?S ?C
 case T =>
  intro w h Y P q e
  have KX:=PySem.W.km_in_of Y
  have HT:=PySem.W.km_tabs_of Y
  unfold K31.tabs at e
  by_cases z:P=230
  · subst z
    exact⟨HT 230 (by k_mem),((PySem.W.codeHd_of_K (c:=232) (P:=230) KX (by kernel_rfl)).tab (HT 230 (by k_mem))).isCodeTable,by kernel_rfl⟩
  rw[if_neg z] at e
  cases e
 case F =>
  intro w mg fa h KX G hmg
  have T:∃t,K31.Txt (L2.KOf KX) mg t:=by
   dsimp only[L2.KOf]
   refine' K31.txt_mk KX G ?a0 ?l0 ?c0 ?k0 ?a1 ?l1 ?c1 ?k1 ?a2 ?l2 ?c2 ?k2 ?a3 ?l3 ?c3 ?k3 ?a4 ?l4 ?c4 ?k4 ?a5 ?l5 ?c5 ?k5 ?a6 ?l6 ?c6 ?k6 ?a7 ?l7 ?c7 ?k7 ?a8 ?l8 ?c8 ?k8 ?a9 ?l9 ?c9 ?k9 ?a10 ?l10 ?c10 ?k10 ?a11 ?l11 ?c11 ?k11 ?a12 ?l12 ?c12 ?k12 ?a13 ?l13 ?c13 ?k13 ?a14 ?l14 ?c14 ?k14 ?a15 ?l15 ?c15 ?k15 ?a16 ?l16 ?c16 ?k16 ?a17 ?l17 ?c17 ?k17 ?a18 ?l18 ?c18 ?k18 ?a19 ?l19 ?c19 ?k19 ?a20 ?l20 ?c20 ?k20 ?a21 ?l21 ?c21 ?k21 ?z0 ?z1 ?z2 ?z3 ?z4 ?z5 ?z6 ?z7 ?z8 ?y0 ?y1 ?u0 ?u1 ?u2 ?u3 ?u4 ?u5 ?u6 ?u7 ?u8 ?u9 ?u10 ?u11 ?ja0 ?jb0 ?jc0 ?jd0 ?je0 ?jg0 ?jh0 ?jl0 ?jm0 ?jk0 ?jn0 ?jz0_0 ?jz0_1 ?ma0 ?ml0 ?mc0 ?mk0 ?mn0 ?ma1 ?ml1 ?mc1 ?mk1 ?mn1 ?ma2 ?ml2 ?mc2 ?mk2 ?mn2 ?ma3 ?ml3 ?mc3 ?mk3 ?mn3 ?mh3 ?ma4 ?ml4 ?mc4 ?mk4 ?mn4 ?ma5 ?ml5 ?mc5 ?mk5 ?mn5 ?v0 ?va0 ?vb0 ?vc0 ?vd0 ?ve0 ?w0_0 ?w0_1 ?w0_2 ?w0_3 ?w0_4 ?w0_5 ?w0_6 ?w0_7 ?w0_8 ?w0_9 ?w0_10 ?w0_V ?q0_0 ?q0_1 ?v1 ?va1 ?vb1 ?vc1 ?vd1 ?ve1 ?w1_0 ?w1_1 ?w1_2 ?w1_3 ?w1_4 ?w1_5 ?w1_6 ?w1_7 ?w1_8 ?w1_9 ?w1_10 ?w1_V ?q1_0 ?q1_1
   (case a0=>k_is)
   (case l0=>k_is)
   (case c0=>k_is)
   (case k0=>k_is)
   (case a1=>k_is)
   (case l1=>k_is)
   (case c1=>k_is)
   (case k1=>k_is)
   (case a2=>k_is)
   (case l2=>k_is)
   (case c2=>k_is)
   (case k2=>k_is)
   (case a3=>k_is)
   (case l3=>k_is)
   (case c3=>k_is)
   (case k3=>k_is)
   (case a4=>k_is)
   (case l4=>k_is)
   (case c4=>k_is)
   (case k4=>k_is)
   (case a5=>k_is)
   (case l5=>k_is)
   (case c5=>k_is)
   (case k5=>k_is)
   (case a6=>k_is)
   (case l6=>k_is)
   (case c6=>k_is)
   (case k6=>k_is)
   (case a7=>k_is)
   (case l7=>k_is)
   (case c7=>k_is)
   (case k7=>k_is)
   (case a8=>k_is)
   (case l8=>k_is)
   (case c8=>k_is)
   (case k8=>k_is)
   (case a9=>k_is)
   (case l9=>k_is)
   (case c9=>k_is)
   (case k9=>k_is)
   (case a10=>k_is)
   (case l10=>k_is)
   (case c10=>k_is)
   (case k10=>k_is)
   (case a11=>k_is)
   (case l11=>k_is)
   (case c11=>k_is)
   (case k11=>k_is)
   (case a12=>k_is)
   (case l12=>k_is)
   (case c12=>k_is)
   (case k12=>k_is)
   (case a13=>k_is)
   (case l13=>k_is)
   (case c13=>k_is)
   (case k13=>k_is)
   (case a14=>k_is)
   (case l14=>k_is)
   (case c14=>k_is)
   (case k14=>k_is)
   (case a15=>k_is)
   (case l15=>k_is)
   (case c15=>k_is)
   (case k15=>k_is)
   (case a16=>k_is)
   (case l16=>k_is)
   (case c16=>k_is)
   (case k16=>k_is)
   (case a17=>k_is)
   (case l17=>k_is)
   (case c17=>k_is)
   (case k17=>k_is)
   (case a18=>k_is)
   (case l18=>k_is)
   (case c18=>k_is)
   (case k18=>k_is)
   (case a19=>k_is)
   (case l19=>k_is)
   (case c19=>k_is)
   (case k19=>k_is)
   (case a20=>k_is)
   (case l20=>k_is)
   (case c20=>k_is)
   (case k20=>k_is)
   (case a21=>k_is)
   (case l21=>k_is)
   (case c21=>k_is)
   (case k21=>k_is)
   (case z0=>k_is)
   (case z1=>k_is)
   (case z2=>k_is)
   (case z3=>k_is)
   (case z4=>k_is)
   (case z5=>k_is)
   (case z6=>k_is)
   (case z7=>k_is)
   (case z8=>k_is)
   (case y0=>k_is)
   (case y1=>k_is)
   (case u0=>k_is)
   (case u1=>k_is)
   (case u2=>k_is)
   (case u3=>k_is)
   (case u4=>k_is)
   (case u5=>k_is)
   (case u6=>k_is)
   (case u7=>k_is)
   (case u8=>k_is)
   (case u9=>k_is)
   (case u10=>k_is)
   (case u11=>k_is)
   (case ja0=>k_is)
   (case jb0=>k_is)
   (case jc0=>k_is)
   (case jd0=>k_is)
   (case je0=>k_is)
   (case jg0=>k_is)
   (case jh0=>k_is)
   (case jl0=>k_is)
   (case jm0=>k_is)
   (case jk0=>k_is)
   (case jn0=>k_is)
   (case jz0_0=>k_is)
   (case jz0_1=>k_is)
   (case ma0=>k_is)
   (case ml0=>k_is)
   (case mc0=>k_is)
   (case mk0=>k_is)
   (case mn0=>k_is)
   (case ma1=>k_is)
   (case ml1=>k_is)
   (case mc1=>k_is)
   (case mk1=>k_is)
   (case mn1=>k_is)
   (case ma2=>k_is)
   (case ml2=>k_is)
   (case mc2=>k_is)
   (case mk2=>k_is)
   (case mn2=>k_is)
   (case ma3=>k_is)
   (case ml3=>k_is)
   (case mc3=>k_is)
   (case mk3=>k_is)
   (case mn3=>k_is)
   (case mh3=>kernel_rfl)
   (case ma4=>k_is)
   (case ml4=>k_is)
   (case mc4=>k_is)
   (case mk4=>k_is)
   (case mn4=>k_is)
   (case ma5=>k_is)
   (case ml5=>k_is)
   (case mc5=>k_is)
   (case mk5=>k_is)
   (case mn5=>k_is)
   (case v0=>k_exc)
   (case va0=>k_is)
   (case vb0=>k_is)
   (case vc0=>k_is)
   (case vd0=>k_is)
   (case ve0=>k_is)
   (case w0_0=>kit_is)
   (case w0_1=>kit_is)
   (case w0_2=>kit_is)
   (case w0_3=>kit_is)
   (case w0_4=>kit_is)
   (case w0_5=>kit_is)
   (case w0_6=>kit_is)
   (case w0_7=>kit_is)
   (case w0_8=>kit_is)
   (case w0_9=>kit_is)
   (case w0_10=>kit_is)
   (case w0_V=>kit_is)
   (case q0_0=>kts_exm)
   (case q0_1=>kts_exm)
   (case v1=>k_exc)
   (case va1=>k_is)
   (case vb1=>k_is)
   (case vc1=>k_is)
   (case vd1=>k_is)
   (case ve1=>k_is)
   (case w1_0=>kit_is)
   (case w1_1=>kit_is)
   (case w1_2=>kit_is)
   (case w1_3=>kit_is)
   (case w1_4=>kit_is)
   (case w1_5=>kit_is)
   (case w1_6=>kit_is)
   (case w1_7=>kit_is)
   (case w1_8=>kit_is)
   (case w1_9=>kit_is)
   (case w1_10=>kit_is)
   (case w1_V=>kit_is)
   (case q1_0=>kts_exm)
   (case q1_1=>kts_exm)
  obtain⟨t,T⟩:=T
  obtain⟨f,fd,F,hm⟩:=T.d_law.ex
  have e0:=hmg.symm.trans hm
  cases e0
  exact⟨fd,L2.L3.fun_bind1 F (fun _ _ _ _ _ _ _=>rfl),fun base kb nb hlm=>K31.law_all T (hlm _ _ (by rfl)) F⟩
 case S=>exact fun K H a ns hl hO hS=>L2.L3.law_sp hl hS
 case C=>exact fun _ _ _ _ z=>z
