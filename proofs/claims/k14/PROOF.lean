import PyProof.Rows.All
import Wide.All
import OpenK.AllK
import Wide.FinOn
import Lean
import PyProof.EqAt
import PyProof.EqKinds
import PyProof.TupleCall
import PyProof.NeKinds
import PyProof.ListRange
import PyProof.ConsumeWalk
import PyProof.StrWalks
import PyProof.Rows.StrJoin2
import PyProof.Rows.SetFrom
import PyProof.SetNew
import PyProof.DictUpdate
import PyProof.FactsAll.dict_0
import PyProof.FactsAll.dict_1
import PyProof.FactsAll.dict_2
import PyProof.FactsAll.dict_3
import PyProof.FactsAll.dict_4
import PyProof.AttrMissSeq
import PyProof.AttrMissHeap
import KE.KEqDict
import PyProof.TupleKey
import PyProof.SetRoads
import PyProof.SetScanFacts
import PyProof.ForWalkI
import PyProof.FactsAll.set_0
import PyProof.FactsAll.set_1
import PyProof.FactsAll.set_2
import PyProof.CollectWalk
import PyProof.Rows.SortStr
import PyProof.Rows.SortShellK
import PyProof.ZipIter
import KE.KSortTup
import PyProof.ReprRoads
import PyProof.StrLawsRepr
import PyProof.CallFns
import PySem.Challenge.RW_calledroom_k14_all_out_at_first
set_option Elab.async false
set_option linter.all false
set_option maxRecDepth 100000
/-! THE HAND LAYER, for ints, bools, texts, own classes, LISTS and tuples (index, slices, in, append, pop ..), calls, loops. Paste it whole ahead of your own text; what your proof does not reach may be deleted. -/
namespace L2
open PySem PySem.Spec PyProof.Rows

/-- a key: an int or a str -/
abbrev Key := Sum Int Str
def keyIs : Key → Value → Bool
  | .inl k, v => Value.isInt k v
  | .inr x, v => Value.isStrOf x v
def keyH (w : World) : Key → Int
  | .inl k => hashInt k
  | .inr x => hashStr w x
theorem keyIs_shape : ∀ {k : Key} {v : Value}, keyIs k v = true → (∃ i t, k = Sum.inl i ∧ v = Value.int i t) ∨ (∃ x t, k = Sum.inr x ∧ v = Value.str x t)
  | .inl i, v, h => by
    obtain ⟨t, e⟩ := Value.isInt_shape (k := i) (v := v) h
    exact .inl ⟨i, t, rfl, e⟩
  | .inr x, v, h => by
    obtain ⟨t, e⟩ := Value.isStrOf_shape (x := x) (v := v) h
    exact .inr ⟨x, t, rfl, e⟩
theorem key_ll (a b : Int) : decide ((Sum.inl a : Key) = Sum.inl b) = (a == b) := by
  by_cases e : a = b
  · subst e; simp
  · have h : ¬ (Sum.inl a : Key) = Sum.inl b := fun q => e (Sum.inl.inj q)
    rw [decide_eq_false h]
    exact (beq_eq_false_iff_ne.mpr e).symm
theorem key_rr (a b : Str) : decide ((Sum.inr a : Key) = Sum.inr b) = decide (a = b) := by
  by_cases e : a = b
  · subst e; simp
  · have h : ¬ (Sum.inr a : Key) = Sum.inr b := fun q => e (Sum.inr.inj q)
    rw [decide_eq_false h, decide_eq_false e]
theorem key_lr (a : Int) (b : Str) : decide ((Sum.inl a : Key) = Sum.inr b) = false := decide_eq_false (fun q => nomatch q)
theorem key_rl (a : Str) (b : Int) : decide ((Sum.inr a : Key) = Sum.inl b) = false := decide_eq_false (fun q => nomatch q)

def mixKind (prog : Program) (w : World) : PySem.KeyKind prog w Key where
  is := keyIs
  hash := keyH w
  inj := fun v a b ha hb => by
    rcases keyIs_shape ha with ⟨i, t, rfl, rfl⟩ | ⟨x, t, rfl, rfl⟩
    · rcases keyIs_shape hb with ⟨j, u, rfl, e⟩ | ⟨y, u, rfl, e⟩
      · injection e with e1 _; rw [e1]
      · exact nomatch e
    · rcases keyIs_shape hb with ⟨j, u, rfl, e⟩ | ⟨y, u, rfl, e⟩
      · exact nomatch e
      · injection e with e1 _; rw [e1]
  byValue := fun k v h => by
    rcases keyIs_shape h with ⟨i, t, rfl, rfl⟩ | ⟨x, t, rfl, rfl⟩ <;> rfl
  pyHash := fun hv h => by
    rcases keyIs_shape hv with ⟨i, t, rfl, rfl⟩ | ⟨x, t, rfl, rfl⟩
    · exact wpAny_pyHash_int h
    · exact wpAny_pyHash_str h
  eqBool := fun hu hv h => by
    rcases keyIs_shape hu with ⟨i, t, rfl, rfl⟩ | ⟨x, t, rfl, rfl⟩
    · rcases keyIs_shape hv with ⟨j, u, rfl, rfl⟩ | ⟨y, u, rfl, rfl⟩
      · rw [key_ll] at h; exact wpAny_eqBool_int h
      · rw [key_lr] at h; exact SeqAt.EqAt.int_str i t y u _ _ _ _ h
    · rcases keyIs_shape hv with ⟨j, u, rfl, rfl⟩ | ⟨y, u, rfl, rfl⟩
      · rw [key_rl] at h; exact SeqAt.EqAt.str_int x t j u _ _ _ _ h
      · rw [key_rr] at h; exact wpAny_eqBool_str h
  «strs» := fun k x t v h => by
    rcases keyIs_shape h with ⟨i, u, rfl, e⟩ | ⟨y, u, rfl, e⟩
    · exact nomatch e
    · injection e with e1 _
      subst e1
      cases v <;> rfl

end L2

namespace L2
open PySem PySem.Spec PyProof.Rows

/-- a value, without the heap -/
inductive V where
  | non | bl (b : Bool) | int (i : Int) | str (x : Str) | byt (b : Array UInt8) | flt (b : UInt64) | ref (a : Addr) | ty (n : String)
  deriving DecidableEq

def RelV : V → Value → Prop
  | .non, u => u = Value.none
  | .bl b, u => u = Value.bool b
  | .int i, u => ∃ t, u = Value.int i t
  | .str x, u => ∃ t, u = Value.str x t
  | .byt b, u => ∃ t, u = Value.bytes b t
  | .flt b, u => ∃ t, u = Value.float b t
  | .ref a, u => u = Value.ref a
  | .ty n, u => u = Value.type n

abbrev Vals : List V → List Value → Prop := Paired RelV
theorem Vals.length {xs : List V} {us : List Value} (r : Vals xs us) : xs.length = us.length := Paired.length r
theorem Vals.get : ∀ {xs : List V} {us : List Value} {i : Nat} {x : V}, Vals xs us → xs[i]? = some x → ∃ u, us[i]? = some u ∧ RelV x u
  | _, _, _, _, .nil, e => by simp at e
  | _, _, 0, _, .cons r _, e => by simp at e; subst e; exact ⟨_, rfl, r⟩
  | _, _, i + 1, x, .cons _ t, e => by
    obtain ⟨u, h1, h2⟩ := Vals.get (i := i) (x := x) t (by simpa using e)
    exact ⟨u, by simpa using h1, h2⟩
theorem Vals.set {x : V} {u : Value} (r : RelV x u) : ∀ {xs : List V} {us : List Value} (i : Nat), Vals xs us → Vals (xs.set i x) (us.set i u)
  | _, _, _, .nil => .nil
  | _, _, 0, .cons _ t => .cons r t
  | _, _, i + 1, .cons q t => .cons q (Vals.set r i t)
theorem Vals.append : ∀ {xs ys : List V} {us ws : List Value}, Vals xs us → Vals ys ws → Vals (xs ++ ys) (us ++ ws)
  | _, _, _, _, .nil, s => s
  | _, _, _, _, .cons r t, s => .cons r (Vals.append t s)
theorem Vals.take : ∀ {xs : List V} {us : List Value} (n : Nat), Vals xs us → Vals (xs.take n) (us.take n)
  | _, _, 0, _ => .nil
  | _, _, _ + 1, .nil => .nil
  | _, _, n + 1, .cons r t => .cons r (Vals.take n t)
theorem Vals.drop : ∀ {xs : List V} {us : List Value} (n : Nat), Vals xs us → Vals (xs.drop n) (us.drop n)
  | _, _, 0, r => r
  | _, _, _ + 1, .nil => .nil
  | _, _, n + 1, .cons _ t => Vals.drop n t

def RelO : Option V → Option Value → Prop
  | some v, some u => RelV v u
  | none, none => True
  | _, _ => False
def KV {κ : Type} : List (κ × V) → List (κ × Value) → Prop := Paired fun (p : κ × V) (q : κ × Value) => p.1 = q.1 ∧ RelV p.2 q.2

/-- a key of a dict (00_mix): an int or a text -/
def kV : Key → V
  | .inl i => .int i
  | .inr x => .str x

/-- what stands at a tracked address -/
inductive HO where
  /-- a list -/
  | lst (xs : List V)
  /-- a tuple (never changes) -/
  | tup (xs : List V)
  /-- a dict whose keys are ints and texts; one whose keys are tuples of ints and texts (the empty one is both) -/
  | dK (kvs : List (Key × V)) | dT (kvs : List (List Key × V))
  /-- a set of ints: its members, its size -/
  | set (S : Int → Bool) (n : Nat)
  /-- an instance of the class at C, its dict at dx, its attributes -/
  | ins (C dx : Addr) (fs : List (Str × V))
  /-- the dict of the instance at x -/
  | own (x : Addr)
  /-- the dict of an exception -/
  | xd (fs : List (Str × V))
  /-- a bound method, f of x -/
  | met (f x : Addr)
  /-- a range object lo, lo + 1, .. below hi -/
  | rng (lo hi : Int)
  /-- a thing that is known to the object (the script; a dict while a loop walks it): read, never written while it is so -/
  | frz (o : Obj) (u : HO)
  /-- a code object's table -/
  | tbl (ps : Array Value)
  /-- any other thing, by what is true of its one object (a def of one's own: SetO a S n := HO.ext fun h => ..) -/
  | ext (φ : Heap → Prop)

abbrev Hp := Addr → Option HO
def upd (H : Hp) (a : Addr) (o : HO) : Hp := fun b => if b = a then some o else H b
theorem upd_same {H : Hp} {a : Addr} {o : HO} : upd H a o a = some o := by unfold upd; rw [if_pos rfl]
theorem upd_ne {H : Hp} {a b : Addr} {o : HO} (h : b ≠ a) : upd H a o b = H b := by unfold upd; rw [if_neg h]
theorem upd_upd {H : Hp} {a : Addr} {o u : HO} : upd (upd H a o) a u = upd H a u := by
  funext b; unfold upd; split <;> rfl
theorem ne_of_none {H : Hp} {a b : Addr} {o : HO} (h : H a = some o) (h' : H b = none) : a ≠ b := by
  intro e; subst e; rw [h] at h'; cases h'

section
variable (P : Program) (w : World)
def ObjOk (H : Hp) (h : Heap) (a : Addr) : HO → Prop
  | .lst xs => xs.length ≤ sizeLine ∧ ∃ (its : List Value) (n : Nat), Vals xs its ∧ h.get? a = some { cls := .type "list", data := .seq its.toArray n }
  | .tup xs => xs.length ≤ sizeLine ∧ ∃ its : List Value, Vals xs its ∧ IsTup h a its.toArray
  | .dK kvs => kvs.length ≤ sizeLine ∧ (a == sysModules) = false ∧ ∃ vs, KV kvs vs ∧ h.DictOf (mixKind P w) a vs
  | .dT kvs => kvs.length ≤ sizeLine ∧ (a == sysModules) = false ∧ ∃ xs : List (List Key × Addr × Value),
      Paired (fun (p : List Key × V) (q : List Key × Addr × Value) => p.1 = q.1 ∧ H q.2.1 = some (.tup (p.1.map kV)) ∧ RelV p.2 q.2.2) kvs xs ∧
      ∃ o es ep, h.get? a = some o ∧ o.ExactDict ∧ o.data = .dict es ep ∧ es.toList = xs.map (entryOfKey (tupleKind (mixKind P w))) ∧ (xs.map (·.1)).Nodup
  | .set S n => h.SetOf (intKind P w) a S n
  | .ins C dx fs => H dx = some (.own a) ∧ fs.length ≤ 1000 ∧ dx ≠ a ∧ h.get? a = some (PySem.W.instObj C dx) ∧
      ∃ mA, h.Ns1 dx mA ∧ (∀ f, RelO (fs.lookup f) (mA f)) ∧ PySem.Within mA (fs.map (·.1))
  | .own _ => ∃ o, h.get? a = some o
  | .xd fs => ∃ mA, h.Ns1 a mA ∧ ∀ f, RelO (fs.lookup f) (mA f)
  | .rng lo hi => ∃ t u v, h.get? a = some { cls := .type "range", data := .fields #[.int lo t, .int hi u, .int 1 v] }
  | .frz o u => h.get? a = some o ∧ ObjOk H h a u
  | .tbl ps => h.get? a = some { cls := .none, data := .fields ps }
  | .met f x => h.get? a = some (PySem.W.methodObj (.ref f) (.ref x))
  | .ext φ => φ h ∧ (∃ o, h.get? a = some o) ∧ ∀ h1 h2 : Heap, φ h1 → (∀ o, h1.get? a = some o → h2.get? a = some o) → φ h2
/-- the abstract heap is held -/
def HOk (H : Hp) (h : Heap) : Prop := ∀ a o, H a = some o → ObjOk P w H h a o
end

section
variable {P : Program} {w : World} {H H' : Hp} {h h' : Heap} {a : Addr} {o : HO}
theorem ObjOk.lt (x : ObjOk P w H h a o) : a < h.objs.size := by
  cases o with
  | lst xs => obtain ⟨_, _, _, _, e⟩ := x; exact Heap.lt_size e
  | tup xs => obtain ⟨_, _, _, p⟩ := x; exact p.lt
  | dK kvs => obtain ⟨_, _, _, _, o, _, _, e, _⟩ := x; exact Heap.lt_size e
  | dT kvs => obtain ⟨_, _, _, _, o, _, _, e, _⟩ := x; exact Heap.lt_size e
  | set S n => obtain ⟨o, _, _, _, e, _⟩ := x; exact Heap.lt_size e
  | ins C dx fs => obtain ⟨_, _, _, e, _⟩ := x; exact Heap.lt_size e
  | own y => obtain ⟨_, e⟩ := x; exact Heap.lt_size e
  | xd fs => obtain ⟨_, ⟨_, _, _, e, _⟩, _⟩ := x; exact Heap.lt_size e
  | rng lo hi => obtain ⟨_, _, _, e⟩ := x; exact Heap.lt_size e
  | frz ob u => obtain ⟨e, _⟩ := x; exact Heap.lt_size e
  | tbl ps => exact Heap.lt_size (show h.get? a = some _ from x)
  | met f y => exact Heap.lt_size (show h.get? a = some _ from x)
  | ext φ => obtain ⟨_, ⟨_, e⟩, _⟩ := x; exact Heap.lt_size e
theorem Paired.mapP {α β : Type} {F G : α → β → Prop} : ∀ {l₁ : List α} {l₂ : List β}, Paired F l₁ l₂ → (∀ a b, F a b → G a b) → Paired G l₁ l₂
  | _, _, .nil, _ => .nil
  | _, _, .cons r t, f => .cons (f _ _ r) (Paired.mapP t f)
/-- what an object's description leans on: its own object, its own dict, the tuples -/
theorem ObjOk.stay (x : ObjOk P w H h a o) (k : ∀ b u, (b = a ∨ H b = some (.own a)) → h.get? b = some u → h'.get? b = some u)
    (ho : ∀ b, H b = some (.own a) → H' b = some (.own a)) (ht : ∀ b xs, H b = some (.tup xs) → H' b = some (.tup xs)) : ObjOk P w H' h' a o := by
  induction o with
  | lst xs => obtain ⟨z, its, n, r, e⟩ := x; exact ⟨z, its, n, r, k _ _ (.inl rfl) e⟩
  | tup xs => obtain ⟨z, its, r, ob, e, c⟩ := x; exact ⟨z, its, r, ob, k _ _ (.inl rfl) e, c⟩
  | dK kvs => obtain ⟨z, y, vs, r, ob, es, ep, e, c⟩ := x; exact ⟨z, y, vs, r, ob, es, ep, k _ _ (.inl rfl) e, c⟩
  | dT kvs =>
    obtain ⟨z, y, xs, r, ob, es, ep, e, c⟩ := x
    exact ⟨z, y, xs, Paired.mapP r fun p q z => ⟨z.1, ht _ _ z.2.1, z.2.2⟩, ob, es, ep, k _ _ (.inl rfl) e, c⟩
  | set S n => obtain ⟨ob, es, ep, t, e, c⟩ := x; exact ⟨ob, es, ep, t, k _ _ (.inl rfl) e, c⟩
  | ins C dx fs =>
    obtain ⟨d, z, ne, e, mA, ⟨od, es, ep, e2, c⟩, r⟩ := x
    exact ⟨ho _ d, z, ne, k _ _ (.inl rfl) e, mA, ⟨od, es, ep, k _ _ (.inr d) e2, c⟩, r⟩
  | own y => obtain ⟨ob, e⟩ := x; exact ⟨ob, k _ _ (.inl rfl) e⟩
  | xd fs => obtain ⟨mA, ⟨od, es, ep, e, c⟩, r⟩ := x; exact ⟨mA, ⟨od, es, ep, k _ _ (.inl rfl) e, c⟩, r⟩
  | rng lo hi => obtain ⟨t, u, v, e⟩ := x; exact ⟨t, u, v, k _ _ (.inl rfl) e⟩
  | frz ob u ih => obtain ⟨e, q⟩ := x; exact ⟨k _ _ (.inl rfl) e, ih q⟩
  | tbl ps =>
    have e : h.get? a = some { cls := .none, data := .fields ps } := x
    show h'.get? a = some { cls := .none, data := .fields ps }
    exact k a _ (.inl rfl) e
  | met f y =>
    have e : h.get? a = some (PySem.W.methodObj (.ref f) (.ref y)) := x
    show h'.get? a = some (PySem.W.methodObj (.ref f) (.ref y))
    exact k a _ (.inl rfl) e
  | ext φ => obtain ⟨p, ⟨o, e⟩, st⟩ := x; exact ⟨st _ _ p fun o q => k _ _ (.inl rfl) q, ⟨o, k _ _ (.inl rfl) e⟩, st⟩
theorem HOk.lt (x : HOk P w H h) (e : H a = some o) : a < h.objs.size := (x a o e).lt
theorem HOk.fresh (x : HOk P w H h) (e : h.objs.size ≤ a) : H a = none := by
  cases q : H a with
  | none => rfl
  | some u => exact absurd (Nat.lt_of_lt_of_le (x.lt q) e) (Nat.lt_irrefl _)
/-- every object of the heap is kept -/
theorem HOk.kept (x : HOk P w H h) (k : ∀ b u, h.get? b = some u → h'.get? b = some u) : HOk P w H h' := fun a o e =>
  (x a o e).stay (fun b u _ q => k b u q) (fun _ q => q) fun _ _ q => q
/-- a new object is laid and tracked -/
theorem HOk.laid (x : HOk P w H h) (k : ∀ b u, h.get? b = some u → h'.get? b = some u) (hp : h.objs.size ≤ a) (new : ObjOk P w (upd H a o) h' a o) : HOk P w (upd H a o) h' := fun b u e => by
  have hn := x.fresh hp
  by_cases hb : b = a
  · subst hb; rw [upd_same] at e; cases e; exact new
  · rw [upd_ne hb] at e
    exact (x b u e).stay (fun c v _ q => k c v q) (fun c q => by rw [upd_ne (ne_of_none q hn)]; exact q) fun c xs q => by rw [upd_ne (ne_of_none q hn)]; exact q
end

/-- what may be read as u: it is u, or a known u -/
def Rd (H : Hp) (a : Addr) (u : HO) : Prop := H a = some u ∨ ∃ o, H a = some (.frz o u)
theorem Rd.ok {P : Program} {w : World} {H : Hp} {h : Heap} {a : Addr} {u : HO} (r : Rd H a u) (x : HOk P w H h) : ObjOk P w H h a u := by
  rcases r with r | ⟨o, r⟩
  · exact x a u r
  · obtain ⟨_, q⟩ := x a _ r
    exact q
/-- what may be written -/
def Mut : Option HO → Prop
  | some (.lst _) => True
  | some (.dK _) => True
  | some (.dT _) => True
  | some (.set _ _) => True
  | some (.ins _ _ _) => True
  | some (.ext _) => True
  | _ => False
section
variable {P : Program} {w : World} {H : Hp} {h h' : Heap} {x e : Addr} {o' : HO}
/-- the object at e is changed: x itself, or the dict of the instance x -/
theorem HOk.write (ok : HOk P w H h) (mu : Mut (H x)) (he : e = x ∨ H e = some (.own x)) (k : ∀ b u, b ≠ e → h.get? b = some u → h'.get? b = some u) (heo : ∃ u, h'.get? e = some u)
    (new : ObjOk P w (upd H x o') h' x o') : HOk P w (upd H x o') h' := fun b u q => by
  have nown : ∀ c y, H c = some (.own y) → c ≠ x := fun c y r z => by subst z; rw [r] at mu; exact mu
  have ntup : ∀ c xs, H c = some (.tup xs) → c ≠ x := fun c xs r z => by subst z; rw [r] at mu; exact mu
  by_cases hb : b = x
  · subst hb; rw [upd_same] at q; cases q; exact new
  · rw [upd_ne hb] at q
    by_cases hbe : b = e
    · have q' : H b = some (.own x) := by
        rcases he with z | z
        · exact absurd (hbe.trans z) hb
        · rw [hbe]; exact z
      rw [q] at q'; cases q'
      obtain ⟨v, hv⟩ := heo
      exact ⟨v, by rw [hbe]; exact hv⟩
    · refine (ok b u q).stay (fun c v hc r => k c v ?_ r) (fun c r => by rw [upd_ne (nown c b r)]; exact r) fun c xs r => by rw [upd_ne (ntup c xs r)]; exact r
      rcases hc with rfl | hc
      · exact hbe
      · rintro rfl
        rcases he with z | z
        · exact nown c b hc z
        · rw [hc] at z; cases z; exact hb rfl
end

/-! ### kept unless tracked; of the frames at fs (the callers') the slots may change (an exception that passes writes there); of the records at ex (iterators) nothing is said -/
structure Un (fs ex : List Addr) (H H' : Hp) (h h' : Heap) : Prop where
  keep : ∀ b o, h.get? b = some o → H b = none → b ∉ fs → b ∉ ex → h'.get? b = some o
  slot : ∀ b o, h.get? b = some o → H b = none → b ∈ fs → b ∉ ex → ∃ sl, h'.get? b = some { o with slots := sl }
  free : ∀ b o, h.get? b = some o → H b = none → b ∉ ex → H' b = none
  there : ∀ b o, h.get? b = some o → b ∉ ex → ∃ o', h'.get? b = some o'
  tups : ∀ b xs, H b = some (.tup xs) → H' b = some (.tup xs)
  frzs : ∀ b o u, H b = some (.frz o u) → H' b = some (.frz o u)
  tbls : ∀ b ps, H b = some (.tbl ps) → ∃ more, H' b = some (.tbl (ps ++ more))
section
variable {fs fs' ex ex' : List Addr} {H H1 H2 : Hp} {h h1 h2 h' : Heap} {a x e : Addr} {o : HO}
theorem Un.any (u : Un fs ex H H1 h h1) {b : Addr} {ob : Obj} (q : h.get? b = some ob) (n : H b = none) (hx : b ∉ ex) : ∃ sl, h1.get? b = some { ob with slots := sl } := by
  by_cases hb : b ∈ fs
  · exact u.slot b ob q n hb hx
  · exact ⟨ob.slots, u.keep b ob q n hb hx⟩
theorem Un.kept (k : ∀ b u, h.get? b = some u → h'.get? b = some u) : Un fs ex H H h h' :=
  ⟨fun b ob q _ _ _ => k b ob q, fun b ob q _ _ _ => ⟨ob.slots, k b ob q⟩, fun _ _ _ n _ => n, fun b ob q _ => ⟨ob, k b ob q⟩, fun _ _ q => q, fun _ _ _ q => q, fun _ ps q => ⟨#[], by rw [q]; simp⟩⟩
theorem Un.refl : Un fs ex H H h h := Un.kept fun _ _ q => q
theorem Un.laid (k : ∀ b u, h.get? b = some u → h'.get? b = some u) (hp : h.objs.size ≤ a) (hn : H a = none) : Un fs ex H (upd H a o) h h' where
  keep := fun b u q _ _ _ => k b u q
  slot := fun b u q _ _ _ => ⟨u.slots, k b u q⟩
  free := fun b u q n _ => by rw [upd_ne (Nat.ne_of_lt (Nat.lt_of_lt_of_le (Heap.lt_size q) hp))]; exact n
  there := fun b u q _ => ⟨u, k b u q⟩
  tups := fun b xs q => by rw [upd_ne (ne_of_none q hn)]; exact q
  frzs := fun b u xs q => by rw [upd_ne (ne_of_none q hn)]; exact q
  tbls := fun b ps q => ⟨#[], by rw [upd_ne (ne_of_none q hn), q]; simp⟩
theorem Un.write (mu : Mut (H x)) (he : e = x ∨ H e = some (.own x)) (k : ∀ b u, b ≠ e → h.get? b = some u → h'.get? b = some u) (heo : ∃ u, h'.get? e = some u) : Un fs ex H (upd H x o) h h' := by
  have hx : ∀ b, H b = none → b ≠ x := fun b n z => by subst z; rw [n] at mu; exact mu
  have hb : ∀ b, H b = none → b ≠ e := fun b n z => by
    subst z
    rcases he with r | r
    · exact hx b n r
    · rw [n] at r; cases r
  have hm : ∀ b u, H b = some u → ¬ Mut (some u) → b ≠ x := fun b u q nm z => by subst z; rw [q] at mu; exact nm mu
  refine ⟨fun b u q n _ _ => k b u (hb b n) q, fun b u q n _ _ => ⟨u.slots, k b u (hb b n) q⟩, fun b u q n _ => by rw [upd_ne (hx b n)]; exact n, fun b u q _ => ?_,
    fun b xs q => by rw [upd_ne (hm b _ q fun z => z)]; exact q, fun b u xs q => by rw [upd_ne (hm b _ q fun z => z)]; exact q, fun b ps q => ⟨#[], by rw [upd_ne (hm b _ q fun z => z), q]; simp⟩⟩
  by_cases hbe : b = e
  · subst hbe; exact heo
  · exact ⟨u, k b u hbe q⟩
end

/-! ### the heap without what is tracked -/
def trk (h : Heap) (H : Hp) : List Addr := (List.range h.objs.size).filter fun a => (H a).isSome
def hidT (h : Heap) (H : Hp) : Heap := PySem.W.hideAll h (trk h H)
theorem hidT_size (h : Heap) (H : Hp) : (hidT h H).objs.size = h.objs.size := PySem.W.hideAll_size _ _
theorem hidT_get {h : Heap} {H : Hp} {b : Addr} {o : Obj} (e : h.get? b = some o) (n : H b = none) : (hidT h H).get? b = some o :=
  PySem.W.hideAll_get _ e fun hm => by
    have q : (H b).isSome = true := (List.mem_filter.mp hm).2
    rw [n] at q; simp at q
theorem of_hidT {h : Heap} {H : Hp} {b : Addr} {o : Obj} (e : (hidT h H).get? b = some o) : h.get? b = some o ∧ H b = none := by
  have e' : h.get? b = some o := PySem.W.of_hideAll (trk h H) e
  refine ⟨e', ?_⟩
  cases q : H b with
  | none => rfl
  | some x =>
    have hm : b ∈ trk h H := List.mem_filter.mpr ⟨List.mem_range.mpr (Heap.lt_size e'), by simp [q]⟩
    have z : (hidT h H).get? b = none := PySem.W.hideAll_none (trk h H) hm
    rw [z] at e; cases e

end L2

namespace L2
open PySem PySem.Spec PyProof.Rows

/-- the module's facts, over the base: the heap at the law's entry without what is tracked there -/
structure Mod (K : PySem.W.Frag) (mg : Str → Option Value) (base : Heap) : Prop where
  kin : K.In base
  glob : base.Ns mainGlobals mg
  blt : ∃ mb, base.Ns builtinsNs mb ∧ ∀ x : Str, x ≠ "__name__" → mb x = bootBuiltins x
  nolimit : base.NoLimit

/-- the context: a def's body (or a comprehension's block) running. base: fixed through the whole law; s₀, H₀: the entry; outer: the frames whose slots others may change (a def's callers); stack: all frames that run;
   ex: iterators that were made ahead of the entry and are walked here (a comprehension's); fn: the names whose cells were made at the entry (a def: all; a comprehension's block: its own); calm: not within an except suite; pn: pins that every state bears; xe: what is wanted of an exception that leaves the code -/
structure Cx where
  prog : Program
  w : World
  K : PySem.W.Frag
  mg : Str → Option Value
  base : Heap
  A : Around
  N : List Str
  s₀ : Shared
  H₀ : Hp
  env : Env
  outer : List Env
  stack : List Env
  ex : List Addr
  fn : Str → Bool
  calm : Bool
  pn : List (Addr × Obj)
  xe : Value → Shared → Prop
/-- the callers' frames -/
def frs (l : List Env) : List Addr := l.filterMap (·.frame)
abbrev Cx.fs (X : Cx) : List Addr := frs X.outer

def Vis (sc : Scope) (x : Str) : Prop := sc.names.lookup x = some .local ∨ sc.names.lookup x = some .cell ∨ sc.names.lookup x = some .free
def Loc (sc : Scope) (x : Str) : Prop := sc.names.lookup x = some .local ∨ sc.names.lookup x = some .cell
def Look (env : Env) (h : Heap) (m : Str → Option Value) (x : Str) (u : Value) : Prop :=
  (env.kindOf x = some .local ∧ m x = some u) ∨ ((env.kindOf x = some .cell ∨ env.kindOf x = some .free) ∧ ∃ c, env.cells.lookup x = some c ∧ h.IsCell c (some u))

structure Cx.Ok (X : Cx) : Prop where
  mod : Mod X.K X.mg X.base
  kind : X.env.scope.kind = .function
  glob : X.env.globals = mainGlobals
  blt : X.env.builtins = builtinsNs
  above : X.s₀.heap.objs.size ≤ X.env.locals
  inj : ∀ x y c, X.env.cells.lookup x = some c → X.env.cells.lookup y = some c → x = y
  has : ∀ x, (X.env.kindOf x = some .cell ∨ X.env.kindOf x = some .free) → ∃ c, X.env.cells.lookup x = some c
  cab : ∀ x c, X.fn x = true → X.env.cells.lookup x = some c → X.s₀.heap.objs.size ≤ c
  hd : X.calm = true → X.A.handled = none
  frames : X.A.frames = some X.stack
  stk : X.stack = X.outer ∨ (X.stack = X.env :: X.outer ∧ X.env.frame = some X.env.locals)
  exf : ∀ b ∈ X.ex, b ≠ X.env.locals ∧ ∀ x c, X.env.cells.lookup x = some c → c ≠ b
  bs : ∀ b o, X.base.get? b = some o → X.s₀.heap.get? b = some o ∧ X.H₀ b = none
  bsz : X.base.objs.size ≤ X.s₀.heap.objs.size
  noex : ∀ b o, X.base.get? b = some o → b ∉ X.ex
  exfs : ∀ b ∈ X.ex, b ∉ X.fs
  funs : X.s₀.heap.FunFrames X.base X.outer
  frf : ∀ b ∈ X.fs, X.H₀ b = none

structure Inv (X : Cx) (pins : List (Addr × Obj)) (σ : List (Option V)) (H : Hp) (s : Shared) : Prop where
  ok : X.Ok
  os : s.os = X.s₀.os
  bare : AllBare s.gens
  base : Un X.fs X.ex X.H₀ H X.s₀.heap s.heap
  loc : ∃ m, s.heap.Ns X.env.locals m ∧ ∀ (i : Nat) (x : Str) (v : V), X.N[i]? = some x → σ[i]? = some (some v) → Vis X.env.scope x → ∃ u, RelV v u ∧ Look X.env s.heap m x u
  cell : ∀ x c, X.env.cells.lookup x = some c → ∃ v, s.heap.IsCell c v
  free : H X.env.locals = none
  freeC : ∀ x c, X.env.cells.lookup x = some c → H c = none
  pin : ∀ p ∈ X.pn ++ pins, s.heap.get? p.1 = some p.2 ∧ H p.1 = none ∧ p.1 ≠ X.env.locals ∧ p.1 ∉ X.fs ∧ ∀ v, p.2.data ≠ .cell v
  hok : HOk X.prog X.w H s.heap
  len : σ.length = X.N.length

section
variable {X : Cx} {pins : List (Addr × Obj)} {σ : List (Option V)} {H H' : Hp} {s : Shared} {h' : Heap}

theorem Cx.Ok.nofr (ok : X.Ok) {b : Addr} {o : Obj} (e : X.base.get? b = some o) : b ∉ X.fs := fun hb => by
  have := (ok.funs.mem hb).1
  rw [e] at this; cases this
theorem Inv.bs (I : Inv X pins σ H s) : ∀ b o, X.base.get? b = some o → s.heap.get? b = some o ∧ H b = none := fun b o e =>
  ⟨I.base.keep b o (I.ok.bs b o e).1 (I.ok.bs b o e).2 (I.ok.nofr e) (I.ok.noex b o e), I.base.free b o (I.ok.bs b o e).1 (I.ok.bs b o e).2 (I.ok.noex b o e)⟩
theorem Inv.bk (I : Inv X pins σ H s) : ∀ b o, X.base.get? b = some o → s.heap.get? b = some o := fun b o e => (I.bs b o e).1
theorem Inv.mod (I : Inv X pins σ H s) : Mod X.K X.mg X.base := I.ok.mod
theorem Inv.kIn (I : Inv X pins σ H s) : X.K.In s.heap := I.ok.mod.kin.keeps I.bk
theorem Inv.lt (I : Inv X pins σ H s) : X.env.locals < s.heap.objs.size := let ⟨_, hn, _⟩ := I.loc; hn.lt
theorem Inv.sz (I : Inv X pins σ H s) : X.s₀.heap.objs.size ≤ s.heap.objs.size := Nat.le_trans I.ok.above (Nat.le_of_lt I.lt)
theorem Inv.nofs (I : Inv X pins σ H s) {a : Addr} (h : s.heap.objs.size ≤ a) : a ∉ X.fs := fun hb => by
  obtain ⟨_, o, ho, _⟩ := I.ok.funs.mem hb
  exact absurd (Nat.lt_of_lt_of_le (Heap.lt_size ho) (Nat.le_trans I.sz h)) (Nat.lt_irrefl _)
theorem Inv.cne (I : Inv X pins σ H s) : ∀ x c, X.env.cells.lookup x = some c → c ≠ X.env.locals := fun x c e z => by
  obtain ⟨v, o, ho, hd⟩ := I.cell x c e
  obtain ⟨m, ⟨o', es, ep, ho', hd', _⟩, _⟩ := I.loc
  rw [z, ho'] at ho; cases ho; rw [hd'] at hd; cases hd
theorem Inv.funs (I : Inv X pins σ H s) : s.heap.FunFrames X.base X.outer := by
  have all : ∀ (l : List Env), (∀ b ∈ frs l, b ∈ X.fs) → X.s₀.heap.FunFrames X.base l → s.heap.FunFrames X.base l := by
    intro l
    induction l with
    | nil => intro _ _; trivial
    | cons env r ih =>
      intro hs hl
      obtain ⟨hk, ⟨L, o, hf, hn, ho, hd⟩, hr⟩ := hl
      have hL : L ∈ X.fs := hs L (by unfold frs; rw [List.filterMap_cons, hf]; exact List.mem_cons_self)
      obtain ⟨sl, e⟩ := I.base.slot L o ho (I.ok.frf L hL) hL fun z => I.ok.exfs L z hL
      exact ⟨hk, ⟨L, _, hf, hn, e, hd⟩, ih (fun b hb => hs b (by unfold frs; rw [List.filterMap_cons, hf]; exact List.mem_cons_of_mem _ hb)) hr⟩
  exact all X.outer (fun _ hb => hb) I.ok.funs

/-- the frames that run, for a call -/
theorem Inv.stack (I : Inv X pins σ H s) : s.heap.FunFrames X.base X.stack := by
  rcases I.ok.stk with e | ⟨e, hf⟩
  · rw [e]; exact I.funs
  · rw [e]
    obtain ⟨m, hn, _⟩ := I.loc
    refine .cons (by rw [I.ok.kind]; decide) hf hn ?_ I.funs
    exact Heap.get?_none_of_le (Nat.le_trans I.ok.bsz I.ok.above)
theorem Inv.stkSub (I : Inv X pins σ H s) : ∀ b ∈ frs X.stack, b ∈ X.env.locals :: X.fs := fun b hb => by
  rcases I.ok.stk with e | ⟨e, hf⟩
  · rw [e] at hb; exact List.mem_cons_of_mem _ hb
  · rw [e] at hb
    unfold frs at hb
    rw [List.filterMap_cons, hf] at hb
    exact hb
theorem Inv.stkFree (I : Inv X pins σ H s) : ∀ b ∈ frs X.stack, H b = none := fun b hb => by
  rcases List.mem_cons.mp (I.stkSub b hb) with e | hb
  · rw [e]; exact I.free
  · obtain ⟨_, o, ho, _⟩ := I.ok.funs.mem hb
    exact I.base.free b o ho (I.ok.frf b hb) fun z => I.ok.exfs b z hb

/-- THE STEP: the untracked objects but the frame and the records at ch are kept (the callers' frames up to slots), the frame's map is kept, the new abstract heap is held -/
theorem Inv.step {g' : Array GenState} {t' : Nat} {d' : Drawn} {ch : List Addr} (I : Inv X pins σ H s)
    (hch : ∀ b ∈ ch, (b ∈ X.ex ∨ X.s₀.heap.objs.size ≤ b) ∧ b ≠ X.env.locals ∧ (∀ x c, X.env.cells.lookup x = some c → c ≠ b) ∧ ∀ p ∈ X.pn ++ pins, p.1 ≠ b)
    (keep : ∀ b o, b ≠ X.env.locals → b ∉ X.fs → b ∉ ch → s.heap.get? b = some o → H b = none → h'.get? b = some o)
    (slot : ∀ b o, b ≠ X.env.locals → b ∈ X.fs → b ∉ ch → s.heap.get? b = some o → H b = none → ∃ sl, h'.get? b = some { o with slots := sl }) (free : ∀ b o, b ∉ ch → s.heap.get? b = some o → H b = none → H' b = none)
    (there : ∀ b o, b ∉ ch → s.heap.get? b = some o → ∃ o', h'.get? b = some o')
    (tups : ∀ b xs, H b = some (.tup xs) → H' b = some (.tup xs)) (frzs : ∀ b o u, H b = some (.frz o u) → H' b = some (.frz o u)) (tbls : ∀ b ps, H b = some (.tbl ps) → ∃ more, H' b = some (.tbl (ps ++ more)))
    (ns : ∀ m, s.heap.Ns X.env.locals m → h'.Ns X.env.locals m) (hok : HOk X.prog X.w H' h') (hg : AllBare g') :
    Inv X pins σ H' { s with heap := h', gens := g', drawn := d', toks := t' } := by
  have neL : ∀ b o, X.s₀.heap.get? b = some o → b ≠ X.env.locals := fun b o e => Nat.ne_of_lt (Nat.lt_of_lt_of_le (Heap.lt_size e) I.ok.above)
  have neC : ∀ b o, X.s₀.heap.get? b = some o → b ∉ X.ex → b ∉ ch := fun b o e hx hb => by
    rcases (hch b hb).1 with z | z
    · exact hx z
    · exact absurd (Nat.lt_of_lt_of_le (Heap.lt_size e) z) (Nat.lt_irrefl _)
  have cellK : ∀ x c, X.env.cells.lookup x = some c → ∀ v, s.heap.IsCell c v → h'.IsCell c v := fun x c e v ⟨o, ho, hd⟩ => by
    have nch : c ∉ ch := fun z => (hch c z).2.2.1 x c e rfl
    by_cases hc : c ∈ X.fs
    · obtain ⟨sl, q⟩ := slot c o (I.cne x c e) hc nch ho (I.freeC x c e)
      exact ⟨_, q, hd⟩
    · exact ⟨o, keep c o (I.cne x c e) hc nch ho (I.freeC x c e), hd⟩
  refine ⟨I.ok, I.os, hg, ⟨fun b o e n hb hx => ?_, fun b o e n hb hx => ?_, fun b o e n hx => ?_, fun b o e hx => ?_, fun b xs e => tups b xs (I.base.tups b xs e), fun b o xs e => frzs b o xs (I.base.frzs b o xs e), fun b ps e => ?_⟩, ?_, fun x c e => ?_, ?_, fun x c e => ?_, fun p hp => ?_, hok, I.len⟩
  · exact keep b o (neL b o e) hb (neC b o e hx) (I.base.keep b o e n hb hx) (I.base.free b o e n hx)
  · obtain ⟨sl, e1⟩ := I.base.slot b o e n hb hx
    obtain ⟨sl', e2⟩ := slot b _ (neL b o e) hb (neC b o e hx) e1 (I.base.free b o e n hx)
    exact ⟨sl', e2⟩
  · obtain ⟨o', e1⟩ := I.base.there b o e hx
    exact free b o' (neC b o e hx) e1 (I.base.free b o e n hx)
  · obtain ⟨o', e1⟩ := I.base.there b o e hx
    exact there b o' (neC b o e hx) e1
  · obtain ⟨m1, e1⟩ := I.base.tbls b ps e
    obtain ⟨m2, e2⟩ := tbls b _ e1
    exact ⟨m1 ++ m2, by rw [e2, Array.append_assoc]⟩
  · obtain ⟨m, hn, hl⟩ := I.loc
    refine ⟨m, ns m hn, fun i x v e1 e2 e3 => ?_⟩
    obtain ⟨u, r, l⟩ := hl i x v e1 e2 e3
    refine ⟨u, r, ?_⟩
    rcases l with l | ⟨k, c, e, z⟩
    · exact .inl l
    · exact .inr ⟨k, c, e, cellK x c e _ z⟩
  · obtain ⟨v, z⟩ := I.cell x c e
    exact ⟨v, cellK x c e v z⟩
  · obtain ⟨m, ⟨o, _, _, ho, _⟩, _⟩ := I.loc
    exact free _ o (fun z => (hch _ z).2.1 rfl) ho I.free
  · obtain ⟨v, o, ho, hd⟩ := I.cell x c e
    exact free c o (fun z => (hch c z).2.2.1 x c e rfl) ho (I.freeC x c e)
  · obtain ⟨e, n, ne, nf, d⟩ := I.pin p hp
    have nch : p.1 ∉ ch := fun z => (hch p.1 z).2.2.2 p hp rfl
    exact ⟨keep p.1 p.2 ne nf nch e n, free p.1 p.2 nch e n, ne, nf, d⟩
/-- .. where the frame's own object is kept too -/
theorem Inv.un {t' : Nat} (I : Inv X pins σ H s) (u : Un X.fs [] H H' s.heap h') (hok : HOk X.prog X.w H' h') : Inv X pins σ H' { s with heap := h', toks := t' } := by
  obtain ⟨m, ⟨o, es, ep, ho, r⟩, _⟩ := id I.loc
  obtain ⟨sl, hL⟩ := u.any ho I.free (by simp)
  exact I.step (g' := s.gens) (d' := s.drawn) (ch := []) (fun _ z => nomatch z) (fun b o _ hb _ e n => u.keep b o e n hb (by simp)) (fun b o _ hb _ e n => u.slot b o e n hb (by simp)) (fun b o _ e n => u.free b o e n (by simp)) (fun b o _ e => u.there b o e (by simp)) u.tups u.frzs u.tbls (fun m' hm => by
    obtain ⟨o', es', ep', ho', r'⟩ := hm
    rw [ho] at ho'; cases ho'
    exact ⟨_, es', ep', hL, r'⟩) hok I.bare
/-- behind a call (or a comprehension's block): the slots of this frame may have changed too, the records at ch may have turned -/
theorem Inv.call {g' : Array GenState} {t' : Nat} {d' : Drawn} {ch : List Addr} (I : Inv X pins σ H s) (u : Un (frs X.stack) ch H H' s.heap h') (hok : HOk X.prog X.w H' h') (hg : AllBare g')
    (hch : ∀ b ∈ ch, (b ∈ X.ex ∨ X.s₀.heap.objs.size ≤ b) ∧ b ≠ X.env.locals ∧ (∀ x c, X.env.cells.lookup x = some c → c ≠ b) ∧ ∀ p ∈ X.pn ++ pins, p.1 ≠ b) :
    Inv X pins σ H' { s with heap := h', gens := g', drawn := d', toks := t' } := by
  obtain ⟨m, ⟨o, es, ep, ho, r⟩, _⟩ := id I.loc
  obtain ⟨sl, hL⟩ := u.any ho I.free fun z => (hch _ z).2.1 rfl
  exact I.step (ch := ch) hch (fun b o hL hb hc e n => u.keep b o e n (fun z => (List.mem_cons.mp (I.stkSub b z)).elim hL hb) hc) (fun b o _ _ hc e n => u.any e n hc) (fun b o hc e n => u.free b o e n hc) (fun b o hc e => u.there b o e hc) u.tups u.frzs u.tbls (fun m' hm => by
    obtain ⟨o', es', ep', ho', r'⟩ := hm
    rw [ho] at ho'; cases ho'
    exact ⟨_, es', ep', hL, r'⟩) hok hg
/-- an untracked record of ours (an iterator) has turned -/
theorem Inv.turned {t' : Nat} {it : Addr} (I : Inv X pins σ H s) (k : ∀ b o, b ≠ it → s.heap.get? b = some o → h'.get? b = some o) (hn : H it = none) (hL : it ≠ X.env.locals)
    (h1 : it ∈ X.ex ∨ X.s₀.heap.objs.size ≤ it) (h2 : ∀ x c, X.env.cells.lookup x = some c → c ≠ it) (h3 : ∀ p ∈ X.pn ++ pins, p.1 ≠ it) : Inv X pins σ H { s with heap := h', toks := t' } := by
  have nit : ∀ b u, H b = some u → b ≠ it := fun b u e z => by rw [z, hn] at e; cases e
  refine I.step (g' := s.gens) (d' := s.drawn) (ch := [it]) (fun b hb => ?_) (fun b o _ _ hc e _ => k b o (fun z => hc (by simp [z])) e) (fun b o _ _ hc e _ => ⟨o.slots, k b o (fun z => hc (by simp [z])) e⟩) (fun _ _ _ _ n => n)
    (fun b o hc e => ⟨o, k b o (fun z => hc (by simp [z])) e⟩) (fun _ _ e => e) (fun _ _ _ e => e) (fun b ps e => ⟨#[], by rw [e]; simp⟩) (fun m hm => ?_) (fun b u e => ?_) I.bare
  · have e : b = it := by simpa using hb
    subst e
    exact ⟨h1, hL, h2, h3⟩
  · obtain ⟨o, es, ep, ho, r⟩ := hm
    exact ⟨o, es, ep, k _ o (Ne.symm hL) ho, r⟩
  · refine (I.hok b u e).stay (fun c v hc q => k c v ?_ q) (fun _ q => q) fun _ _ q => q
    rcases hc with z | z
    · rw [z]; exact nit b u e
    · exact nit c _ z
theorem Inv.tok (I : Inv X pins σ H s) (t : Nat) : Inv X pins σ H { s with toks := t } := I.un (h' := s.heap) (t' := t) Un.refl I.hok
/-- all objects kept -/
theorem Inv.kept {t' : Nat} (I : Inv X pins σ H s) (k : ∀ b u, s.heap.get? b = some u → h'.get? b = some u) : Inv X pins σ H { s with heap := h', toks := t' } := I.un (Un.kept k) (I.hok.kept k)
/-- a new object laid and tracked -/
theorem Inv.laid {a : Addr} {o : HO} {t' : Nat} (I : Inv X pins σ H s) (k : ∀ b u, s.heap.get? b = some u → h'.get? b = some u) (hp : s.heap.objs.size ≤ a) (new : ObjOk X.prog X.w (upd H a o) h' a o) :
    Inv X pins σ (upd H a o) { s with heap := h', toks := t' } := I.un (Un.laid k hp (I.hok.fresh hp)) (I.hok.laid k hp new)
/-- an object written -/
theorem Inv.write {x e : Addr} {o : HO} {t' : Nat} (I : Inv X pins σ H s) (mu : Mut (H x)) (he : e = x ∨ H e = some (.own x)) (k : ∀ b u, b ≠ e → s.heap.get? b = some u → h'.get? b = some u) (heo : ∃ u, h'.get? e = some u)
    (new : ObjOk X.prog X.w (upd H x o) h' x o) : Inv X pins σ (upd H x o) { s with heap := h', toks := t' } := I.un (Un.write mu he k heo) (I.hok.write mu he k heo new)
theorem Inv.pins_of {pins' : List (Addr × Obj)} (I : Inv X pins σ H s) (h : ∀ p ∈ pins', s.heap.get? p.1 = some p.2 ∧ H p.1 = none ∧ p.1 ≠ X.env.locals ∧ p.1 ∉ X.fs ∧ ∀ v, p.2.data ≠ .cell v) : Inv X pins' σ H s :=
  ⟨I.ok, I.os, I.bare, I.base, I.loc, I.cell, I.free, I.freeC, fun p hp => (List.mem_append.mp hp).elim (fun z => I.pin p (List.mem_append_left _ z)) (h p), I.hok, I.len⟩

theorem nodup_ix {N : List Str} (hN : N.Nodup) {i j : Nat} {x : Str} (a : N[i]? = some x) (b : N[j]? = some x) : i = j := by
  obtain ⟨h1, e1⟩ := List.getElem?_eq_some_iff.mp a
  obtain ⟨h2, e2⟩ := List.getElem?_eq_some_iff.mp b
  exact (List.getElem_inj hN).mp (e1.trans e2.symm)

/-- a name is stored; what changed -/
theorem store_ok2 {M : Model} {A : Around} {E : Value → Shared → Prop} {i : Nat} {x : Str} {v : V} {u : Value} {Q : Unit → Shared → Prop} (I : Inv X pins σ H s) (hN : X.N.Nodup) (hi : X.N[i]? = some x) (hx : Loc X.env.scope x) (r : RelV v u)
    (h : ∀ s', Inv X pins (σ.set i (some v)) H s' → (∃ a, Heap.SameBut a s.heap s'.heap ∧ (a = X.env.locals ∨ X.env.cells.lookup x = some a)) → Q () s') (hf : X.fn x = true ∨ X.env.scope.names.lookup x = some .local := by first | exact .inl rfl | exact .inr rfl | assumption) : wpAny M A (storeName X.env x u) Q E s := by
  obtain ⟨m, hn, hl⟩ := id I.loc
  have hcls : (X.env.scope.kind == .class || (X.env.scope.kind == .module && X.env.locals != X.env.globals)) = false := by rw [I.ok.kind]; rfl
  have hiσ : i < σ.length := by rw [I.len]; exact (List.getElem?_eq_some_iff.mp hi).1
  have cne := I.cne
  have tracked : ∀ {a : Addr} {h' : Heap}, (∃ o, s.heap.get? a = some o ∧ H a = none) → Heap.SameBut a s.heap h' → HOk X.prog X.w H h' := fun {a h'} ha hs b ob e => by
    obtain ⟨_, _, hfree⟩ := ha
    refine (I.hok b ob e).stay (fun c w' hc q => (hs.2 c ?_).trans q) (fun _ q => q) fun _ _ q => q
    rintro rfl
    rcases hc with rfl | hc
    · rw [hfree] at e; cases e
    · rw [hfree] at hc; cases hc
  rcases hx with hk | hk
  · refine wpAny_storeName_local hk hn (fun h' hn' hs => ?_) hcls
    obtain ⟨oL, _, _, hoL, _⟩ := id hn
    refine h _ ⟨I.ok, I.os, I.bare, ⟨fun b o e n hb hx => ?_, fun b o e n hb hx => ?_, I.base.free, fun b o e hx => ?_, I.base.tups, I.base.frzs, I.base.tbls⟩, ⟨_, hn', fun j y v' e1 e2 e3 => ?_⟩, fun y c e => ?_, I.free, I.freeC, fun p hp => ?_, tracked ⟨oL, hoL, I.free⟩ hs, by simpa using I.len⟩ ⟨_, hs, .inl rfl⟩
    · exact (hs.2 b (Nat.ne_of_lt (Nat.lt_of_lt_of_le (Heap.lt_size e) I.ok.above))).trans (I.base.keep b o e n hb hx)
    · obtain ⟨sl, e1⟩ := I.base.slot b o e n hb hx
      exact ⟨sl, (hs.2 b (Nat.ne_of_lt (Nat.lt_of_lt_of_le (Heap.lt_size e) I.ok.above))).trans e1⟩
    · obtain ⟨o', e1⟩ := I.base.there b o e hx
      exact ⟨o', (hs.2 b (Nat.ne_of_lt (Nat.lt_of_lt_of_le (Heap.lt_size e) I.ok.above))).trans e1⟩
    · by_cases hj : j = i
      · subst hj
        rw [hi] at e1; cases e1
        rw [List.getElem?_set_self hiσ] at e2
        cases e2
        exact ⟨u, r, .inl ⟨hk, by simp⟩⟩
      · rw [List.getElem?_set_ne (Ne.symm hj)] at e2
        obtain ⟨u', r', q⟩ := hl j y v' e1 e2 e3
        refine ⟨u', r', ?_⟩
        rcases q with ⟨k, e⟩ | ⟨k, c, e, z⟩
        · refine .inl ⟨k, ?_⟩
          have : y ≠ x := fun e => hj (nodup_ix hN e1 (e ▸ hi))
          simp [this, e]
        · exact .inr ⟨k, c, e, z.sameBut hs (cne y c e)⟩
    · obtain ⟨w', z⟩ := I.cell y c e
      exact ⟨w', z.sameBut hs (cne y c e)⟩
    · obtain ⟨e, n, ne, nf, d⟩ := I.pin p hp
      exact ⟨(hs.2 p.1 ne).trans e, n, ne, nf, d⟩
  · have hfn : X.fn x = true := by
      rcases hf with z | z
      · exact z
      · rw [z] at hk; cases hk
    obtain ⟨c, hc⟩ := I.ok.has x (.inl hk)
    obtain ⟨w', z⟩ := I.cell x c hc
    refine wpAny_storeName_cell I.ok.kind hk hc z (fun h' hc' hs => ?_)
    obtain ⟨oc, hoc, hocd⟩ := id z
    refine h { s with heap := h' } ⟨I.ok, I.os, I.bare, ⟨fun b o e n hb hx => ?_, fun b o e n hb hx => ?_, I.base.free, fun b o e hx => ?_, I.base.tups, I.base.frzs, I.base.tbls⟩, ⟨m, hn.sameBut hs (Ne.symm (cne x c hc)), fun j y v' e1 e2 e3 => ?_⟩, fun y c' e => ?_, I.free, I.freeC, fun p hp => ?_, tracked ⟨oc, hoc, I.freeC x c hc⟩ hs, by simpa using I.len⟩ ⟨c, hs, .inr hc⟩
    · exact (hs.2 b (Nat.ne_of_lt (Nat.lt_of_lt_of_le (Heap.lt_size e) (I.ok.cab x c hfn hc)))).trans (I.base.keep b o e n hb hx)
    · obtain ⟨sl, e1⟩ := I.base.slot b o e n hb hx
      exact ⟨sl, (hs.2 b (Nat.ne_of_lt (Nat.lt_of_lt_of_le (Heap.lt_size e) (I.ok.cab x c hfn hc)))).trans e1⟩
    · obtain ⟨o', e1⟩ := I.base.there b o e hx
      exact ⟨o', (hs.2 b (Nat.ne_of_lt (Nat.lt_of_lt_of_le (Heap.lt_size e) (I.ok.cab x c hfn hc)))).trans e1⟩
    · by_cases hj : j = i
      · subst hj
        rw [hi] at e1; cases e1
        rw [List.getElem?_set_self hiσ] at e2
        cases e2
        exact ⟨u, r, .inr ⟨.inl hk, c, hc, hc'⟩⟩
      · rw [List.getElem?_set_ne (Ne.symm hj)] at e2
        obtain ⟨u', r', q⟩ := hl j y v' e1 e2 e3
        refine ⟨u', r', ?_⟩
        rcases q with q | ⟨k, c', e, z'⟩
        · exact .inl q
        · refine .inr ⟨k, c', e, z'.sameBut hs ?_⟩
          rintro rfl
          exact hj (nodup_ix hN e1 (I.ok.inj _ _ _ e hc ▸ hi))
    · by_cases hcc : c' = c
      · subst hcc; exact ⟨_, hc'⟩
      · obtain ⟨w2, z2⟩ := I.cell y c' e
        exact ⟨w2, z2.sameBut hs hcc⟩
    · obtain ⟨e, n, ne, nf, d⟩ := I.pin p hp
      refine ⟨(hs.2 p.1 ?_).trans e, n, ne, nf, d⟩
      intro q
      rw [q, hoc] at e
      have q' : oc = p.2 := Option.some.inj e
      exact d w' (by rw [← q']; exact hocd)
theorem store_ok {M : Model} {A : Around} {E : Value → Shared → Prop} {i : Nat} {x : Str} {v : V} {u : Value} {Q : Unit → Shared → Prop} (I : Inv X pins σ H s) (hN : X.N.Nodup) (hi : X.N[i]? = some x) (hx : Loc X.env.scope x) (r : RelV v u)
    (h : ∀ s', Inv X pins (σ.set i (some v)) H s' → Q () s') (hf : X.fn x = true ∨ X.env.scope.names.lookup x = some .local := by first | exact .inl rfl | exact .inr rfl | assumption) : wpAny M A (storeName X.env x u) Q E s :=
  store_ok2 I hN hi hx r (fun s' I' _ => h s' I') hf
/-- behind a call or a block, the state as it is -/
theorem Inv.call' {s' : Shared} {ch : List Addr} (I : Inv X pins σ H s) (ho : s'.os = s.os) (u : Un (frs X.stack) ch H H' s.heap s'.heap) (hok : HOk X.prog X.w H' s'.heap) (hg : AllBare s'.gens)
    (hch : ∀ b ∈ ch, (b ∈ X.ex ∨ X.s₀.heap.objs.size ≤ b) ∧ b ≠ X.env.locals ∧ (∀ x c, X.env.cells.lookup x = some c → c ≠ b) ∧ ∀ p ∈ X.pn ++ pins, p.1 ≠ b) : Inv X pins σ H' s' := by
  obtain ⟨h', g', d', t', o'⟩ := s'
  have e : o' = s.os := ho
  subst e
  exact I.call (g' := g') (t' := t') (d' := d') u hok hg hch
end

/-! ### the judgements -/
/-- an exception: its class, its own dict's address (where it has one), the abstract heap behind it -/
abbrev XK := Value → Option Addr → Hp → Prop
abbrev St := List (Option V)
abbrev VK := V → Hp → Prop
/-- an expression's reading; a test's; an argument list's -/
abbrev TE := St → Hp → VK → Prop
abbrev TT := St → Hp → (Bool → Hp → Prop) → Prop
abbrev TA := St → Hp → (List V → Hp → Prop) → Prop
/-- what is wanted behind a statement -/
structure Ends where
  nx : St → Hp → Prop
  rt : VK
  bk : St → Hp → Prop := fun _ _ => False
  ct : St → Hp → Prop := fun _ _ => False
abbrev TS := Ends → St → Hp → Prop

def EP (X : Cx) (pins : List (Addr × Obj)) (σ : St) (Q : VK) (u : Value) (s' : Shared) : Prop := ∃ v H', Inv X pins σ H' s' ∧ RelV v u ∧ Q v H'
def TP (X : Cx) (pins : List (Addr × Obj)) (σ : St) (Q : Bool → Hp → Prop) (b : Bool) (s' : Shared) : Prop := ∃ H', Inv X pins σ H' s' ∧ Q b H'
def AP (X : Cx) (pins : List (Addr × Obj)) (σ : St) (Q : List V → Hp → Prop) (us : List Value) (s' : Shared) : Prop := ∃ vs H', Inv X pins σ H' s' ∧ Vals vs us ∧ Q vs H'
def SP (X : Cx) (pins : List (Addr × Obj)) (D : Ends) (f : Flow) (s' : Shared) : Prop :=
  match f with
  | .next => ∃ σ' H', Inv X pins σ' H' s' ∧ D.nx σ' H'
  | .brk => ∃ σ' H', Inv X pins σ' H' s' ∧ D.bk σ' H'
  | .cont => ∃ σ' H', Inv X pins σ' H' s' ∧ D.ct σ' H'
  | .ret u => ∃ v σ' H', Inv X pins σ' H' s' ∧ RelV v u ∧ D.rt v H'

def PE (X : Cx) (e : Expr) (t : TE) : Prop :=
  ∀ (pins : List (Addr × Obj)) (s : Shared) (σ : St) (H : Hp) (Q : VK), Inv X pins σ H s → t σ H Q → wpAny (model X.prog X.w) X.A (eval e X.env) (EP X pins σ Q) X.xe s
def PT (X : Cx) (e : Expr) (t : TT) : Prop :=
  ∀ (pins : List (Addr × Obj)) (s : Shared) (σ : St) (H : Hp) (Q : Bool → Hp → Prop), Inv X pins σ H s → t σ H Q → wpAny (model X.prog X.w) X.A (isTrue e X.env (eval e X.env)) (TP X pins σ Q) X.xe s
/-- a test whatever its 'whole' is (and, or) -/
def PW (X : Cx) (e : Expr) (t : TT) : Prop :=
  ∀ (whole : Sem Value) (pins : List (Addr × Obj)) (s : Shared) (σ : St) (H : Hp) (Q : Bool → Hp → Prop), Inv X pins σ H s → t σ H Q → wpAny (model X.prog X.w) X.A (isTrue e X.env whole) (TP X pins σ Q) X.xe s
theorem PW.pt {X : Cx} {e : Expr} {t : TT} (h : PW X e t) : PT X e t := h _
/-- an argument list (no star), from the left -/
def PA (X : Cx) (es : List Expr) (t : TA) : Prop :=
  ∀ (pos : Pos) (pins : List (Addr × Obj)) (s : Shared) (σ : St) (H : Hp) (Q : List V → Hp → Prop), Inv X pins σ H s → t σ H Q → wpAny (model X.prog X.w) X.A (spliced (backTo pos (starEach es X.env))) (AP X pins σ Q) X.xe s
def PS (X : Cx) (st : Stmt) (t : TS) : Prop :=
  ∀ (pins : List (Addr × Obj)) (s : Shared) (σ : St) (H : Hp) (D : Ends), Inv X pins σ H s → t D σ H → wpAny (model X.prog X.w) X.A (exec st X.env) (SP X pins D) X.xe s
def PSs (X : Cx) (st : List Stmt) (t : TS) : Prop :=
  ∀ (pins : List (Addr × Obj)) (s : Shared) (σ : St) (H : Hp) (D : Ends), Inv X pins σ H s → t D σ H → wpAny (model X.prog X.w) X.A (execs st X.env) (SP X pins D) X.xe s
/-- weaken the end -/
theorem thn {α : Type} {t : Sem α} {Q Q' : α → Shared → Prop} {M : Model} {A : Around} {E : Value → Shared → Prop} {s : Shared} (h : wpAny M A t Q E s) (hQ : ∀ a s, Q a s → Q' a s) : wpAny M A t Q' E s := wpAny_mono h hQ fun _ _ x => x
end L2

namespace L2
open PySem PySem.Spec PyProof.Rows
section
variable {X : Cx}

/-! ### names and constants -/
def tVar (i : Nat) : TE := fun σ H Q => ∃ v, σ[i]? = some (some v) ∧ Q v H
def tC (v : V) : TE := fun _ H Q => Q v H
theorem pe_var {i : Nat} {x : Str} {pos : Pos} (hN : X.N[i]? = some x) (hv : Vis X.env.scope x) (hd : (x == ("__debug__" : Str)) = false := by decide) (hcd : (x == ("__classdict__" : Str)) = false := by decide) : PE X (.Name x pos) (tVar i) := by
  intro pins s σ H Q I h
  obtain ⟨v, e, h⟩ := h
  obtain ⟨m, hn, hl⟩ := I.loc
  obtain ⟨u, r, l⟩ := hl i x v hN e hv
  have fin : EP X pins σ Q u s := ⟨v, H, I, r, h⟩
  rcases l with ⟨hk, hm⟩ | ⟨hk, c, hc, hcell⟩
  · exact wpAny_Name (wpAny_loadName_local I.ok.kind hk hn hm fin) hd
  · rcases hk with hk | hk
    · exact wpAny_Name (wpAny_loadName_cell I.ok.kind hk hc hcell fin) hd
    · exact wpAny_Name (wpAny_loadName_free I.ok.kind hk hc hcell fin hcd) hd
theorem pe_int {i j pos} : PE X (.Constant (.int i) j pos) (tC (.int i)) := fun _ _ _ H _ I h => wpAny_Constant_int ⟨.int i, H, I.tok _, ⟨_, rfl⟩, h⟩
theorem pe_bl {b j pos} : PE X (.Constant (.bool b) j pos) (tC (.bl b)) := fun _ _ _ H _ I h => Constant_bool ⟨.bl b, H, I, rfl, h⟩
theorem pe_non {j pos} : PE X (.Constant .none j pos) (tC .non) := fun _ _ _ H _ I h => Constant_none ⟨.non, H, I, rfl, h⟩
theorem pe_str {x j pos} : PE X (.Constant (.str x) j pos) (tC (.str x)) := fun _ _ _ H _ I h => Calls.Constant_str ⟨.str x, H, I.tok _, ⟨_, rfl⟩, h⟩

/-- a global name of the def -/
def Gl (X : Cx) (x : Str) : Prop := X.env.kindOf x = some .globalImplicit
theorem ld_glob {E : Value → Shared → Prop} {pins : List (Addr × Obj)} {s : Shared} {σ : St} {H : Hp} {x : Str} {u : Value} {pos : Pos} {Q : Value → Shared → Prop} (I : Inv X pins σ H s) (hg : Gl X x) (hm : X.mg x = some u) (h : Q u s)
    (hd : (x == ("__debug__" : Str)) = false := by decide) : wpAny (model X.prog X.w) X.A (eval (.Name x pos) X.env) Q E s :=
  Calls.Name_function_global I.ok.kind hg (Calls.loadGlobal_global (by rw [I.ok.glob]; exact I.mod.glob.keeps I.bk) hm h) hd
theorem ld_blt {E : Value → Shared → Prop} {pins : List (Addr × Obj)} {s : Shared} {σ : St} {H : Hp} {x : Str} {u : Value} {pos : Pos} {Q : Value → Shared → Prop} (I : Inv X pins σ H s) (hg : Gl X x) (hm : X.mg x = none) (hv : bootBuiltins x = some u) (h : Q u s)
    (hn : x ≠ "__name__" := by decide) (hd : (x == ("__debug__" : Str)) = false := by decide) : wpAny (model X.prog X.w) X.A (eval (.Name x pos) X.env) Q E s := by
  obtain ⟨mb, h1, h2⟩ := I.mod.blt
  exact Calls.Name_function_global I.ok.kind hg (Calls.loadGlobal_builtin (by rw [I.ok.glob]; exact I.mod.glob.keeps I.bk) hm (by rw [I.ok.blt]; exact h1.keeps I.bk) ((h2 x hn).trans hv) h) hd
/-- a module's constant, a class, a function, as a value -/
theorem pe_glob {x : Str} {v : V} {u : Value} {pos : Pos} (hg : Gl X x) (hm : X.mg x = some u) (r : RelV v u) (hd : (x == ("__debug__" : Str)) = false := by decide) : PE X (.Name x pos) (tC v) :=
  fun _ _ _ H _ I h => ld_glob I hg hm ⟨v, H, I, r, h⟩ hd
theorem pe_bltn {x : Str} {v : V} {u : Value} {pos : Pos} (hg : Gl X x) (hm : X.mg x = none) (hv : bootBuiltins x = some u) (r : RelV v u) (hn : x ≠ "__name__" := by decide) (hd : (x == ("__debug__" : Str)) = false := by decide) : PE X (.Name x pos) (tC v) :=
  fun _ _ _ H _ I h => ld_blt I hg hm hv ⟨v, H, I, r, h⟩ hn hd

variable {a b : Expr} {ta tb : TE} {pos : Pos}

/-- a comparison as a value, as a test -/
def tB (t : TE) : TT := fun σ H Q => t σ H fun x H1 => ∃ c, x = .bl c ∧ Q c H1
/-- an expression whose value is a bool, as a test -/
theorem pt_val {e : Expr} {t : TE} (h : PE X e t) (he : ∀ whole, isTrue e X.env whole = (do let v ← whole; standAt e.pos; holding [v] (truthy v)) := by intro _; rfl) : PT X e (tB t) := by
  intro pins s σ H Q I hw
  refine isTrue_plain (thn (h pins s σ H _ I hw) fun v s1 ⟨x, H1, I1, r1, q1⟩ => ?_) (he _)
  obtain ⟨d, rfl, q⟩ := q1
  cases r1
  exact wpAny_truthy_bool ⟨H1, I1, q⟩

/-! ### and, or, not -/
variable {tA tB' : TT} {rest : List Expr}
def tAnd (t u : TT) : TT := fun σ H Q => t σ H fun c H1 => if c = true then u σ H1 Q else Q false H1
def tOr (t u : TT) : TT := fun σ H Q => t σ H fun c H1 => if c = true then Q true H1 else u σ H1 Q
def tNot (t : TT) : TT := fun σ H Q => t σ H fun c H1 => Q (!c) H1
theorem pw_and1 (ha : PT X a tA) : PW X (.BoolOp .And [a] pos) tA := by
  intro wh pins s σ H Q I h
  refine isTrue_and (thn (ha pins s σ H Q I h) fun c s1 e => ?_)
  cases c with
  | true => exact isTrue_and_nil e
  | false => exact e
theorem pw_or1 (ha : PT X a tA) : PW X (.BoolOp .Or [a] pos) tA := by
  intro wh pins s σ H Q I h
  refine isTrue_or (thn (ha pins s σ H Q I h) fun c s1 e => ?_)
  cases c with
  | false => exact isTrue_or_nil e
  | true => exact e
theorem pw_and (ha : PT X a tA) (hb : PW X (.BoolOp .And (b :: rest) pos) tB') : PW X (.BoolOp .And (a :: b :: rest) pos) (tAnd tA tB') := by
  intro wh pins s σ H Q I h
  refine isTrue_and (thn (ha pins s σ H _ I h) fun c s1 ⟨H1, I1, q1⟩ => ?_)
  cases c with
  | true => exact hb wh pins s1 σ H1 Q I1 q1
  | false => exact ⟨H1, I1, q1⟩
theorem pw_or (ha : PT X a tA) (hb : PW X (.BoolOp .Or (b :: rest) pos) tB') : PW X (.BoolOp .Or (a :: b :: rest) pos) (tOr tA tB') := by
  intro wh pins s σ H Q I h
  refine isTrue_or (thn (ha pins s σ H _ I h) fun c s1 ⟨H1, I1, q1⟩ => ?_)
  cases c with
  | true => exact ⟨H1, I1, q1⟩
  | false => exact hb wh pins s1 σ H1 Q I1 q1
theorem pt_not (ha : PT X a tA) : PT X (.UnaryOp .Not a pos) (tNot tA) := by
  intro pins s σ H Q I h
  exact isTrue_not (ha pins s σ H (fun c H1 => Q (!c) H1) I h)
/-- .. as values (bools) -/
def tAndV (ta tb : TE) : TE := fun σ H Q => ta σ H fun x H1 => ∃ c, x = .bl c ∧ if c = true then tb σ H1 Q else Q (.bl false) H1
def tNotV (ta : TE) : TE := fun σ H Q => ta σ H fun x H1 => ∃ c, x = .bl c ∧ Q (.bl (!c)) H1
theorem pe_one {op} {t : TE} (h : PE X a t) : PE X (.BoolOp op [a] pos) t := fun pins s σ H Q I hw => BoolOp_one (h pins s σ H Q I hw)
theorem pe_and (ha : PE X a ta) (hb : PE X (.BoolOp .And (b :: rest) pos) tb) : PE X (.BoolOp .And (a :: b :: rest) pos) (tAndV ta tb) := by
  intro pins s σ H Q I h
  refine BoolOp_and (thn (ha pins s σ H _ I h) fun v s1 ⟨x, H1, I1, r1, q1⟩ => ?_)
  obtain ⟨c, rfl, q1⟩ := q1
  cases r1
  refine wpAny_truthy_bool ?_
  cases c with
  | true => exact hb pins s1 σ H1 Q I1 q1
  | false => exact ⟨.bl false, H1, I1, rfl, q1⟩
theorem pe_not (ha : PE X a ta) : PE X (.UnaryOp .Not a pos) (tNotV ta) := by
  intro pins s σ H Q I h
  refine UnaryOp_ (thn (ha pins s σ H _ I h) fun v s1 ⟨x, H1, I1, r1, q1⟩ => ?_)
  obtain ⟨c, rfl, q1⟩ := q1
  cases r1
  exact not_of (wpAny_truthy_bool ⟨.bl (!c), H1, I1, rfl, q1⟩)
/-- a if t else b -/
def tIf (t : TT) (ta tb : TE) : TE := fun σ H Q => t σ H fun c H1 => if c = true then ta σ H1 Q else tb σ H1 Q
theorem pe_ifExp {c : Expr} (hc : PT X c tA) (ha : PE X a ta) (hb : PE X b tb) : PE X (.IfExp c a b pos) (tIf tA ta tb) := by
  intro pins s σ H Q I h
  refine wpAny_IfExp (thn (hc pins s σ H _ I h) fun d s1 ⟨H1, I1, q1⟩ => ?_)
  cases d with
  | true => exact ha pins s1 σ H1 Q I1 q1
  | false => exact hb pins s1 σ H1 Q I1 q1
end
end L2

namespace L2
open PySem PySem.Spec PyProof.Rows

/-! ### a list, a tuple that is read: tracked, frozen, or an object of the module -/
def SqL (K : PySem.W.Frag) (H : Hp) (a : Addr) (xs : List V) : Prop :=
  Rd H a (.lst xs) ∨
    ∃ (o : Obj) (its : Array Value) (n : Nat), K.lookup a = some o ∧ o.cls = .type "list" ∧ o.dict = none ∧ o.data = .seq its n ∧ its.size ≤ sizeLine ∧ Vals xs its.toList
def SqT (K : PySem.W.Frag) (H : Hp) (a : Addr) (xs : List V) : Prop :=
  Rd H a (.tup xs) ∨
    ∃ (o : Obj) (its : Array Value) (n : Nat), K.lookup a = some o ∧ o.cls = .type "tuple" ∧ o.data = .seq its n ∧ its.size ≤ sizeLine ∧ Vals xs its.toList
def absV : Value → Option V
  | .none => some .non
  | .bool b => some (.bl b)
  | .int i _ => some (.int i)
  | .str x _ => some (.str x)
  | .bytes b _ => some (.byt b)
  | .float b _ => some (.flt b)
  | .ref a => some (.ref a)
  | .type n => some (.ty n)
  | _ => none
theorem RelV.abs {x : V} {u : Value} (r : RelV x u) : absV u = some x := by
  cases x with
  | non => cases r; rfl
  | bl _ => cases r; rfl
  | int _ => obtain ⟨t, rfl⟩ := r; rfl
  | str _ => obtain ⟨t, rfl⟩ := r; rfl
  | byt _ => obtain ⟨t, rfl⟩ := r; rfl
  | flt _ => obtain ⟨t, rfl⟩ := r; rfl
  | ref _ => cases r; rfl
  | ty _ => cases r; rfl
theorem RelV.inj {x y : V} {u : Value} (r : RelV x u) (q : RelV y u) : x = y := Option.some.inj (r.abs.symm.trans q.abs)
theorem Vals.inj : ∀ {xs ys : List V} {us : List Value}, Vals xs us → Vals ys us → xs = ys
  | _, _, _, .nil, .nil => rfl
  | _, _, _, .cons r t, .cons r' t' => by rw [r.inj r', Vals.inj t t']
section
variable {X : Cx} {pins : List (Addr × Obj)} {σ : St} {H : Hp} {s : Shared} {a : Addr} {xs ys : List V}
theorem SqL.of {K : PySem.W.Frag} (h : H a = some (.lst xs)) : SqL K H a xs := .inl (.inl h)
theorem SqT.of {K : PySem.W.Frag} (h : H a = some (.tup xs)) : SqT K H a xs := .inl (.inl h)
theorem Inv.list (I : Inv X pins σ H s) (h : SqL X.K H a xs) : ∃ its : List Value, Vals xs its ∧ PlainL s.heap a its.toArray ∧ xs.length ≤ sizeLine := by
  rcases h with h | ⟨o, its, n, hk, hc, hd, hs, hz, r⟩
  · obtain ⟨z, its, n, r, e⟩ := h.ok I.hok
    exact ⟨its, r, ⟨_, n, e, rfl, rfl, rfl⟩, z⟩
  · refine ⟨its.toList, r, ⟨o, n, I.kIn a o hk, hc, hd, by simpa using hs⟩, ?_⟩
    have e := r.length
    simp only [Array.length_toList] at e
    omega
theorem Inv.tuple (I : Inv X pins σ H s) (h : SqT X.K H a xs) : ∃ its : List Value, Vals xs its ∧ IsTup s.heap a its.toArray ∧ xs.length ≤ sizeLine := by
  rcases h with h | ⟨o, its, n, hk, hc, hs, hz, r⟩
  · obtain ⟨z, its, r, p⟩ := h.ok I.hok
    exact ⟨its, r, p, z⟩
  · refine ⟨its.toList, r, ⟨o, I.kIn a o hk, hc, n, by simpa using hs⟩, ?_⟩
    have e := r.length
    simp only [Array.length_toList] at e
    omega
theorem Inv.list_inj (I : Inv X pins σ H s) (h : SqL X.K H a xs) (h' : SqL X.K H a ys) : xs = ys := by
  obtain ⟨its, r, ⟨o, n, e, _, _, d⟩, _⟩ := I.list h
  obtain ⟨its', r', ⟨o', n', e', _, _, d'⟩, _⟩ := I.list h'
  rw [e] at e'; cases e'
  rw [d] at d'
  injection d' with d1 _
  have : its = its' := by simpa using congrArg Array.toList d1
  subst this
  exact r.inj r'
theorem Inv.tuple_inj (I : Inv X pins σ H s) (h : SqT X.K H a xs) (h' : SqT X.K H a ys) : xs = ys := by
  obtain ⟨its, r, ⟨o, e, _, n, d⟩, _⟩ := I.tuple h
  obtain ⟨its', r', ⟨o', e', _, n', d'⟩, _⟩ := I.tuple h'
  rw [e] at e'; cases e'
  rw [d] at d'
  injection d' with d1 _
  have : its = its' := by simpa using congrArg Array.toList d1
  subst this
  exact r.inj r'
end

/-! ### another wish about exceptions -/
abbrev Cx.wish (X : Cx) (E : Value → Shared → Prop) : Cx := { X with xe := E }
/-- no exception leaves -/
abbrev Cx.nox (X : Cx) : Cx := X.wish fun _ _ => False
theorem Cx.Ok.wish {X : Cx} (ok : X.Ok) (E : Value → Shared → Prop) : (X.wish E).Ok :=
  ⟨ok.mod, ok.kind, ok.glob, ok.blt, ok.above, ok.inj, ok.has, ok.cab, ok.hd, ok.frames, ok.stk, ok.exf, ok.bs, ok.bsz, ok.noex, ok.exfs, ok.funs, ok.frf⟩
theorem Cx.Ok.unwish {X : Cx} {E : Value → Shared → Prop} (ok : (X.wish E).Ok) : X.Ok :=
  ⟨ok.mod, ok.kind, ok.glob, ok.blt, ok.above, ok.inj, ok.has, ok.cab, ok.hd, ok.frames, ok.stk, ok.exf, ok.bs, ok.bsz, ok.noex, ok.exfs, ok.funs, ok.frf⟩
section
variable {X : Cx} {pins : List (Addr × Obj)} {σ : St} {H : Hp} {s : Shared} {E : Value → Shared → Prop}
theorem Inv.wish (I : Inv X pins σ H s) (E : Value → Shared → Prop) : Inv (X.wish E) pins σ H s := ⟨I.ok.wish E, I.os, I.bare, I.base, I.loc, I.cell, I.free, I.freeC, I.pin, I.hok, I.len⟩
theorem Inv.unwish (I : Inv (X.wish E) pins σ H s) : Inv X pins σ H s := ⟨I.ok.unwish, I.os, I.bare, I.base, I.loc, I.cell, I.free, I.freeC, I.pin, I.hok, I.len⟩
theorem SP.unwish {D : Ends} {f : Flow} {s' : Shared} (h : SP (X.wish E) pins D f s') : SP X pins D f s' := by
  cases f with
  | next => obtain ⟨σ', H', I, q⟩ := h; exact ⟨σ', H', I.unwish, q⟩
  | brk => obtain ⟨σ', H', I, q⟩ := h; exact ⟨σ', H', I.unwish, q⟩
  | cont => obtain ⟨σ', H', I, q⟩ := h; exact ⟨σ', H', I.unwish, q⟩
  | ret u => obtain ⟨v, σ', H', I, r, q⟩ := h; exact ⟨v, σ', H', I.unwish, r, q⟩
theorem PSs.nox {st : List Stmt} {t : TS} (h : PSs X.nox st t) : PSs X st t := fun pins s σ H D I hw =>
  wpAny_mono (h pins s σ H D (I.wish _) hw) (fun _ _ q => q.unwish) fun _ _ z => False.elim z
end

/-! ### blocks and small statements -/
section
variable {X : Cx} {st : Stmt} {rest : List Stmt} {t u : TS} {e : Expr} {te : TE} {pos : Pos}
def tNext : TS := fun D σ H => D.nx σ H
def tSeq (t u : TS) : TS := fun D σ H => t { D with nx := u D } σ H
theorem pss_nil : PSs X [] tNext := fun _ _ σ H _ I h => wpAny_execs_nil ⟨σ, H, I, h⟩
theorem pss_cons (h1 : PS X st t) (h2 : PSs X rest u) : PSs X (st :: rest) (tSeq t u) := by
  intro pins s σ H D I h
  refine wpAny_execs_cons (thn (h1 pins s σ H { D with nx := u D } I h) fun f s1 q => ?_)
  cases f with
  | next =>
    obtain ⟨σ', H', I', q⟩ := q
    exact h2 pins s1 σ' H' D I' q
  | ret v => exact q
  | brk => exact q
  | cont => exact q
theorem pss_one (h1 : PS X st t) : PSs X [st] t := by
  intro pins s σ H D I h
  refine wpAny_execs_cons (thn (h1 pins s σ H D I h) fun f s1 q => ?_)
  cases f with
  | next => exact wpAny_execs_nil q
  | ret v => exact q
  | brk => exact q
  | cont => exact q
/-- in a def's body nothing is shown -/
theorem Inv.quiet {pins : List (Addr × Obj)} {σ : St} {H : Hp} {s : Shared} (I : Inv X pins σ H s) : interactive X.env = false := by simp [interactive, I.ok.kind]
/-- an expression whose value is dropped -/
def tDrop (te : TE) : TS := fun D σ H => te σ H fun _ H1 => D.nx σ H1
theorem ps_expr (he : PE X e te) (hs : swapsWith e none pos.line X.env = pure false := by rfl) : PS X (.Expr e pos) (tDrop te) := by
  intro pins s σ H D I h
  exact wpAny_Expr_any (thn (he pins s σ H _ I h) fun v s1 ⟨x, H1, I1, r1, q1⟩ => ⟨σ, H1, I1, q1⟩) I.quiet hs
def tRet (te : TE) : TS := fun D σ H => te σ H D.rt
theorem ps_ret (he : PE X e te) : PS X (.Return (some e) pos) (tRet te) := by
  intro pins s σ H D I h
  exact wpAny_Return_some (thn (he pins s σ H _ I h) fun v s1 ⟨x, H1, I1, r1, q1⟩ => ⟨x, σ, H1, I1, r1, q1⟩)
def tIfS (c : TT) (t u : TS) : TS := fun D σ H => c σ H fun b H1 => if b = true then t D σ H1 else u D σ H1
theorem ps_if {c : Expr} {a b : List Stmt} {tc : TT} (hc : PT X c tc) (ha : PSs X a t) (hb : PSs X b u) : PS X (.If c a b pos) (tIfS tc t u) := by
  intro pins s σ H D I h
  refine wpAny_If (thn (hc pins s σ H _ I h) fun d s1 ⟨H1, I1, q1⟩ => ?_)
  cases d with
  | true => exact ha pins s1 σ H1 D I1 q1
  | false => exact hb pins s1 σ H1 D I1 q1
/-- code that the proof never comes to -/
def tNever : TS := fun _ _ _ => False
theorem pss_never {sts : List Stmt} : PSs X sts tNever := fun _ _ _ _ _ _ h => h.elim
end

/-! ### targets -/
abbrev TG := V → St → Hp → (St → Hp → Prop) → Prop
abbrev TGs := List V → St → Hp → (St → Hp → Prop) → Prop
def PG (X : Cx) (target : Expr) (t : TG) : Prop :=
  ∀ (pins : List (Addr × Obj)) (s : Shared) (σ : St) (H : Hp) (v : V) (u : Value) (Q : St → Hp → Prop), Inv X pins σ H s → RelV v u → t v σ H Q →
    wpAny (model X.prog X.w) X.A (assign target X.env u) (fun _ s' => ∃ σ' H', Inv X pins σ' H' s' ∧ Q σ' H') X.xe s
/-- several targets, one after another -/
def PGs (X : Cx) (ts : List Expr) (t : TGs) : Prop :=
  ∀ (pins : List (Addr × Obj)) (s : Shared) (σ : St) (H : Hp) (vs : List V) (us : List Value) (Q : St → Hp → Prop), Inv X pins σ H s → Vals vs us → t vs σ H Q →
    wpAny (model X.prog X.w) X.A (assignInOrder ((assignEach ts X.env).map (·.2)) us) (fun _ s' => ∃ σ' H', Inv X pins σ' H' s' ∧ Q σ' H') X.xe s
/-- o[i] = v, by values -/
abbrev TSet := V → V → V → Hp → (Hp → Prop) → Prop
def PSet (X : Cx) (t : TSet) : Prop :=
  ∀ (pins : List (Addr × Obj)) (s : Shared) (σ : St) (H : Hp) (o i v : V) (ov iv u : Value) (Q : Hp → Prop), Inv X pins σ H s → RelV o ov → RelV i iv → RelV v u → t o i v H Q →
    wpAny (model X.prog X.w) X.A (setItem ov iv u) (fun _ s' => ∃ H', Inv X pins σ H' s' ∧ Q H') X.xe s
/-- a op= b, by values -/
abbrev TIp := V → V → Hp → VK → Prop
def PIp (X : Cx) (op : Operator) (t : TIp) : Prop :=
  ∀ (pins : List (Addr × Obj)) (s : Shared) (σ : St) (H : Hp) (x y : V) (v u : Value) (Q : VK), Inv X pins σ H s → RelV x v → RelV y u → t x y H Q →
    wpAny (model X.prog X.w) X.A (inplaceOp op v u) (EP X pins σ Q) X.xe s
section
variable {X : Cx} {pos : Pos}
def gName (i : Nat) : TG := fun v σ H Q => Q (σ.set i (some v)) H
theorem pg_name {i : Nat} {x : Str} (hN : X.N.Nodup) (hi : X.N[i]? = some x) (hx : Loc X.env.scope x) (hf : X.fn x = true ∨ X.env.scope.names.lookup x = some .local := by first | exact .inl rfl | exact .inr rfl | assumption) : PG X (.Name x pos) (gName i) := by
  intro pins s σ H v u Q I r h
  exact wpAny_assign_Name (store_ok I hN hi hx r (fun s' I' => ⟨_, H, I', h⟩) hf)
def gNil : TGs := fun vs σ H Q => vs = [] ∧ Q σ H
def gCons (t : TG) (u : TGs) : TGs := fun vs σ H Q => ∃ v r, vs = v :: r ∧ t v σ H fun σ' H' => u r σ' H' Q
theorem pgs_nil : PGs X [] gNil := by
  intro pins s σ H vs us Q I r h
  obtain ⟨e, h⟩ := h
  subst e
  cases r
  exact assignInOrder_nil ⟨σ, H, I, h⟩
theorem pgs_cons {e : Expr} {es : List Expr} {t : TG} {u : TGs} (h1 : PG X e t) (h2 : PGs X es u)
    (hs : (assignEach (e :: es) X.env).map (·.2) = assign e X.env :: (assignEach es X.env).map (·.2) := by rfl) : PGs X (e :: es) (gCons t u) := by
  intro pins s σ H vs us Q I r h
  obtain ⟨v, vr, e1, h⟩ := h
  subst e1
  cases r with
  | cons r rr =>
    rw [hs]
    refine assignInOrder_cons (thn (h1 pins s σ H _ _ _ I r h) fun _ s1 ⟨σ1, H1, I1, q1⟩ => ?_)
    exact h2 pins s1 σ1 H1 _ _ Q I1 rr q1
/-- (a, b, ..) = a tuple of that length -/
def gTup (K : PySem.W.Frag) (n : Nat) (t : TGs) : TG := fun v σ H Q => ∃ a xs, v = .ref a ∧ SqT K H a xs ∧ xs.length = n ∧ t xs σ H Q
theorem pg_tup {es : List Expr} {k : Nat} {t : TGs} {n : Nat} (hc : X.calm = true) (h : PGs X es t)
    (hn : (assignEach es X.env).length = n := by rfl) (hst : (assignEach es X.env).findIdx? (·.1) = none := by rfl) : PG X (.Tuple es k pos) (gTup X.K n t) := by
  intro pins s σ H v u Q I r hw
  obtain ⟨a, xs, e1, hq, hl, hw⟩ := hw
  subst e1
  cases r
  obtain ⟨its, rv, ht, hz⟩ := I.tuple hq
  refine assign_Tuple_tuple (I.ok.hd hc) ht (by simp [hn, ← hl, rv.length]) hst fun h' hx => ?_
  have I1 : Inv X pins σ H { s with heap := h' } := I.kept (t' := s.toks) fun b o e => hx b o (Nat.ne_of_lt (Heap.lt_size e)) e
  exact h pins _ σ H xs _ Q I1 (by simpa using rv) hw
/-- o[i] = .. -/
def gSub (to ti : TE) (t : TSet) : TG := fun v σ H Q => to σ H fun o H1 => ti σ H1 fun i H2 => t o i v H2 fun H3 => Q σ H3
theorem pg_sub {o i : Expr} {to ti : TE} {t : TSet} (ho : PE X o to) (hi : PE X i ti) (hs : PSet X t)
    (ha : ∀ v, assign (.Subscript o i pos) X.env v = (do
      let ov ← holding [v] (eval o X.env)
      let iv ← holding [v, ov] (eval i X.env)
      standAt pos
      holding [v, ov, iv] (setItem ov iv v)
      release [v, ov, iv] []) := by intro _; rfl) : PG X (.Subscript o i pos) (gSub to ti t) := by
  intro pins s σ H v u Q I r h
  rw [ha]
  refine wpAny_bind (wpAny_holding (thn (ho pins s σ H _ I h) fun ov s1 ⟨x, H1, I1, r1, q1⟩ => ?_))
  refine wpAny_bind (wpAny_holding (thn (hi pins s1 σ H1 _ I1 q1) fun iv s2 ⟨y, H2, I2, r2, q2⟩ => ?_))
  refine wpAny_bind (wpAny_standAt (wpAny_bind (wpAny_holding (thn (hs pins s2 σ H2 x y v ov iv u _ I2 r1 r2 r q2) fun _ s3 ⟨H3, I3, q3⟩ => ?_))))
  exact wpAny_release ⟨σ, H3, I3, q3⟩
/-- target = value -/
def tAsg (te : TE) (g : TG) : TS := fun D σ H => te σ H fun x H1 => g x σ H1 D.nx
theorem ps_asg {tg e : Expr} {te : TE} {g : TG} (he : PE X e te) (hg : PG X tg g) (hs : swapsWithSole [tg] e pos.line X.env = pure false := by rfl) (hw : swappedStores [tg] e X.env = pure none := by rfl)
    (h1 : (assignEach [tg] X.env).map (·.2) = [assign tg X.env] := by rfl) : PS X (.Assign [tg] e pos) (tAsg te g) := by
  intro pins s σ H D I h
  refine wpAny_Assign_stores (thn (he pins s σ H _ I h) fun v s1 ⟨x, H1, I1, r1, q1⟩ => ?_) hs hw
  rw [h1]
  exact thn (hg pins s1 σ H1 x v _ I1 r1 q1) fun _ s2 q => q
/-- name = value -/
theorem ps_set {i : Nat} {x : Str} {e : Expr} {te : TE} {pos' : Pos} (hN : X.N.Nodup) (hi : X.N[i]? = some x) (hx : Loc X.env.scope x) (he : PE X e te) (hs : swapsWith e (some (.Name x pos')) pos.line X.env = pure false := by rfl) (hf : X.fn x = true ∨ X.env.scope.names.lookup x = some .local := by first | exact .inl rfl | exact .inr rfl | assumption) :
    PS X (.Assign [.Name x pos'] e pos) (tAsg te (gName i)) := by
  intro pins s σ H D I h
  refine wpAny_Assign_Name (thn (he pins s σ H _ I h) fun v s1 ⟨y, H1, I1, r1, q1⟩ => ?_) hs
  exact store_ok I1 hN hi hx r1 (fun s2 I2 => ⟨_, H1, I2, q1⟩) hf
/-- a, b = x, y with plain local names: stored from the right; the pair itself is not tracked (the opening rows as in PyProof/Rows/TupAssign.lean:23) -/
def tPar (i j : Nat) (ta : TA) : TS := fun D σ H => ta σ H fun vs H1 => ∃ v w, vs = [v, w] ∧ D.nx ((σ.set i (some v)).set j (some w)) H1
theorem ps_par {i j : Nat} {x y : Str} {a b : Expr} {ta : TA} {px py pt : Pos} {kt k2 pt2} (hc : X.calm = true) (hN : X.N.Nodup) (hi : X.N[i]? = some x) (hj : X.N[j]? = some y) (hij : i ≠ j)
    (hx : X.env.scope.names.lookup x = some .local) (hy : X.env.scope.names.lookup y = some .local) (ha : PA X [a, b] ta)
    (hw : swappedStores [.Tuple [.Name x px, .Name y py] kt pt] (.Tuple [a, b] k2 pt2) X.env = pure (some [x, y]))
    (hs : swapsWithSole [.Tuple [.Name x px, .Name y py] kt pt] (.Tuple [a, b] k2 pt2) pos.line X.env = pure false := by rfl) :
    PS X (.Assign [.Tuple [.Name x px, .Name y py] kt pt] (.Tuple [a, b] k2 pt2) pos) (tPar i j ta) := by
  intro pins s σ H D I h
  rw [exec_Assign_arm]
  refine wpAny_bind (wpAny_standAt ?_)
  rw [hs]
  refine wpAny_bind (wpAny_pure ?_)
  rw [if_neg (by decide)]
  refine wpAny_bind (Tuple_ (thn (ha _ pins s σ H _ I h) fun us s1 ⟨vs, H1, I1, r1, q1⟩ => ?_))
  obtain ⟨v, w, e1, q1⟩ := q1
  subst e1
  obtain ⟨u1, u2, rfl, rv, rw'⟩ : ∃ u1 u2, us = [u1, u2] ∧ RelV v u1 ∧ RelV w u2 := by
    cases r1 with
    | cons p q =>
      cases q with
      | cons p' q' =>
        cases q'
        exact ⟨_, _, rfl, p, p'⟩
  refine wpAny_newObj_type ?_ (by show 2 ≤ sizeLine; decide)
  have I2 : Inv X pins σ H1 { s1 with heap := s1.heap.push { cls := .type "tuple", data := .seq [u1, u2].toArray } } := I1.kept (t' := s1.toks) fun b o e => Heap.get?_push_of_some _ e
  rw [hw]
  refine wpAny_bind (wpAny_pure ?_)
  show wpAny (model X.prog X.w) X.A (do rule "assign.swapped-stores"; let items ← unpackItems (.ref s1.heap.objs.size) 2 none; assignInOrder [fun v => bindName X.env y v, fun v => bindName X.env x v] items.reverse; pure Flow.next) _ _ _
  refine wpAny_bind (wpAny_rule (wpAny_bind (unpackItems_tuple (items := #[u1, u2]) (I.ok.hd hc) (IsTup.new s1.heap _) fun h' hx' => ?_)))
  have I3 := I2.kept (h' := h') (t' := s1.toks) fun b o e => hx' b o (Nat.ne_of_lt (Heap.lt_size e)) e
  show wpAny _ _ (assignInOrder [fun v => bindName X.env y v, fun v => bindName X.env x v] [u2, u1] >>= fun _ => pure Flow.next) _ _ _
  refine wpAny_bind (assignInOrder_cons (wpAny_bindName (store_ok I3 hN hj (.inl hy) rw' (fun s2 I4 => ?_) (.inr hy))))
  refine assignInOrder_cons (wpAny_bindName (store_ok I4 hN hi (.inl hx) rv (fun s3 I5 => assignInOrder_nil (wpAny_pure ?_)) (.inr hx)))
  rw [List.set_comm _ _ (Ne.symm hij)] at I5
  exact ⟨_, H1, I5, q1⟩
/-- o[i] op= e -/
def tAugS (to ti te : TE) (tget : V → V → Hp → VK → Prop) (tip : TIp) (tset : TSet) : TS := fun D σ H => to σ H fun o H1 => ti σ H1 fun i H2 => tget o i H2 fun x H3 => te σ H3 fun y H4 => tip x y H4 fun z H5 => tset o i z H5 fun H6 => D.nx σ H6
/-- o[i], by values -/
def PGet (X : Cx) (t : V → V → Hp → VK → Prop) : Prop :=
  ∀ (pins : List (Addr × Obj)) (s : Shared) (σ : St) (H : Hp) (o i : V) (ov iv : Value) (Q : VK), Inv X pins σ H s → RelV o ov → RelV i iv → t o i H Q →
    wpAny (model X.prog X.w) X.A (getItem ov iv) (EP X pins σ Q) X.xe s
theorem ps_augS {o i e : Expr} {to ti te : TE} {tget : V → V → Hp → VK → Prop} {tip : TIp} {tset : TSet} {op : Operator} {tpos : Pos} (ho : PE X o to) (hi : PE X i ti) (hg : PGet X tget) (he : PE X e te) (hp : PIp X op tip) (hs : PSet X tset)
    (ha : ∀ ov iv new, augStore i ov iv new = (do holding [new, ov, iv] (setItem ov iv new); release [new, ov, iv] []; pure .next) := by intros; rfl) : PS X (.AugAssign (.Subscript o i tpos) op e pos) (tAugS to ti te tget tip tset) := by
  intro pins s σ H D I h
  refine wpAny_AugAssign_SubscriptAny (thn (ho pins s σ H _ I h) fun ov s1 ⟨x1, H1, I1, r1, q1⟩ => ?_) ha
  refine thn (hi pins s1 σ H1 _ I1 q1) fun iv s2 ⟨x2, H2, I2, r2, q2⟩ => ?_
  refine thn (hg pins s2 σ H2 x1 x2 ov iv _ I2 r1 r2 q2) fun old s3 ⟨x3, H3, I3, r3, q3⟩ => ?_
  refine thn (he pins s3 σ H3 _ I3 q3) fun v s4 ⟨x4, H4, I4, r4, q4⟩ => ?_
  refine thn (hp pins s4 σ H4 x3 x4 old v _ I4 r3 r4 q4) fun new s5 ⟨x5, H5, I5, r5, q5⟩ => ?_
  exact thn (hs pins s5 σ H5 x1 x2 x5 ov iv new _ I5 r1 r2 r5 q5) fun _ s6 ⟨H6, I6, q6⟩ => ⟨σ, H6, I6, q6⟩
/-- ints -/
def ipI (f : Int → Int → Int) : TIp := fun x y H Q => ∃ i j, x = .int i ∧ y = .int j ∧ Q (.int (f i j)) H
theorem ip_add : PIp X .Add (ipI fun i j => i + j) := by
  intro pins s σ H x y v u Q I r1 r2 h
  obtain ⟨i, j, e1, e2, q⟩ := h
  subst e1; subst e2
  obtain ⟨t, rfl⟩ := r1
  obtain ⟨t', rfl⟩ := r2
  exact iadd_int ⟨.int _, H, I.tok _, ⟨_, rfl⟩, q⟩
end

/-! ### while -/
section
variable {X : Cx} {pos : Pos}
/-- the invariant W with its measure -/
def tWhile (c : TT) (tb : TS) : TS := fun D σ H => ∃ W : Nat → St → Hp → Prop, (∃ m, W m σ H) ∧ ∀ m σ H, W m σ H →
  c σ H fun b H1 => if b = true then ∃ N : St → Hp → Prop, (∀ σ' H', N σ' H' → ∃ m', m' < m ∧ W m' σ' H') ∧ tb { D with nx := N, ct := N, bk := D.nx } σ H1 else D.nx σ H1
theorem ps_while {c : Expr} {body : List Stmt} {tc : TT} {tb : TS} (hp : PassesOwn (model X.prog X.w) X.A X.env X.xe) (hc : PT X c tc) (hb : PSs X body tb) : PS X (.While c body [] pos) (tWhile tc tb) := by
  intro pins s σ H D I h
  obtain ⟨W, ⟨m0, w0⟩, turn⟩ := h
  refine wpAny_While (codeAny_whileLoop (fun n s' => ∃ σ' H', Inv X pins σ' H' s' ∧ W n σ' H') ?_ m0 ⟨σ, H, I, w0⟩)
  rintro n s1 ⟨σ1, H1, I1, w1⟩
  refine wpAny_passesOwn hp (thn (hc pins s1 σ1 H1 _ I1 (turn n σ1 H1 w1)) fun b s2 ⟨H2, I2, q2⟩ => ?_)
  cases b with
  | true =>
    obtain ⟨N, hN, q2⟩ := q2
    rw [if_pos rfl]
    refine wpAny_passesOwn hp (thn (hb pins s2 σ1 H2 _ I2 q2) fun f s3 q3 => ?_)
    cases f with
    | next =>
      obtain ⟨σ3, H3, I3, n3⟩ := q3
      obtain ⟨m', hm, w3⟩ := hN σ3 H3 n3
      exact ⟨m', hm, σ3, H3, I3, w3⟩
    | cont =>
      obtain ⟨σ3, H3, I3, n3⟩ := q3
      obtain ⟨m', hm, w3⟩ := hN σ3 H3 n3
      exact ⟨m', hm, σ3, H3, I3, w3⟩
    | brk => exact q3
    | ret v => exact q3
  | false =>
    rw [if_neg Bool.false_ne_true]
    exact wpAny_execs_nil ⟨σ1, H2, I2, q2⟩
end

/-! ### what a loop or a comprehension walks -/
/-- at turn i: it yields x (the heap may grow), or it stops -/
structure It where
  go : Nat → Hp → Prop
  yld : Nat → Hp → V → Hp → Prop
  stop : Nat → Hp → Prop
/-- the iterator's own objects may turn: they are not the frame's, not pinned, younger than the entry (or a comprehension's own) -/
def FpOk (X : Cx) (pins : List (Addr × Obj)) (H : Hp) (b : Addr) : Prop :=
  H b = none ∧ b ≠ X.env.locals ∧ b ∉ X.fs ∧ (b ∈ X.ex ∨ X.s₀.heap.objs.size ≤ b) ∧ (∀ x c, X.env.cells.lookup x = some c → c ≠ b) ∧ ∀ p ∈ X.pn ++ pins, p.1 ≠ b
theorem Inv.fpOk {X : Cx} {pins : List (Addr × Obj)} {σ : St} {H H' : Hp} {s : Shared} {b : Addr} (I : Inv X pins σ H s) (hb : s.heap.objs.size ≤ b) (hn : H' b = none) : FpOk X pins H' b := by
  refine ⟨hn, Nat.ne_of_gt (Nat.lt_of_lt_of_le I.lt hb), I.nofs hb, .inr (Nat.le_trans I.sz hb), fun x c e z => ?_, fun p hp z => ?_⟩
  · obtain ⟨v, q⟩ := I.cell x c e
    exact absurd (Nat.lt_of_lt_of_le q.lt (by rw [z]; exact hb)) (Nat.lt_irrefl _)
  · exact absurd (Nat.lt_of_lt_of_le (Heap.lt_size (I.pin p hp).1) (by rw [z]; exact hb)) (Nat.lt_irrefl _)
structure Turn (P : Program) (w : World) (K : PySem.W.Frag) (tg : Expr) (J : It) (fp : List Addr) (it : Addr) (tn : Nat → Heap → Prop) : Prop where
  mem : it ∈ fp
  obj : ∀ i h, tn i h → ∀ b ∈ fp, ∃ o, h.get? b = some o ∧ ∀ v, o.data ≠ .cell v
  keep : ∀ i h h', tn i h → (∀ b ∈ fp, ∀ o, h.get? b = some o → h'.get? b = some o) → tn i h'
  item : ∀ (X : Cx), X.prog = P → X.w = w → X.K = K → X.calm = true → ∀ (i : Nat) (pins : List (Addr × Obj)) (s : Shared) (σ : St) (H : Hp) (E : Value → Shared → Prop), Inv X pins σ H s → (∀ b ∈ fp, FpOk X pins H b) → tn i s.heap → J.go i H →
    wpAny (model P w) X.A (pyNext (.ref it)) (fun r s1 => ∃ u, r = some u ∧
      wpAny (model P w) X.A (letOwnedTupleGo tg (.ref it) u) (fun _ s2 => ∃ x H', Inv X pins σ H' s2 ∧ RelV x u ∧ J.yld i H x H' ∧ tn (i + 1) s2.heap ∧ ∀ b ∈ fp, H' b = none) E s1) E s
  done : ∀ (X : Cx), X.prog = P → X.w = w → X.K = K → X.calm = true → ∀ (i : Nat) (pins : List (Addr × Obj)) (s : Shared) (σ : St) (H : Hp) (E : Value → Shared → Prop), Inv X pins σ H s → (∀ b ∈ fp, FpOk X pins H b) → tn i s.heap → J.stop i H →
    wpAny (model P w) X.A (pyNext (.ref it)) (fun r s1 => r = none ∧ Inv X pins σ H s1) E s
  self : ∀ (A : Around) (i : Nat) (s : Shared) (Q : Value → Shared → Prop) (E : Value → Shared → Prop), tn i s.heap → Q (.ref it) s → wpAny (model P w) A (pyIter (.ref it)) Q E s
abbrev TI := St → Hp → (It → Hp → Prop) → Prop
/-- an iterator has come -/
def PIE (X : Cx) (pins : List (Addr × Obj)) (σ : St) (tg : Expr) (R : It → Hp → Prop) (itv : Value) (s2 : Shared) : Prop :=
  ∃ (it : Addr) (fp : List Addr) (tn : Nat → Heap → Prop) (J : It) (H' : Hp), itv = .ref it ∧ Inv X pins σ H' s2 ∧ Turn X.prog X.w X.K tg J fp it tn ∧ tn 0 s2.heap ∧ (∀ b ∈ fp, FpOk X pins H' b) ∧ R J H'
def PI (X : Cx) (tg iter : Expr) (wi : TI) : Prop :=
  ∀ (pins : List (Addr × Obj)) (s : Shared) (σ : St) (H : Hp) (R : It → Hp → Prop), Inv X pins σ H s → wi σ H R →
    wpAny (model X.prog X.w) X.A (eval iter X.env) (fun v s1 => wpAny (model X.prog X.w) X.A (pyIter v) (PIE X pins σ tg R) X.xe s1) X.xe s

/-- the step ahead of the store is nothing for an iterator that keeps no tuple -/
theorem go_of {M : Model} {A : Around} {E : Value → Shared → Prop} {s : Shared} {tg : Expr} {it : Addr} {u : Value} {o : Obj} {n : String} {vs : Array Value} {Q : Unit → Shared → Prop} (ho : s.heap.get? it = some o) (hc : o.cls = .type n) (hd : o.data = .fields vs)
    (hn : ["enumerate", "zip", "dict_itemiterator", "dict_reverseitemiterator", "odict_iterator", "itertools.zip_longest", "itertools.pairwise"].contains n = false) (hQ : Q () s) : wpAny M A (letOwnedTupleGo tg (.ref it) u) Q E s := by
  unfold letOwnedTupleGo
  cases tg <;> first
    | exact wpAny_pure hQ
    | (cases u <;> first
        | exact wpAny_pure hQ
        | (refine wpAny_bind (wpAny_load ho ?_)
           rw [hc, hd]
           show wpAny M A (if (["enumerate", "zip", "dict_itemiterator", "dict_reverseitemiterator", "odict_iterator", "itertools.zip_longest", "itertools.pairwise"].contains n && vs[0]? == some (rawInt _)) = true then _ else _) Q E s
           rw [if_neg (by intro h; rw [hn, Bool.false_and] at h; cases h)]
           exact wpAny_pure hQ))

/-- the list at a, as it stands at each turn (a loop may append to it) -/
def Itl (K : PySem.W.Frag) (a : Addr) : It :=
  ⟨fun i H => ∃ xs x, SqL K H a xs ∧ xs[i]? = some x, fun i H x H' => H' = H ∧ ∀ xs, SqL K H a xs → xs[i]? = some x, fun i H => ∃ xs, SqL K H a xs ∧ xs.length ≤ i⟩
def Itt (K : PySem.W.Frag) (a : Addr) : It :=
  ⟨fun i H => ∃ xs x, SqT K H a xs ∧ xs[i]? = some x, fun i H x H' => H' = H ∧ ∀ xs, SqT K H a xs → xs[i]? = some x, fun i H => ∃ xs, SqT K H a xs ∧ xs.length ≤ i⟩
/-- lo, lo + 1, .. (n of them) -/
def Itr (lo : Int) (n : Nat) : It := ⟨fun i _ => i < n, fun i H x H' => H' = H ∧ x = .int (lo + i), fun i _ => n ≤ i⟩
theorem turn_list {P : Program} {w : World} {K : PySem.W.Frag} {tg : Expr} (a it : Addr) : Turn P w K tg (Itl K a) [it] it (fun i h => h.IsListIter it a i) where
  mem := by simp
  obj := fun i h st b hb => by
    have e : b = it := by simpa using hb
    subst e
    obtain ⟨o, e, c, d⟩ := st
    exact ⟨o, e, fun v z => by rw [d] at z; cases z⟩
  keep := fun i h h' st k => st.at fun o e => k it (by simp) o e
  item := by
    intro X hP hw hK hc i pins s σ H E I hf st hg
    subst hP hw hK
    obtain ⟨xs, x, hq, hx⟩ := hg
    obtain ⟨its, rv, p, hz⟩ := I.list hq
    obtain ⟨u, hu, ru⟩ := rv.get hx
    obtain ⟨f0, f1, f2, f3, f4, f5⟩ := hf it (by simp)
    refine wpAny_pyNext_list_item st p.isList (x := u) (by simpa using hu) fun h' st' sb => ?_
    have I1 : Inv X pins σ H { s with heap := h' } := I.turned (t' := s.toks) (fun b o hb e => (sb.2 b hb).trans e) f0 f1 f3 f4 f5
    obtain ⟨o, e, c, d⟩ := id st'
    exact ⟨u, rfl, go_of (s := { s with heap := h' }) e c d (by decide) ⟨x, H, I1, ru, ⟨rfl, fun ys hy => by rw [I.list_inj hy hq]; exact hx⟩, st', fun b hb => (hf b hb).1⟩⟩
  done := by
    intro X hP hw hK hc i pins s σ H E I hf st hg
    subst hP hw hK
    obtain ⟨xs, hq, hx⟩ := hg
    obtain ⟨its, rv, p, hz⟩ := I.list hq
    obtain ⟨f0, f1, f2, f3, f4, f5⟩ := hf it (by simp)
    have hl := rv.length
    exact wpAny_pyNext_list_end (I.ok.hd hc) st p.isList (by simp; omega) fun h' eb => ⟨rfl, I.turned (t' := s.toks) (fun b o hb e => eb b o hb e) f0 f1 f3 f4 f5⟩
  self := fun _ _ _ _ _ st h => wpAny_pyIter_listiter st h
theorem turn_tuple {P : Program} {w : World} {K : PySem.W.Frag} {tg : Expr} (a it : Addr) : Turn P w K tg (Itt K a) [it] it (fun i h => h.IsTupleIter it a i) where
  mem := by simp
  obj := fun i h st b hb => by
    have e : b = it := by simpa using hb
    subst e
    obtain ⟨o, e, c, d⟩ := st
    exact ⟨o, e, fun v z => by rw [d] at z; cases z⟩
  keep := fun i h h' st k => st.at fun o e => k it (by simp) o e
  item := by
    intro X hP hw hK hc i pins s σ H E I hf st hg
    subst hP hw hK
    obtain ⟨xs, x, hq, hx⟩ := hg
    obtain ⟨its, rv, p, hz⟩ := I.tuple hq
    obtain ⟨u, hu, ru⟩ := rv.get hx
    obtain ⟨f0, f1, f2, f3, f4, f5⟩ := hf it (by simp)
    refine wpAny_pyNext_tuple_item st (show s.heap.IsTuple a its.toArray from p) (x := u) (by simpa using hu) fun h' st' sb => ?_
    have I1 : Inv X pins σ H { s with heap := h' } := I.turned (t' := s.toks) (fun b o hb e => (sb.2 b hb).trans e) f0 f1 f3 f4 f5
    obtain ⟨o, e, c, d⟩ := id st'
    exact ⟨u, rfl, go_of (s := { s with heap := h' }) e c d (by decide) ⟨x, H, I1, ru, ⟨rfl, fun ys hy => by rw [I.tuple_inj hy hq]; exact hx⟩, st', fun b hb => (hf b hb).1⟩⟩
  done := by
    intro X hP hw hK hc i pins s σ H E I hf st hg
    subst hP hw hK
    obtain ⟨xs, hq, hx⟩ := hg
    obtain ⟨its, rv, p, hz⟩ := I.tuple hq
    obtain ⟨f0, f1, f2, f3, f4, f5⟩ := hf it (by simp)
    have hl := rv.length
    exact wpAny_pyNext_tuple_end (I.ok.hd hc) st (show s.heap.IsTuple a its.toArray from p) (by simp; omega) fun h' eb => ⟨rfl, I.turned (t' := s.toks) (fun b o hb e => eb b o hb e) f0 f1 f3 f4 f5⟩
  self := fun _ _ _ _ _ st h => wpAny_pyIter_tupleiter st h
theorem turn_range {P : Program} {w : World} {K : PySem.W.Frag} {tg : Expr} (it : Addr) (lo : Int) (n : Nat) : Turn P w K tg (Itr lo n) [it] it (fun i h => IsRangeIter h it (lo + (i : Nat) * 1) ((n : Int) - (i : Nat)) 1) where
  mem := by simp
  obj := fun i h st b hb => by
    have e : b = it := by simpa using hb
    subst e
    exact ⟨_, st, fun v z => by
      have z' : Data.fields _ = Data.cell v := z
      cases z'⟩
  keep := fun i h h' st k => k it (by simp) _ st
  item := by
    intro X hP hw hK hc i pins s σ H E I hf st hg
    subst hP hw hK
    obtain ⟨f0, f1, f2, f3, f4, f5⟩ := hf it (by simp)
    have W := Walks.range (prog := X.prog) (w := X.w) (I.ok.hd hc) it lo 1 n
    refine W.item i s _ _ hg st fun v h' tk hv st' kk => ?_
    obtain ⟨t, rfl⟩ := hv
    have I1 : Inv X pins σ H { s with heap := h', toks := tk } := I.turned (fun b o hb e => kk b o (by simpa using hb) e) f0 f1 f3 f4 f5
    refine ⟨_, rfl, go_of (s := { s with heap := h', toks := tk }) (n := "range_iterator") st' rfl rfl (by decide) ⟨.int (lo + i), H, I1, ⟨t, ?_⟩, ⟨rfl, rfl⟩, st', fun b hb => (hf b hb).1⟩⟩
    rw [Int.mul_one]
  done := by
    intro X hP hw hK hc i pins s σ H E I hf st hg
    subst hP hw hK
    obtain ⟨f0, f1, f2, f3, f4, f5⟩ := hf it (by simp)
    exact wpAny_pyNext_range_end (I.ok.hd hc) st (by have : n ≤ i := hg; omega) fun h' eb => ⟨rfl, I.turned (t' := s.toks) (fun b o hb e => eb b o hb e) f0 f1 f3 f4 f5⟩
  self := fun _ _ _ _ _ st h => wpAny_pyIter_rangeiter st h
end L2

namespace L2
open PySem PySem.Spec PyProof.Rows
section
variable {X : Cx} {tg : Expr}
def iList (K : PySem.W.Frag) (tl : TE) : TI := fun σ H R => tl σ H fun x H1 => ∃ a, x = .ref a ∧ (∃ xs, SqL K H1 a xs) ∧ R (Itl K a) H1
def iTup (K : PySem.W.Frag) (tl : TE) : TI := fun σ H R => tl σ H fun x H1 => ∃ a, x = .ref a ∧ (∃ xs, SqT K H1 a xs) ∧ R (Itt K a) H1
theorem pi_list {l : Expr} {tl : TE} (hl : PE X l tl) : PI X tg l (iList X.K tl) := by
  intro pins s σ H R I h
  refine thn (hl pins s σ H _ I h) fun v s1 ⟨x, H1, I1, r1, q1⟩ => ?_
  obtain ⟨a, e, ⟨xs, hq⟩, q⟩ := q1
  subst e
  cases r1
  obtain ⟨its, rv, p, hz⟩ := I1.list hq
  refine wpAny_pyIter_list p.isList ?_
  refine ⟨s1.heap.objs.size, [s1.heap.objs.size], _, _, H1, rfl, I1.kept (t' := s1.toks) fun b o e => Heap.get?_push_of_some _ e, turn_list a _, ⟨_, Heap.get?_push_size _ rfl, rfl, rfl⟩, fun b hb => ?_, q⟩
  have e : b = s1.heap.objs.size := by simpa using hb
  subst e
  exact I1.fpOk (Nat.le_refl _) (I1.hok.fresh (Nat.le_refl _))
theorem pi_tup {l : Expr} {tl : TE} (hl : PE X l tl) : PI X tg l (iTup X.K tl) := by
  intro pins s σ H R I h
  refine thn (hl pins s σ H _ I h) fun v s1 ⟨x, H1, I1, r1, q1⟩ => ?_
  obtain ⟨a, e, ⟨xs, hq⟩, q⟩ := q1
  subst e
  cases r1
  obtain ⟨its, rv, p, hz⟩ := I1.tuple hq
  refine wpAny_pyIter_tuple (show s1.heap.IsTuple a its.toArray from p) ?_
  refine ⟨s1.heap.objs.size, [s1.heap.objs.size], _, _, H1, rfl, I1.kept (t' := s1.toks) fun b o e => Heap.get?_push_of_some _ e, turn_tuple a _, ⟨_, Heap.get?_push_size _ rfl, rfl, rfl⟩, fun b hb => ?_, q⟩
  have e : b = s1.heap.objs.size := by simpa using hb
  subst e
  exact I1.fpOk (Nat.le_refl _) (I1.hok.fresh (Nat.le_refl _))
/-- a range object just made, walked -/
theorem range_it {pins : List (Addr × Obj)} {σ : St} {H : Hp} {s : Shared} {R : It → Hp → Prop} {E : Value → Shared → Prop} {lo hi : Int} {t u v : Tok} {tk : Nat} (I : Inv X pins σ H s) (h1 : -(2 ^ 62) ≤ lo) (h2 : lo < 2 ^ 62) (h3 : -(2 ^ 62) ≤ hi) (h4 : hi < 2 ^ 62)
    (q : R (Itr lo (hi - lo).toNat) H) : wpAny (model X.prog X.w) X.A (pyIter (.ref s.heap.objs.size)) (PIE X pins σ tg R) E { s with heap := s.heap.push { cls := .type "range", data := .fields #[.int lo t, .int hi u, .int 1 v] }, toks := tk } := by
  refine wpAny_pyIter_range (IsRange.new ..) (small_one h1 h2 h3 h4) ?_
  have I1 : Inv X pins σ H { s with heap := s.heap.push { cls := .type "range", data := .fields #[.int lo t, .int hi u, .int 1 v] }, toks := tk } := I.kept fun b o e => Heap.get?_push_of_some _ e
  refine ⟨(s.heap.push { cls := .type "range", data := .fields #[.int lo t, .int hi u, .int 1 v] }).objs.size, [(s.heap.push { cls := .type "range", data := .fields #[.int lo t, .int hi u, .int 1 v] }).objs.size], _, _, H, rfl,
    I1.kept (t' := tk) fun b o e => Heap.get?_push_of_some _ e, turn_range _ lo (hi - lo).toNat, ?_, fun b hb => ?_, q⟩
  · have e1 : lo + ((0 : Nat) : Int) * 1 = lo := by simp
    have e2 : (((hi - lo).toNat : Nat) : Int) - ((0 : Nat) : Int) = Builtin.Range.rangeSize lo hi 1 := by rw [rangeSize_one]; split <;> omega
    show IsRangeIter _ _ (lo + ((0 : Nat) : Int) * 1) ((((hi - lo).toNat : Nat) : Int) - ((0 : Nat) : Int)) 1
    rw [e1, e2]
    exact Heap.get?_push_size _ rfl
  · have e : b = (s.heap.push { cls := .type "range", data := .fields #[.int lo t, .int hi u, .int 1 v] }).objs.size := by simpa using hb
    subst e
    exact I1.fpOk (Nat.le_refl _) (I1.hok.fresh (Nat.le_refl _))
def iRng1 (ta : TA) : TI := fun σ H R => ta σ H fun vs H1 => ∃ j : Int, vs = [.int j] ∧ -(2 ^ 62) ≤ j ∧ j < 2 ^ 62 ∧ R (Itr 0 j.toNat) H1
theorem pi_range1 {a : Expr} {ta : TA} {p pos : Pos} (hg : Gl X "range") (hm : X.mg "range" = none) (ha : PA X [a] ta) (hs : starEach [a] X.env = [(false, eval a X.env)] := by rfl) : PI X tg (.Call (.Name "range" p) [a] [] pos) (iRng1 ta) := by
  intro pins s σ H R I h
  refine Call_ (ld_blt I hg hm boot_range (PyProof.Rows.callWith_type1 (thn (ha pos pins s σ H _ I h) fun us s1 ⟨vs, H1, I1, r1, q1⟩ => ?_) hs rfl))
  obtain ⟨j, e, q1, q2, q⟩ := q1
  subst e
  cases r1 with
  | cons r rr =>
    cases rr
    obtain ⟨t, rfl⟩ := r
    exact call_range_1 (range_it I1 (by omega) (by omega) q1 q2 (by simpa using q))

/-! ### for -/
/-- W: the invariant by the turn and a measure; N: what the body is to reach -/
def tFor (wi : TI) (g : TG) (tb : TS) : TS := fun D σ H => wi σ H fun J H1 => ∃ W : Nat → Nat → St → Hp → Prop, (∃ m, W 0 m σ H1) ∧ ∀ i m σ H, W i m σ H →
  (J.stop i H ∧ D.nx σ H) ∨ (J.go i H ∧ ∃ N : St → Hp → Prop, (∀ σ' H', N σ' H' → ∃ m', m' < m ∧ W (i + 1) m' σ' H') ∧ ∀ x H', J.yld i H x H' → g x σ H' fun σ2 H2 => tb { D with nx := N, ct := N, bk := D.nx } σ2 H2)
/-- the records at fp as they stand -/
def pinsAt (fp : List Addr) (h : Heap) : List (Addr × Obj) := fp.filterMap fun b => (h.get? b).map fun o => (b, o)
theorem mem_pinsAt {fp : List Addr} {h : Heap} {b : Addr} {o : Obj} (hb : b ∈ fp) (e : h.get? b = some o) : (b, o) ∈ pinsAt fp h := List.mem_filterMap.mpr ⟨b, hb, by rw [e]; rfl⟩
theorem of_pinsAt {fp : List Addr} {h : Heap} {p : Addr × Obj} (hp : p ∈ pinsAt fp h) : p.1 ∈ fp ∧ h.get? p.1 = some p.2 := by
  obtain ⟨b, hb, e⟩ := List.mem_filterMap.mp hp
  cases q : h.get? b with
  | none => rw [q] at e; cases e
  | some o =>
    rw [q] at e
    have e' : (b, o) = p := Option.some.inj e
    subst e'
    exact ⟨hb, q⟩
theorem Inv.pinned {pins : List (Addr × Obj)} {σ : St} {H : Hp} {s : Shared} {fp : List Addr} (I : Inv X pins σ H s) (hf : ∀ b ∈ fp, FpOk X pins H b) (ho : ∀ b ∈ fp, ∃ o, s.heap.get? b = some o ∧ ∀ v, o.data ≠ .cell v) : Inv X (pins ++ pinsAt fp s.heap) σ H s :=
  I.pins_of fun p hp => (List.mem_append.mp hp).elim (fun z => I.pin p (List.mem_append_right _ z)) fun z => by
    obtain ⟨hb, e⟩ := of_pinsAt z
    obtain ⟨f0, f1, f2, _⟩ := hf p.1 hb
    obtain ⟨o, e', d⟩ := ho p.1 hb
    rw [e] at e'; cases e'
    exact ⟨e, f0, f1, f2, d⟩
theorem Inv.unpinned {pins pl : List (Addr × Obj)} {σ : St} {H : Hp} {s : Shared} (I : Inv X (pins ++ pl) σ H s) : Inv X pins σ H s := I.pins_of fun p hp => I.pin p (List.mem_append_right _ (List.mem_append_left _ hp))
theorem ps_for {iter : Expr} {body : List Stmt} {wi : TI} {g : TG} {tb : TS} {pos : Pos} (hp : PassesOwn (model X.prog X.w) X.A X.env X.xe) (hc : X.calm = true) (hi : PI X tg iter wi) (hg : PG X tg g) (hb : PSs X body tb)
    (hs : ∀ x, foldedSetIterable iter X.env x = pure x := by intro _; rfl) : PS X (.For tg iter body [] pos) (tFor wi g tb) := by
  intro pins s σ H D I h
  refine wpAny_For (thn (hi pins s σ H _ I h) fun v s1 h1 => thn h1 fun itv s2 h2 => ?_) hs
  obtain ⟨it, fp, tn, J, H2, e, I2, T, st2, f2, W, ⟨m0, w0⟩, turn⟩ := h2
  subst e
  -- what stays true of the iterator's objects through the loop
  have stat : ∀ {H' : Hp}, (∀ b ∈ fp, H' b = none) → ∀ b ∈ fp, FpOk X pins H' b := fun hn b hb => ⟨hn b hb, (f2 b hb).2⟩
  refine codeAny_forLoop_any (fun n s' => ∃ i σ' H', Inv X pins σ' H' s' ∧ tn i s'.heap ∧ (∀ b ∈ fp, H' b = none) ∧ W i n σ' H') ?_ m0 ⟨0, σ, H2, I2, st2, fun b hb => (f2 b hb).1, w0⟩
  rintro n s3 ⟨i, σ3, H3, I3, st3, fr3, w3⟩
  rcases turn i n σ3 H3 w3 with ⟨stop, qn⟩ | ⟨go, N, hN, step⟩
  · refine wpAny_passesOwn hp (thn (T.done X rfl rfl rfl hc i pins s3 σ3 H3 X.xe I3 (stat fr3) st3 stop) fun r s4 ⟨hr, I4⟩ => ?_)
    subst hr
    exact wpAny_execs_nil ⟨σ3, H3, I4, qn⟩
  · refine wpAny_passesOwn hp (thn (T.item X rfl rfl rfl hc i pins s3 σ3 H3 X.xe I3 (stat fr3) st3 go) fun r s4 ⟨u, hr, h4⟩ => ?_)
    subst hr
    refine wpAny_passesOwn hp (thn h4 fun _ s5 ⟨x, H5, I5, r5, y5, st5, fr5⟩ => ?_)
    have I5' := I5.pinned (stat fr5) (T.obj _ _ st5)
    refine wpAny_passesOwn hp (thn (hg _ s5 σ3 H5 x u _ I5' r5 (step x H5 y5)) fun _ s6 ⟨σ6, H6, I6, q6⟩ => ?_)
    refine wpAny_passesOwn hp (thn (hb _ s6 σ6 H6 _ I6 q6) fun f s7 q7 => ?_)
    have again : ∀ {σ7 : St} {H7 : Hp}, Inv X (pins ++ pinsAt fp s5.heap) σ7 H7 s7 → N σ7 H7 → ∃ m, m < n ∧ ∃ i σ' H', Inv X pins σ' H' s7 ∧ tn i s7.heap ∧ (∀ b ∈ fp, H' b = none) ∧ W i m σ' H' := fun {σ7 H7} I7 n7 => by
      obtain ⟨m', hm, w7⟩ := hN σ7 H7 n7
      refine ⟨m', hm, i + 1, σ7, H7, I7.unpinned, T.keep _ _ _ st5 fun b hb o e => (I7.pin (b, o) (List.mem_append_right _ (List.mem_append_right _ (mem_pinsAt hb e)))).1, fun b hb => ?_, w7⟩
      obtain ⟨o, e, d⟩ := T.obj _ _ st5 b hb
      exact (I7.pin (b, o) (List.mem_append_right _ (List.mem_append_right _ (mem_pinsAt hb e)))).2.1
    cases f with
    | next => obtain ⟨σ7, H7, I7, n7⟩ := q7; exact again I7 n7
    | cont => obtain ⟨σ7, H7, I7, n7⟩ := q7; exact again I7 n7
    | brk => obtain ⟨σ7, H7, I7, q7⟩ := q7; exact ⟨σ7, H7, I7.unpinned, q7⟩
    | ret v => obtain ⟨x7, σ7, H7, I7, r7, q7⟩ := q7; exact ⟨x7, σ7, H7, I7.unpinned, r7, q7⟩
end

/-! ### the forms one uses -/
/-- over a list that the body leaves as it is -/
theorem for_list {K : PySem.W.Frag} {a : Addr} {xs : List V} {g : TG} {tb : TS} {D : Ends} {σ : St} {H : Hp} (Pv : Nat → St → Hp → Prop) (h0 : Pv 0 σ H) (hl : ∀ i σ H, i ≤ xs.length → Pv i σ H → SqL K H a xs)
    (hs : ∀ i x σ H, xs[i]? = some x → Pv i σ H → g x σ H fun σ2 H2 => tb { D with nx := Pv (i + 1), ct := Pv (i + 1), bk := D.nx } σ2 H2) (hd : ∀ σ H, Pv xs.length σ H → D.nx σ H) :
    ∃ W : Nat → Nat → St → Hp → Prop, (∃ m, W 0 m σ H) ∧ ∀ i m σ H, W i m σ H →
      ((Itl K a).stop i H ∧ D.nx σ H) ∨ ((Itl K a).go i H ∧ ∃ N : St → Hp → Prop, (∀ σ' H', N σ' H' → ∃ m', m' < m ∧ W (i + 1) m' σ' H') ∧ ∀ x H', (Itl K a).yld i H x H' → g x σ H' fun σ2 H2 => tb { D with nx := N, ct := N, bk := D.nx } σ2 H2) := by
  refine ⟨fun i m σ H => m = xs.length - i ∧ i ≤ xs.length ∧ Pv i σ H, ⟨xs.length, by simp, Nat.zero_le _, h0⟩, ?_⟩
  rintro i m σ H ⟨rfl, hi, p⟩
  have q := hl i σ H hi p
  by_cases hlt : i < xs.length
  · refine .inr ⟨⟨xs, xs[i], q, by simp [hlt]⟩, Pv (i + 1), fun σ' H' p' => ⟨xs.length - (i + 1), by omega, rfl, hlt, p'⟩, fun x H' y => ?_⟩
    obtain ⟨e, y⟩ := y
    subst e
    exact hs i x σ _ (y xs q) p
  · have e : i = xs.length := by omega
    subst e
    exact .inl ⟨⟨xs, q, Nat.le_refl _⟩, hd σ H p⟩
theorem for_tup {K : PySem.W.Frag} {a : Addr} {xs : List V} {g : TG} {tb : TS} {D : Ends} {σ : St} {H : Hp} (Pv : Nat → St → Hp → Prop) (h0 : Pv 0 σ H) (hl : ∀ i σ H, i ≤ xs.length → Pv i σ H → SqT K H a xs)
    (hs : ∀ i x σ H, xs[i]? = some x → Pv i σ H → g x σ H fun σ2 H2 => tb { D with nx := Pv (i + 1), ct := Pv (i + 1), bk := D.nx } σ2 H2) (hd : ∀ σ H, Pv xs.length σ H → D.nx σ H) :
    ∃ W : Nat → Nat → St → Hp → Prop, (∃ m, W 0 m σ H) ∧ ∀ i m σ H, W i m σ H →
      ((Itt K a).stop i H ∧ D.nx σ H) ∨ ((Itt K a).go i H ∧ ∃ N : St → Hp → Prop, (∀ σ' H', N σ' H' → ∃ m', m' < m ∧ W (i + 1) m' σ' H') ∧ ∀ x H', (Itt K a).yld i H x H' → g x σ H' fun σ2 H2 => tb { D with nx := N, ct := N, bk := D.nx } σ2 H2) := by
  refine ⟨fun i m σ H => m = xs.length - i ∧ i ≤ xs.length ∧ Pv i σ H, ⟨xs.length, by simp, Nat.zero_le _, h0⟩, ?_⟩
  rintro i m σ H ⟨rfl, hi, p⟩
  have q := hl i σ H hi p
  by_cases hlt : i < xs.length
  · refine .inr ⟨⟨xs, xs[i], q, by simp [hlt]⟩, Pv (i + 1), fun σ' H' p' => ⟨xs.length - (i + 1), by omega, rfl, hlt, p'⟩, fun x H' y => ?_⟩
    obtain ⟨e, y⟩ := y
    subst e
    exact hs i x σ _ (y xs q) p
  · have e : i = xs.length := by omega
    subst e
    exact .inl ⟨⟨xs, q, Nat.le_refl _⟩, hd σ H p⟩
theorem for_range {lo : Int} {n : Nat} {g : TG} {tb : TS} {D : Ends} {σ : St} {H : Hp} (Pv : Nat → St → Hp → Prop) (h0 : Pv 0 σ H)
    (hs : ∀ i σ H, i < n → Pv i σ H → g (.int (lo + i)) σ H fun σ2 H2 => tb { D with nx := Pv (i + 1), ct := Pv (i + 1), bk := D.nx } σ2 H2) (hd : ∀ σ H, Pv n σ H → D.nx σ H) :
    ∃ W : Nat → Nat → St → Hp → Prop, (∃ m, W 0 m σ H) ∧ ∀ i m σ H, W i m σ H →
      ((Itr lo n).stop i H ∧ D.nx σ H) ∨ ((Itr lo n).go i H ∧ ∃ N : St → Hp → Prop, (∀ σ' H', N σ' H' → ∃ m', m' < m ∧ W (i + 1) m' σ' H') ∧ ∀ x H', (Itr lo n).yld i H x H' → g x σ H' fun σ2 H2 => tb { D with nx := N, ct := N, bk := D.nx } σ2 H2) := by
  refine ⟨fun i m σ H => m = n - i ∧ i ≤ n ∧ Pv i σ H, ⟨n, by simp, Nat.zero_le _, h0⟩, ?_⟩
  rintro i m σ H ⟨rfl, hi, p⟩
  by_cases hlt : i < n
  · refine .inr ⟨hlt, Pv (i + 1), fun σ' H' p' => ⟨n - (i + 1), by omega, rfl, hlt, p'⟩, fun x H' y => ?_⟩
    obtain ⟨e, y⟩ := y
    subst e y
    exact hs i σ _ hlt p
  · have e : i = n := by omega
    subst e
    exact .inl ⟨Nat.le_refl _, hd σ H p⟩
end L2

namespace L2
open PySem PySem.Spec PyProof.Rows

abbrev R2 := V → V → Hp → VK → Prop
/-- a two-place operation on values: f is binaryOp op, inplaceOp op or compareOp op -/
def OpR (X : Cx) (f : Value → Value → Sem Value) (r : R2) : Prop :=
  ∀ (pins : List (Addr × Obj)) (s : Shared) (σ : St) (H : Hp) (x y : V) (v u : Value) (Q : VK), Inv X pins σ H s → RelV x v → RelV y u → r x y H Q →
    wpAny (model X.prog X.w) X.A (f v u) (EP X pins σ Q) X.xe s
/-- a one-place operation -/
def UnR (X : Cx) (f : Value → Sem Value) (r : V → Hp → VK → Prop) : Prop :=
  ∀ (pins : List (Addr × Obj)) (s : Shared) (σ : St) (H : Hp) (x : V) (v : Value) (Q : VK), Inv X pins σ H s → RelV x v → r x H Q →
    wpAny (model X.prog X.w) X.A (f v) (EP X pins σ Q) X.xe s
/-- a call of a value that is known (a builtin, a type) with values -/
def CallR (X : Cx) (f : Value) (r : List V → Hp → VK → Prop) : Prop :=
  ∀ (pins : List (Addr × Obj)) (s : Shared) (σ : St) (H : Hp) (xs : List V) (us : List Value) (Q : VK), Inv X pins σ H s → Vals xs us → r xs H Q →
    wpAny (model X.prog X.w) X.A (call f us) (EP X pins σ Q) X.xe s

def tOp (r : R2) (ta tb : TE) : TE := fun σ H Q => ta σ H fun x H1 => tb σ H1 fun y H2 => r x y H2 Q
def tUn (r : V → Hp → VK → Prop) (ta : TE) : TE := fun σ H Q => ta σ H fun x H1 => r x H1 Q
/-- ints in, under C, and a value out -/
def rI (C : Int → Int → Prop) (g : Int → Int → V) : R2 := fun x y H Q => ∃ i j, x = .int i ∧ y = .int j ∧ C i j ∧ Q (g i j) H
def rI0 (g : Int → Int → V) : R2 := fun x y H Q => ∃ i j, x = .int i ∧ y = .int j ∧ Q (g i j) H
def rU (g : Int → V) : V → Hp → VK → Prop := fun x H Q => ∃ i, x = .int i ∧ Q (g i) H

section
variable {X : Cx} {a b c : Expr} {ta tb tc : TE} {pos : Pos}

theorem binT (ha : PE X a ta) (hb : PE X b tb) {pins : List (Addr × Obj)} {s : Shared} {σ : St} {H : Hp} {R : V → V → Hp → Prop} (I : Inv X pins σ H s)
    (h : ta σ H fun x H1 => tb σ H1 fun y H2 => R x y H2) {Q : Value → Shared → Prop} {f : Value → Value → Sem Value}
    (hf : ∀ v u s2 x y H2, Inv X pins σ H2 s2 → RelV x v → RelV y u → R x y H2 → wpAny (model X.prog X.w) X.A (f v u) Q X.xe s2) :
    wpAny (model X.prog X.w) X.A (eval a X.env) (fun v s₁ => wpAny (model X.prog X.w) X.A (eval b X.env) (fun u s₂ => wpAny (model X.prog X.w) X.A (f v u) Q X.xe s₂) X.xe s₁) X.xe s := by
  refine thn (ha pins s σ H _ I h) fun v s1 ⟨x, H1, I1, r1, q1⟩ => ?_
  refine thn (hb pins s1 σ H1 _ I1 q1) fun u s2 ⟨y, H2, I2, r2, q2⟩ => ?_
  exact hf v u s2 x y H2 I2 r1 r2 q2

theorem pe_op {op : Operator} {r : R2} (ho : OpR X (binaryOp op) r) (ha : PE X a ta) (hb : PE X b tb) : PE X (.BinOp a op b pos) (tOp r ta tb) := by
  intro pins s σ H Q I h
  exact wpAny_BinOp (binT ha hb I h fun v u s2 x y H2 I2 rx ry q => ho pins s2 σ H2 x y v u Q I2 rx ry q)
theorem pe_un {op : UnaryOp} {r : V → Hp → VK → Prop} (ho : UnR X (unaryOp op) r) (ha : PE X a ta) : PE X (.UnaryOp op a pos) (tUn r ta) := by
  intro pins s σ H Q I h
  exact UnaryOp_ (thn (ha pins s σ H _ I h) fun v s1 ⟨x, H1, I1, r1, q1⟩ => ho pins s1 σ H1 x v Q I1 r1 q1)

/-! ### ints -/
theorem opI {f : Value → Value → Sem Value} {C : Int → Int → Prop} {g : Int → Int → Int}
    (rule : ∀ (i j : Int) (t u : Tok) (s : Shared) (Q : Value → Shared → Prop) (E : Value → Shared → Prop), C i j → Q (.int (g i j) s.toks) { s with toks := s.toks + 1 } → wpAny (model X.prog X.w) X.A (f (.int i t) (.int j u)) Q E s) :
    OpR X f (rI C fun i j => .int (g i j)) := by
  intro pins s σ H x y v u Q I rx ry h
  obtain ⟨i, j, rfl, rfl, hc, q⟩ := h
  obtain ⟨t, rfl⟩ := rx
  obtain ⟨t', rfl⟩ := ry
  exact rule i j t t' s _ _ hc ⟨.int (g i j), H, I.tok _, ⟨_, rfl⟩, q⟩
theorem opI0 {f : Value → Value → Sem Value} {g : Int → Int → Int}
    (rule : ∀ (i j : Int) (t u : Tok) (s : Shared) (Q : Value → Shared → Prop) (E : Value → Shared → Prop), Q (.int (g i j) s.toks) { s with toks := s.toks + 1 } → wpAny (model X.prog X.w) X.A (f (.int i t) (.int j u)) Q E s) :
    OpR X f (rI0 fun i j => .int (g i j)) := by
  intro pins s σ H x y v u Q I rx ry h
  obtain ⟨i, j, rfl, rfl, q⟩ := h
  obtain ⟨t, rfl⟩ := rx
  obtain ⟨t', rfl⟩ := ry
  exact rule i j t t' s _ _ ⟨.int (g i j), H, I.tok _, ⟨_, rfl⟩, q⟩
theorem opB0 {f : Value → Value → Sem Value} {g : Int → Int → Bool}
    (rule : ∀ (i j : Int) (t u : Tok) (s : Shared) (Q : Value → Shared → Prop) (E : Value → Shared → Prop), Q (.bool (g i j)) s → wpAny (model X.prog X.w) X.A (f (.int i t) (.int j u)) Q E s) :
    OpR X f (rI0 fun i j => .bl (g i j)) := by
  intro pins s σ H x y v u Q I rx ry h
  obtain ⟨i, j, rfl, rfl, q⟩ := h
  obtain ⟨t, rfl⟩ := rx
  obtain ⟨t', rfl⟩ := ry
  exact rule i j t t' s _ _ ⟨.bl (g i j), H, I, rfl, q⟩

def CDiv (i j : Int) : Prop := 0 < j ∧ j < 1073741824
def CPow (i j : Int) : Prop := 0 ≤ j ∧ j ≤ 1000000 ∧ i.natAbs < 2 ^ 64
def CMul (i j : Int) : Prop := (-(2 ^ 64) < i ∧ i < 2 ^ 64) ∨ (-(2 ^ 64) < j ∧ j < 2 ^ 64)
theorem CMul.ok {i j : Int} (h : CMul i j) : IntMulOk i j := by
  rcases h with ⟨h1, h2⟩ | ⟨h1, h2⟩
  · exact .of_left (intBits_le_64 h1 h2)
  · exact .of_right (intBits_le_64 h1 h2)

theorem op_add : OpR X (binaryOp .Add) (rI0 fun i j => .int (i + j)) := opI0 fun _ _ _ _ _ _ _ q => add_int q
theorem op_sub : OpR X (binaryOp .Sub) (rI0 fun i j => .int (i - j)) := opI0 fun _ _ _ _ _ _ _ q => sub_int q
theorem op_mul : OpR X (binaryOp .Mult) (rI CMul fun i j => .int (i * j)) := opI fun _ _ _ _ _ _ _ hc q => mul_int q hc.ok
/-- // by a positive divisor -/
theorem op_fdiv : OpR X (binaryOp .FloorDiv) (rI CDiv fun i j => .int (i / j)) := opI fun i j _ _ _ _ _ hc q => by
  have h1 : (0 : Int) < j := hc.1
  have h2 : j < 1073741824 := hc.2
  exact floordiv_int (by omega) (by rw [Int.fdiv_eq_ediv_of_nonneg i (by omega)]; exact q) (.inl (PyProof.noPylong_small (by omega)))
/-- % by a positive divisor of any size -/
theorem op_mod : OpR X (binaryOp .Mod) (rI (fun _ j => 0 < j) fun i j => .int (i % j)) := opI fun i j _ _ _ _ _ hc q => by
  have h1 : (0 : Int) < j := hc
  exact mod_int' (by omega) (by rw [Int.fmod_eq_emod_of_nonneg i (by omega)]; exact q)
theorem op_pow : OpR X (binaryOp .Pow) (rI CPow fun i j => .int (i ^ j.toNat)) := opI fun _ _ _ _ _ _ _ hc q => pow_int_small hc.1 hc.2.1 hc.2.2 q

theorem unI {f : Value → Sem Value} {g : Int → Int}
    (rule : ∀ (i : Int) (t : Tok) (s : Shared) (Q : Value → Shared → Prop) (E : Value → Shared → Prop), Q (.int (g i) s.toks) { s with toks := s.toks + 1 } → wpAny (model X.prog X.w) X.A (f (.int i t)) Q E s) :
    UnR X f (rU fun i => .int (g i)) := by
  intro pins s σ H x v Q I rx h
  obtain ⟨i, rfl, q⟩ := h
  obtain ⟨t, rfl⟩ := rx
  exact rule i t s _ _ ⟨.int (g i), H, I.tok _, ⟨_, rfl⟩, q⟩
theorem un_neg : UnR X (unaryOp .USub) (rU fun i => .int (-i)) := unI fun _ _ _ _ _ q => neg_int q

end

/-! ### comparisons -/
/-- the scalars that == tells apart as data does -/
def scal : V → V → Bool
  | .non, .non => true | .non, .int _ => true | .int _, .non => true | .non, .bl _ => true | .bl _, .non => true | .non, .str _ => true | .str _, .non => true
  | .int _, .int _ => true | .bl _, .bl _ => true | .str _, .str _ => true | .byt _, .byt _ => true
  | .int _, .str _ => true | .str _, .int _ => true | .bl _, .str _ => true | .str _, .bl _ => true
  | _, _ => false
def rEq : R2 := fun x y H Q => scal x y = true ∧ Q (.bl (decide (x = y))) H
def rNe : R2 := fun x y H Q => scal x y = true ∧ Q (.bl (!decide (x = y))) H

theorem dec_int {i j : Int} : decide (V.int i = V.int j) = (i == j) := by
  rw [Bool.eq_iff_iff]
  simp
theorem dec_bl {i j : Bool} : decide (V.bl i = V.bl j) = (i == j) := by
  rw [Bool.eq_iff_iff]
  simp
theorem dec_str {i j : Str} : decide (V.str i = V.str j) = (i == j) := by
  rw [Bool.eq_iff_iff]
  simp
theorem dec_byt {i j : Array UInt8} : decide (V.byt i = V.byt j) = (i.toList == j.toList) := by
  rw [Bool.eq_iff_iff]
  cases i
  cases j
  simp

section
variable {X : Cx} {a b c : Expr} {ta tb tc : TE} {pos : Pos}
theorem fin_bl {pins : List (Addr × Obj)} {σ : St} {H : Hp} {s : Shared} {Q : VK} {k k' : Bool} (I : Inv X pins σ H s) (q : Q (.bl k) H) (e : k = k') : EP X pins σ Q (.bool k') s := by
  subst e
  exact ⟨.bl k, H, I, rfl, q⟩
theorem op_eq : OpR X (compareOp .Eq) rEq := by
  intro pins s σ H x y v u Q I rx ry h
  obtain ⟨hs, q⟩ := h
  cases x with
  | non =>
    cases rx
    cases y with
    | non => cases ry; exact PySem.EqNone.eq_none_none (fin_bl I q (by simp))
    | bl j => cases ry; exact PySem.EqNone.eq_none_bool (fin_bl I q (by simp))
    | int j => obtain ⟨t', rfl⟩ := ry; exact PySem.EqNone.eq_none_int (fin_bl I q (by simp))
    | str j => obtain ⟨t', rfl⟩ := ry; exact PySem.EqNone.eq_none_str (fin_bl I q (by simp))
    | _ => exact absurd (show false = true from hs) Bool.false_ne_true
  | bl i =>
    cases rx
    cases y with
    | non => cases ry; exact PySem.EqNone.eq_bool_none (fin_bl I q (by simp))
    | bl j => cases ry; exact eq_bool (fin_bl I q dec_bl)
    | str j => obtain ⟨t', rfl⟩ := ry; exact PySem.EqMixed.eq_bool_str (fin_bl I q (by simp))
    | _ => exact absurd (show false = true from hs) Bool.false_ne_true
  | int i =>
    obtain ⟨t, rfl⟩ := rx
    cases y with
    | non => cases ry; exact PySem.EqNone.eq_int_none (fin_bl I q (by simp))
    | int j => obtain ⟨t', rfl⟩ := ry; exact eq_int (fin_bl I q dec_int)
    | str j => obtain ⟨t', rfl⟩ := ry; exact PySem.EqMixed.eq_int_str (fin_bl I q (by simp))
    | _ => exact absurd (show false = true from hs) Bool.false_ne_true
  | str i =>
    obtain ⟨t, rfl⟩ := rx
    cases y with
    | non => cases ry; exact PySem.EqNone.eq_str_none (fin_bl I q (by simp))
    | bl j => cases ry; exact PySem.EqMixed.eq_str_bool (fin_bl I q (by simp))
    | int j => obtain ⟨t', rfl⟩ := ry; exact PySem.EqMixed.eq_str_int (fin_bl I q (by simp))
    | str j => obtain ⟨t', rfl⟩ := ry; exact eq_str (fin_bl I q dec_str)
    | _ => exact absurd (show false = true from hs) Bool.false_ne_true
  | byt i =>
    obtain ⟨t, rfl⟩ := rx
    cases y with
    | byt j => obtain ⟨t', rfl⟩ := ry; exact PySem.W.eq_bytes (fin_bl I q dec_byt)
    | _ => exact absurd (show false = true from hs) Bool.false_ne_true
  | _ => cases y <;> exact absurd (show false = true from hs) Bool.false_ne_true
theorem op_ne : OpR X (compareOp .NotEq) rNe := by
  intro pins s σ H x y v u Q I rx ry h
  obtain ⟨hs, q⟩ := h
  cases x with
  | non =>
    cases rx
    cases y with
    | non => cases ry; exact PySem.EqNone.ne_none_none (fin_bl I q (by simp))
    | bl j => cases ry; exact PySem.EqNone.ne_none_bool (fin_bl I q (by simp))
    | int j => obtain ⟨t', rfl⟩ := ry; exact PySem.EqNone.ne_none_int (fin_bl I q (by simp))
    | str j => obtain ⟨t', rfl⟩ := ry; exact PySem.EqNone.ne_none_str (fin_bl I q (by simp))
    | _ => exact absurd (show false = true from hs) Bool.false_ne_true
  | bl i =>
    cases rx
    cases y with
    | non => cases ry; exact PySem.EqNone.ne_bool_none (fin_bl I q (by simp))
    | bl j => cases ry; exact ne_bool (fin_bl I q (congrArg not dec_bl))
    | str j => obtain ⟨t', rfl⟩ := ry; exact PySem.EqMixed.ne_bool_str (fin_bl I q (by simp))
    | _ => exact absurd (show false = true from hs) Bool.false_ne_true
  | int i =>
    obtain ⟨t, rfl⟩ := rx
    cases y with
    | non => cases ry; exact PySem.EqNone.ne_int_none (fin_bl I q (by simp))
    | int j => obtain ⟨t', rfl⟩ := ry; exact ne_int (fin_bl I q (congrArg not dec_int))
    | str j => obtain ⟨t', rfl⟩ := ry; exact PySem.EqMixed.ne_int_str (fin_bl I q (by simp))
    | _ => exact absurd (show false = true from hs) Bool.false_ne_true
  | str i =>
    obtain ⟨t, rfl⟩ := rx
    cases y with
    | non => cases ry; exact PySem.EqNone.ne_str_none (fin_bl I q (by simp))
    | bl j => cases ry; exact PySem.EqMixed.ne_str_bool (fin_bl I q (by simp))
    | int j => obtain ⟨t', rfl⟩ := ry; exact PySem.EqMixed.ne_str_int (fin_bl I q (by simp))
    | str j => obtain ⟨t', rfl⟩ := ry; exact ne_str (fin_bl I q (congrArg not dec_str))
    | _ => exact absurd (show false = true from hs) Bool.false_ne_true
  | byt i =>
    obtain ⟨t, rfl⟩ := rx
    cases y with
    | byt j => obtain ⟨t', rfl⟩ := ry; exact PySem.W.ne_bytes (fin_bl I q (congrArg not dec_byt))
    | _ => exact absurd (show false = true from hs) Bool.false_ne_true
  | _ => cases y <;> exact absurd (show false = true from hs) Bool.false_ne_true

theorem op_lt : OpR X (compareOp .Lt) (rI0 fun i j => .bl (decide (i < j))) := opB0 fun _ _ _ _ _ _ _ q => lt_int q
theorem op_gt : OpR X (compareOp .Gt) (rI0 fun i j => .bl (decide (j < i))) := opB0 fun _ _ _ _ _ _ _ q => gt_int q
theorem op_ge : OpR X (compareOp .GtE) (rI0 fun i j => .bl (decide (j ≤ i))) := opB0 fun _ _ _ _ _ _ _ q => ge_int q

/-- is None, is not None: the right side a value none -/
theorem op_isN : OpR X (compareOp .Is) (fun x y H Q => y = .non ∧ Q (.bl (decide (x = .non))) H) := by
  intro pins s σ H x y v u Q I rx ry h
  obtain ⟨rfl, q⟩ := h
  cases ry
  refine is_none_gen (fin_bl I q ?_)
  cases x <;> first
    | (cases rx; rfl)
    | (obtain ⟨t, rfl⟩ := rx; rfl)
theorem op_notN : OpR X (compareOp .IsNot) (fun x y H Q => y = .non ∧ Q (.bl (!decide (x = .non))) H) := by
  intro pins s σ H x y v u Q I rx ry h
  obtain ⟨rfl, q⟩ := h
  cases ry
  refine isnot_none_gen (fin_bl I q ?_)
  cases x <;> first
    | (cases rx; rfl)
    | (obtain ⟨t, rfl⟩ := rx; rfl)

theorem nomark (b : Expr) {op : CmpOp} (h : op ≠ .In := by decide) (h2 : op ≠ .NotIn := by decide) : behindInMarks op b = false := by
  have e1 : (op == CmpOp.In) = false := by cases op <;> first | rfl | exact absurd rfl h
  have e2 : (op == CmpOp.NotIn) = false := by cases op <;> first | rfl | exact absurd rfl h2
  cases b <;> simp [behindInMarks, e1, e2]
/-- a comparison as a value; hm: nomark b, or (for in, not in) by with_unfolding_all rfl -/
theorem pe_cmpR {op : CmpOp} {r : R2} (ho : OpR X (compareOp op) r) (ha : PE X a ta) (hb : PE X b tb) (hm : behindInMarks op b = false) : PE X (.Compare a [op] [b] pos) (tOp r ta tb) := by
  intro pins s σ H Q I h
  exact wpAny_Compare1 (binT ha hb I h fun v u s2 x y H2 I2 rx ry q => ho pins s2 σ H2 x y v u Q I2 rx ry q) hm
/-- a reading of a value as a test -/
def tTest (t : TE) : TT := fun σ H Q => t σ H fun x H' => ∃ k, x = .bl k ∧ Q k H'
theorem pt_cmpR {op : CmpOp} {r : R2} (ho : OpR X (compareOp op) r) (ha : PE X a ta) (hb : PE X b tb) (hm : behindInMarks op b = false) : PT X (.Compare a [op] [b] pos) (tTest (tOp r ta tb)) := by
  intro pins s σ H Q I h
  refine wpAny_isTrue_Compare1 (thn (ha pins s σ H _ I h) fun v s1 ⟨x, H1, I1, r1, q1⟩ => thn (hb pins s1 σ H1 _ I1 q1) fun u s2 ⟨y, H2, I2, r2, q2⟩ =>
    thn (ho pins s2 σ H2 x y v u _ I2 r1 r2 q2) fun c s3 ⟨z, H3, I3, r3, k, e, q3⟩ => ?_) hm
  subst e
  cases r3
  exact wpAny_truthy_bool ⟨H3, I3, q3⟩

theorem line63 : (sizeLine : Nat) < 2 ^ 63 := by rw [sizeLine_eq]; decide

theorem op_add_str : OpR X (binaryOp .Add) (fun x y H Q => ∃ i j, x = .str i ∧ y = .str j ∧ i.length + j.length ≤ sizeLine ∧ Q (.str (i ++ j)) H) := by
  intro pins s σ H x y v u Q I rx ry h
  obtain ⟨i, j, rfl, rfl, hz, q⟩ := h
  obtain ⟨t, rfl⟩ := rx
  obtain ⟨t', rfl⟩ := ry
  exact add_str (fun t' tk => ⟨.str (i ++ j), H, I.tok _, ⟨_, rfl⟩, q⟩) hz

/-! ### scalar builtins, by CallR -/
theorem vals1 {x : V} {us : List Value} (r : Vals [x] us) : ∃ u, us = [u] ∧ RelV x u := by
  cases r with
  | cons r1 r2 => cases r2; exact ⟨_, rfl, r1⟩
theorem vals2 {x y : V} {us : List Value} (r : Vals [x, y] us) : ∃ u w', us = [u, w'] ∧ RelV x u ∧ RelV y w' := by
  cases r with
  | cons r1 r2 =>
    cases r2 with
    | cons r3 r4 => cases r4; exact ⟨_, _, rfl, r1, r3⟩
theorem call_abs : CallR X (.builtin "abs") (fun xs H Q => ∃ i, xs = [.int i] ∧ Q (.int (if i < 0 then -i else i)) H) := by
  intro pins s σ H xs us Q I r h
  obtain ⟨i, rfl, q⟩ := h
  obtain ⟨u, rfl, t, rfl⟩ := vals1 r
  exact call_abs_int fun u tk => ⟨.int (if i < 0 then -i else i), H, I.tok _, ⟨_, rfl⟩, q⟩
theorem call_max2 (hc : X.calm = true) : CallR X (.builtin "max") (fun xs H Q => ∃ i j, xs = [.int i, .int j] ∧ Q (.int (if j > i then j else i)) H) := by
  intro pins s σ H xs us Q I r h
  obtain ⟨i, j, rfl, q⟩ := h
  obtain ⟨u, w', rfl, ⟨t, rfl⟩, ⟨t', rfl⟩⟩ := vals2 r
  refine max_two_ints (I.ok.hd hc) fun h' tk k => ⟨_, H, I.kept k, ?_, q⟩
  by_cases hj : j > i
  · rw [if_pos hj, if_pos hj]; exact ⟨_, rfl⟩
  · rw [if_neg hj, if_neg hj]; exact ⟨_, rfl⟩
theorem call_min2 (hc : X.calm = true) : CallR X (.builtin "min") (fun xs H Q => ∃ i j, xs = [.int i, .int j] ∧ Q (.int (if j < i then j else i)) H) := by
  intro pins s σ H xs us Q I r h
  obtain ⟨i, j, rfl, q⟩ := h
  obtain ⟨u, w', rfl, ⟨t, rfl⟩, ⟨t', rfl⟩⟩ := vals2 r
  refine min_two_ints (I.ok.hd hc) fun h' tk k => ⟨_, H, I.kept k, ?_, q⟩
  by_cases hj : j < i
  · rw [if_pos hj, if_pos hj]; exact ⟨_, rfl⟩
  · rw [if_neg hj, if_neg hj]; exact ⟨_, rfl⟩
theorem call_int1 : CallR X (.type "int") (fun xs H Q => (∃ i, xs = [.int i] ∧ Q (.int i) H) ∨ ∃ k, xs = [.bl k] ∧ Q (.int (if k then 1 else 0)) H) := by
  intro pins s σ H xs us Q I r h
  rcases h with ⟨i, rfl, q⟩ | ⟨k, rfl, q⟩
  · obtain ⟨u, rfl, t, rfl⟩ := vals1 r
    exact call_int_int ⟨.int i, H, I, ⟨_, rfl⟩, q⟩
  · obtain ⟨u, rfl, r1⟩ := vals1 r
    cases r1
    exact call_int_bool ⟨.int (if k then 1 else 0), H, I.tok _, ⟨_, rfl⟩, q⟩
end
end L2

namespace L2
open PySem PySem.Spec PyProof.Rows

/-! ### an instance, its attributes a map -/
structure ObjM (h : Heap) (x dx C : Addr) (mA : Str → Option Value) : Prop where
  obj : h.get? x = some (PySem.W.instObj C dx)
  ns : h.Ns1 dx mA
  ne : dx ≠ x

theorem lookIn_ns {h : Heap} {dx : Addr} {mA : Str → Option Value} (n : h.Ns1 dx mA) : ∃ od, h.get? dx = some od ∧ ∀ name, PySem.W.lookIn name od = some (mA name) := by
  obtain ⟨o, es, ep, ho, hd, hk, _, hm⟩ := n
  refine ⟨o, ho, fun name => ?_⟩
  have e := hm name
  unfold nsFind findBy at e
  rw [← Array.find?_toList] at e
  unfold PySem.W.lookIn
  rw [hd]
  dsimp only
  split
  · rename_i y q
    rw [q] at e
    exact congrArg some e
  · rename_i q
    rw [q] at e
    have a : es.toList.any (·.refKey) = false := by
      rw [List.any_eq_false]
      intro y hy
      obtain ⟨z, t, hkey⟩ := hk y (Array.mem_toList_iff.mp hy)
      simp [DictEntry.refKey, hkey]
    have a' : ¬ es.toList.any (·.refKey) = true := by rw [a]; exact Bool.false_ne_true
    rw [if_neg a']
    exact congrArg some e

theorem ObjM.look {h : Heap} {x dx C : Addr} {mA : Str → Option Value} (I : ObjM h x dx C mA) : ∃ od, PySem.W.InstAt h x (PySem.W.instObj C dx) C (some od) ∧ ∀ name, PySem.W.lookIn name od = some (mA name) :=
  let ⟨od, ho, hl⟩ := lookIn_ns I.ns
  ⟨od, ⟨I.obj, rfl, rfl, ho⟩, hl⟩

section
variable {prog : Program} {w : World} {A : Around} {E : Value → Shared → Prop} {s : Shared} {K : PySem.W.Frag} {x dx C f : Addr} {mA : Str → Option Value} {name : Str} {v : Value}

end

section
variable {P : Program} {w : World} {H H' : Hp} {h h' : Heap} {a C dx : Addr} {fs fs' : List (Str × V)}
theorem ins_get (hok : HOk P w H h) (e : H a = some (.ins C dx fs)) : ∃ mA, ObjM h a dx C mA ∧ (∀ f, RelO (fs.lookup f) (mA f)) ∧ PySem.Within mA (fs.map (·.1)) ∧ fs.length ≤ 1000 ∧ H dx = some (.own a) := by
  obtain ⟨d, z, ne, ob, mA, n, r, q⟩ := (show ObjOk P w H h a (.ins C dx fs) from hok a _ e)
  exact ⟨mA, ⟨ob, n, ne⟩, r, q, z, d⟩
end

/-! ### what of the text a class must have -/
structure Cls (K : PySem.W.Frag) (C : Addr) : Prop where
  pg : PySem.W.plainGet K C Str.empty = true
  hd : PySem.W.hasDictIn K C = true
  po : PySem.W.plainOver K C = true
  sa : PySem.W.findIn K (.ref C) "__setattr__" = some (some (.builtin "object.__setattr__"))
theorem Cls.get {K : PySem.W.Frag} {C : Addr} (c : Cls K C) (f : Str) : PySem.W.plainGet K C f = true := c.pg

section
variable {X : Cx} {pins : List (Addr × Obj)} {σ : St} {H : Hp} {s : Shared} {a C dx : Addr} {fs : List (Str × V)} {f : Str} {v : V} {A : Around} {E : Value → Shared → Prop}

end

section
variable {X : Cx} {o e value : Expr} {f : Str} {pos pos' tpos : Pos} {ta tv : TE}

end

/-! ### isinstance -/
section
variable {X : Cx} {pins : List (Addr × Obj)} {σ : St} {H : Hp} {s : Shared} {A : Around} {E : Value → Shared → Prop} {Q : Value → Shared → Prop} {c : Value} {b : Bool}
/-- the type of a value, as the fragment's deciders take it; for an instance its class -/
inductive TyOf (K : PySem.W.Frag) (H : Hp) : V → Value → Prop where
  | non : TyOf K H .non (.type "NoneType")
  | bl (x : Bool) : TyOf K H (.bl x) (.type "bool")
  | int (i : Int) : TyOf K H (.int i) (.type "int")
  | str (x : Str) : TyOf K H (.str x) (.type "str")
  | flt (x : UInt64) : TyOf K H (.flt x) (.type "float")
  | lst {a : Addr} {xs : List V} (e : H a = some (.lst xs)) : TyOf K H (.ref a) (.type "list")
  | frz {a : Addr} {o : Obj} {xs : List V} (e : H a = some (.frz o (.lst xs))) : TyOf K H (.ref a) (.type "list")
  | tup {a : Addr} {xs : List V} (e : H a = some (.tup xs)) : TyOf K H (.ref a) (.type "tuple")
  | dK {a : Addr} {kvs : List (Key × V)} (e : H a = some (.dK kvs)) : TyOf K H (.ref a) (.type "dict")
  | dT {a : Addr} {kvs : List (List Key × V)} (e : H a = some (.dT kvs)) : TyOf K H (.ref a) (.type "dict")
  | ins {a C dx : Addr} {fs : List (Str × V)} (e : H a = some (.ins C dx fs)) (cl : Cls K C) (ha : PySem.W.findIn K (.ref C) "__class__" = some (some (.builtin "object.__class__")))
      (hn : PySem.W.specialIn K (.builtin "object.__class__") "__get__" = some (some (.builtin "getset_descriptor.__get__"))) (htk : PySem.W.takesIn K (.builtin "object.__class__") = some true)
      (hm : PySem.W.mroIn K C (.type "object") = some true) : TyOf K H (.ref a) (.ref C)
/-- isinstance(x, c) for one class c, a built-in or an own one: kitOne's answer -/
theorem isinst_ok {x : V} {u t : Value} (I : Inv X pins σ H s) (rx : RelV x u) (ty : TyOf X.K H x t) (e : PySem.W.kitOne X.K t c = some b) (h : ∀ tk, Q (.bool b) { s with toks := tk }) :
    wpAny (model X.prog X.w) A (call (.builtin "isinstance") [u, c]) Q E s := by
  cases ty with
  | non => cases (show u = Value.none from rx); exact PySem.W.kia_one PySem.W.kitx_none I.kIn True.intro e (fun z => nomatch z) h
  | bl y => cases (show u = Value.bool y from rx); exact PySem.W.kia_one PySem.W.kitx_bool I.kIn True.intro e (fun z => nomatch z) h
  | int i => obtain ⟨t, q⟩ := (show ∃ t, u = Value.int i t from rx); cases q; exact PySem.W.kia_one PySem.W.kitx_int I.kIn True.intro e (fun z => nomatch z) h
  | str y => obtain ⟨t, q⟩ := (show ∃ t, u = Value.str y t from rx); cases q; exact PySem.W.kia_one PySem.W.kitx_str I.kIn True.intro e (fun z => nomatch z) h
  | flt y => obtain ⟨t, q⟩ := (show ∃ t, u = Value.float y t from rx); cases q; exact PySem.W.kia_one PySem.W.kitx_float I.kIn True.intro e (fun z => nomatch z) h
  | @lst a xs ea =>
    cases (show u = Value.ref a from rx)
    obtain ⟨_, _, n, _, h1⟩ := (show ObjOk X.prog X.w H s.heap a (.lst xs) from I.hok a _ ea)
    exact PySem.W.kia_one PySem.W.kitx_list I.kIn ⟨_, h1, rfl⟩ e (fun z => nomatch z) h
  | @frz a ob xs ea =>
    cases (show u = Value.ref a from rx)
    obtain ⟨_, _, _, n, _, h1⟩ := (show ObjOk X.prog X.w H s.heap a (.frz ob (.lst xs)) from I.hok a _ ea)
    exact PySem.W.kia_one PySem.W.kitx_list I.kIn ⟨_, h1, rfl⟩ e (fun z => nomatch z) h
  | @tup a xs ea =>
    cases (show u = Value.ref a from rx)
    obtain ⟨_, _, _, p⟩ := (show ObjOk X.prog X.w H s.heap a (.tup xs) from I.hok a _ ea)
    obtain ⟨o, h1, h2, _⟩ := p
    exact PySem.W.kia_one PySem.W.kitx_tuple I.kIn ⟨o, h1, h2⟩ e (fun z => nomatch z) h
  | @dK a kvs ea =>
    cases (show u = Value.ref a from rx)
    obtain ⟨_, _, vs, _, p⟩ := (show ObjOk X.prog X.w H s.heap a (.dK kvs) from I.hok a _ ea)
    obtain ⟨o, es, ep, h1, h2, _⟩ := p
    exact PySem.W.kia_one PySem.W.kitx_dict I.kIn ⟨o, h1, h2.1⟩ e (fun z => nomatch z) h
  | @dT a kvs ea =>
    cases (show u = Value.ref a from rx)
    obtain ⟨_, _, xs, _, o, es, ep, h1, h2, _⟩ := (show ObjOk X.prog X.w H s.heap a (.dT kvs) from I.hok a _ ea)
    exact PySem.W.kia_one PySem.W.kitx_dict I.kIn ⟨o, h1, h2.1⟩ e (fun z => nomatch z) h
  | @ins a C dx fs ea cl ha hn htk hm =>
    cases (show u = Value.ref a from rx)
    obtain ⟨mA, O, _⟩ := ins_get I.hok ea
    obtain ⟨od, J, _⟩ := O.look
    exact PySem.W.kia_one (PySem.W.kitx_own (cl.get _) cl.hd ha hn htk hm) I.kIn J e (fun z => nomatch z) h
end
end L2

namespace L2
open PySem PySem.Spec PyProof.Rows

/-! ### room -/
structure Room (k : Nat) (A : Around) : Prop where
  hd : A.handled = none
  dp : A.depth + 3 * k + 5 < recursionLimit
  un : A.units + 16 * k + 200 < cLine
theorem Room.mono {j k : Nat} {A : Around} (r : Room k A) (h : j ≤ k) : Room j A := ⟨r.hd, by have := r.dp; omega, by have := r.un; omega⟩
theorem Room.deeper {k : Nat} {A : Around} (r : Room (k + 1) A) (env : Env) : Room k (A.deeper env) :=
  ⟨r.hd, by have := r.dp; show A.depth + 1 + 3 * k + 5 < _; omega, by have := r.un; show A.units + 3 + 16 * k + 200 < _; omega⟩
theorem Room.depth {k : Nat} {A : Around} (r : Room k A) : A.depth < recursionLimit := by have := r.dp; omega
theorem Room.units0 {k : Nat} {A : Around} (r : Room k A) : A.units < cLine := by have := r.un; omega

/-! ### argument lists and displays -/
def tNil : TA := fun _ H Q => Q [] H
def tCons (ta : TE) (tr : TA) : TA := fun σ H Q => ta σ H fun x H1 => tr σ H1 fun xs H2 => Q (x :: xs) H2
section
variable {X : Cx} {e : Expr} {es : List Expr} {te : TE} {t : TA} {pos : Pos}
theorem pa_nil : PA X [] tNil := fun _ _ _ _ H Q I h => Calls.spliced_nil ⟨[], H, I, .nil, h⟩
theorem pa_cons (ha : PE X e te) (hr : PA X es t) (hs : starEach (e :: es) X.env = (false, eval e X.env) :: starEach es X.env := by rfl) : PA X (e :: es) (tCons te t) := by
  intro pos pins s σ H Q I h
  rw [hs]
  show wpAny _ _ (spliced ((false, eval e X.env) :: backTo pos (starEach es X.env))) _ _ s
  refine Calls.spliced_cons (thn (ha pins s σ H _ I h) fun u s1 ⟨x, H1, I1, r1, q1⟩ => ?_)
  exact thn (hr pos pins s1 σ H1 _ I1 q1) fun us s2 ⟨xs, H2, I2, r2, q2⟩ => ⟨x :: xs, H2, I2, .cons r1 r2, q2⟩

/-- a tuple, a list of written items -/
def tTup (t : TA) : TE := fun σ H Q => t σ H fun xs H1 => xs.length ≤ sizeLine ∧ ∀ p, H1 p = none → Q (.ref p) (upd H1 p (.tup xs))
def tLst (t : TA) : TE := fun σ H Q => t σ H fun xs H1 => xs.length ≤ sizeLine ∧ ∀ p, H1 p = none → Q (.ref p) (upd H1 p (.lst xs))
theorem pe_tup {x1} (h : PA X es t) : PE X (.Tuple es x1 pos) (tTup t) := by
  intro pins s σ H Q I hq
  refine wpAny_Tuple_spliced (thn (h pos pins s σ H _ I hq) fun us s1 ⟨xs, H1, I1, r, z, q⟩ => ⟨by rw [← r.length]; exact z, ?_⟩)
  have hf : H1 s1.heap.objs.size = none := I1.hok.fresh (Nat.le_refl _)
  refine ⟨.ref s1.heap.objs.size, upd H1 s1.heap.objs.size (.tup xs), I1.laid (t' := s1.toks) (fun b u e => Heap.get?_push_of_some _ e) (Nat.le_refl _) ?_, rfl, q _ hf⟩
  exact ⟨z, us, r, ⟨_, Heap.get?_push_size _ rfl, rfl, _, rfl⟩⟩
theorem pe_lst (h : PA X es t) : PE X (.List es pos) (tLst t) := by
  intro pins s σ H Q I hq
  refine wpAny_List_spliced (thn (h pos pins s σ H _ I hq) fun us s1 ⟨xs, H1, I1, r, z, q⟩ => ⟨by rw [← r.length]; exact z, ?_⟩)
  have hf : H1 s1.heap.objs.size = none := I1.hok.fresh (Nat.le_refl _)
  refine ⟨.ref s1.heap.objs.size, upd H1 s1.heap.objs.size (.lst xs), I1.laid (t' := s1.toks) (fun b u e => Heap.get?_push_of_some _ e) (Nat.le_refl _) ?_, rfl, q _ hf⟩
  exact ⟨z, us, 0, r, Heap.get?_push_size _ rfl⟩
end

/-! ### what a def promises -/
/-- a def's promise: the bound arguments in the parameters' order, the heap, the wanted end, the wanted exception -/
abbrev Sp := List V → Hp → VK → XK → Prop
/-- how an exception lies behind a call (file 08 gives it): the callers' frames, abstract heap and state ahead of the call, the wish, the exception, the state -/
abbrev CXT := List Env → Hp → Shared → XK → Value → Shared → Prop

/-- the state at a call -/
structure Env0 (P : Program) (w : World) (K : PySem.W.Frag) (mg : Str → Option Value) (base : Heap) (A : Around) (outer : List Env) (s : Shared) (H : Hp) : Prop where
  frames : A.frames = some outer
  mod : Mod K mg base
  bs : ∀ b o, base.get? b = some o → s.heap.get? b = some o ∧ H b = none
  bsz : base.objs.size ≤ s.heap.objs.size
  funs : s.heap.FunFrames base outer
  frf : ∀ b ∈ frs outer, H b = none
  hok : HOk P w H s.heap
  bare : AllBare s.gens
/-- a call's end -/
def CE (outer : List Env) (P : Program) (w : World) (H : Hp) (s : Shared) (Q : VK) (u : Value) (s' : Shared) : Prop :=
  ∃ v H', s'.os = s.os ∧ AllBare s'.gens ∧ Un (frs outer) [] H H' s.heap s'.heap ∧ HOk P w H' s'.heap ∧ RelV v u ∧ Q v H'
def CR (CX : CXT) (outer : List Env) (P : Program) (w : World) (H : Hp) (s : Shared) (Q : VK) (E : XK) (r : Result) (s' : Shared) : Prop :=
  match r with
  | .ok (.ret u) => CE outer P w H s Q u s'
  | .ok _ => False
  | .error e => CX outer H s E e s'
structure FnOk (P : Program) (w : World) (K : PySem.W.Frag) (mg : Str → Option Value) (base : Heap) (CX : CXT) (k : Nat) (f : Addr) (fd : FuncData) (ps : List Str) (sp : Sp) : Prop where
  len : ∀ vs H Q E, sp vs H Q E → vs.length = ps.length
  run : ∀ (A : Around) (outer : List Env) (s : Shared) (H : Hp) (args : Args) (us : List Value) (vs : List V) (Q : VK) (E : XK), Room k A → Env0 P w K mg base A outer s H → BindsTo s fd args (ps.zip us) → Vals vs us → sp vs H Q E →
    codeAny (model P w) A (.call (.ref f) args) (CR CX outer P w H s Q E) s

section
variable {X : Cx} {pins : List (Addr × Obj)} {σ : St} {H : Hp} {s s' : Shared}
/-- from a body: what a callee wants -/
theorem Inv.env0 (I : Inv X pins σ H s) : Env0 X.prog X.w X.K X.mg X.base X.A X.stack s H :=
  ⟨I.ok.frames, I.ok.mod, I.bs, Nat.le_trans I.ok.bsz I.sz, I.stack, I.stkFree, I.hok, I.bare⟩
/-- behind a call -/
theorem Inv.after {Q : VK} {u : Value} (I : Inv X pins σ H s) (h : CE X.stack X.prog X.w H s Q u s') : EP X pins σ Q u s' := by
  obtain ⟨v, H', os, bare, un, hok, r, q⟩ := h
  obtain ⟨hh, g, d, t, os'⟩ := s'
  obtain rfl : os' = s.os := os
  exact ⟨v, H', I.call (h' := hh) (g' := g) (d' := d) (t' := t) (ch := []) un hok bare (fun b z => absurd z (by simp)), r, q⟩
end

/-! ### calls -/
/-- f(..): the written arguments, then the defaults dvs; E: what is wanted of an exception -/
def tCall (sp : Sp) (dvs : List V) (E : XK) (t : TA) : TE := fun σ H Q => t σ H fun vs H1 => sp (vs ++ dvs) H1 Q E

/-- how the parameters are bound: us the positional arguments, kw the keywords' values by name, ds the defaults that fill up -/
def Binds (K : PySem.W.Frag) (fd : FuncData) (ps : List Str) (ds : List Value) : Prop :=
  ∀ (s : Shared) (us : List Value), K.In s.heap → (us ++ ds).length = ps.length → BindsTo s fd ⟨us, []⟩ (ps.zip (us ++ ds))
/-- every parameter is given -/
theorem Binds.all {K : PySem.W.Frag} {fd : FuncData} {ps : List Str} (h : ∀ us : List Value, us.length = ps.length → bindArgs fd ⟨us, []⟩ = pure (ps.zip us)) : Binds K fd ps [] := fun s us _ hl => by
  rw [List.append_nil] at hl ⊢
  exact .of_eq (h us hl)

/-- an exception of a callee reaches what this body wants of exceptions -/
def Passes (CX : CXT) (X : Cx) (E : XK) : Prop := ∀ (pins : List (Addr × Obj)) (σ : St) (H : Hp) (s : Shared) (e : Value) (s' : Shared), Inv X pins σ H s → CX X.stack H s E e s' → X.xe e s'

section
variable {X : Cx} {CX : CXT} {k : Nat} {f C : Addr} {fd : FuncData} {ps : List Str} {sp : Sp} {dvs : List V} {ds : List Value} {E : XK} {x m : Str} {p pos apos : Pos} {e o : Expr} {es : List Expr} {ta : TE} {t : TA}

/-- the callee runs -/
theorem run_fn {pins : List (Addr × Obj)} {σ : St} {H : Hp} {s : Shared} {Q : VK} {us : List Value} {vs : List V} (F : FnOk X.prog X.w X.K X.mg X.base CX k f fd ps sp) (hr : Room k X.A) (hb : Binds X.K fd ps ds) (hd : Vals dvs ds) (hx : Passes CX X E)
    (I : Inv X pins σ H s) (r : Vals vs us) (h : sp (vs ++ dvs) H Q E) : wpAny (model X.prog X.w) X.A (call (.ref f) us) (EP X pins σ Q) X.xe s := by
  have r2 : Vals (vs ++ dvs) (us ++ ds) := r.append hd
  have hl : (us ++ ds).length = ps.length := by rw [← r2.length]; exact F.len _ _ _ _ h
  refine wpAny_call (codeAny_mono (F.run X.A X.stack s H ⟨us, []⟩ (us ++ ds) (vs ++ dvs) Q E hr I.env0 (hb s us I.kIn hl) r2 h) fun r s' hq => ?_)
  cases r with
  | error e => exact hx pins σ H s e s' I hq
  | ok fl =>
    cases fl with
    | ret u => exact I.after hq
    | next => exact False.elim hq
    | brk => exact False.elim hq
    | cont => exact False.elim hq

theorem pe_call (F : FnOk X.prog X.w X.K X.mg X.base CX k f fd ps sp) (hr : Room k X.A) (hg : Gl X x) (hm : X.mg x = some (.ref f)) (hk : PySem.W.keepIn X.K (.ref f) = true) (hb : Binds X.K fd ps ds) (hd : Vals dvs ds) (hx : Passes CX X E)
    (ha : PA X (e :: es) t) (hdb : (x == ("__debug__" : Str)) = false := by decide) (he : starEach (e :: es) X.env = (false, eval e X.env) :: starEach es X.env := by rfl) (hpl : (backTo pos (starEach es X.env)).any (·.1) = false := by rfl) :
    PE X (.Call (.Name x p) (e :: es) [] pos) (tCall sp dvs E t) := by
  intro pins s σ H Q I h
  refine wpAny_Call_Name_kw (ld_glob I hg hm ?_ hdb)
  refine PySem.W.callWith_K (h₀ := X.base) I.ok.mod.kin hk (thn (ha pos pins s σ H _ I h) fun us s1 ⟨vs, H1, I1, r, q⟩ => ⟨I1.kIn, ?_⟩) he hpl
  exact run_fn F hr hb hd hx I1 r q

end

section
variable {X : Cx} {CX : CXT} {k : Nat} {f C : Addr} {fd : FuncData} {ps ks : List Str} {sp : Sp} {E : XK} {x m : Str} {p pos apos kpos : Pos} {e o : Expr} {es : List Expr} {kws : List Keyword} {te ta : TE} {t tk : TA} {nm : Option Str}

variable {g : List Value → List Value → List Value} {gV : List V → List V → List V}
end

/-! ### a def's body keeps its promise -/
/-- names: the parameters first -/
structure FnScope (N P : List Str) (sc : Scope) : Prop where
  kind : sc.kind = .function
  co : sc.isCoroutine = false
  gen : sc.isGenerator = false
  nd : N.Nodup
  pre : N.take P.length = P
  par : ∀ x ∈ P, sc.names.lookup x = some .local ∨ sc.names.lookup x = some .cell
  nofree : ∀ y ∈ sc.names, y.2 ≠ .free

theorem bindL_out {kindOf : Str → Option NameKind} {x : Str} : ∀ {binds : List (Str × Value)} {m : Str → Option Value}, (∀ v, (x, v) ∉ binds) → bindL kindOf binds m x = m x
  | [], _, _ => rfl
  | (n, v) :: r, m, h => by
    unfold bindL
    rw [bindL_out fun w hw => h w (List.mem_cons_of_mem _ hw)]
    split
    · have : x ≠ n := by rintro rfl; exact h v List.mem_cons_self
      simp [this]
    · rfl
theorem bindC_out {kindOf : Str → Option NameKind} {x : Str} : ∀ {binds : List (Str × Value)} {m : Str → Option Value}, (∀ v, (x, v) ∉ binds) → bindC kindOf binds m x = m x
  | [], _, _ => rfl
  | (n, v) :: r, m, h => by
    unfold bindC
    rw [bindC_out fun w hw => h w (List.mem_cons_of_mem _ hw)]
    split
    · rfl
    · have : x ≠ n := by rintro rfl; exact h v List.mem_cons_self
      simp [this]
theorem bindL_get {kindOf : Str → Option NameKind} {x : Str} {v : Value} : ∀ {P : List Str} {vs : List Value} {i : Nat} {m : Str → Option Value}, P.Nodup → P[i]? = some x → vs[i]? = some v → kindOf x = some .local →
    bindL kindOf (P.zip vs) m x = some v
  | [], _, _, _, _, h, _, _ => by simp at h
  | _ :: _, [], _, _, _, _, h, _ => by simp at h
  | p :: P, w :: vs, 0, m, nd, h1, h2, hk => by
    simp at h1 h2; subst h1; subst h2
    show bindL kindOf ((p, w) :: P.zip vs) m p = _
    unfold bindL
    rw [bindL_out fun v hv => (List.nodup_cons.mp nd).1 (List.of_mem_zip hv).1, if_pos hk]
    simp
  | p :: P, w :: vs, i + 1, m, nd, h1, h2, hk => by
    show bindL kindOf ((p, w) :: P.zip vs) m x = _
    unfold bindL
    exact bindL_get (i := i) (List.nodup_cons.mp nd).2 (by simpa using h1) (by simpa using h2) hk
theorem bindC_get {kindOf : Str → Option NameKind} {x : Str} {v : Value} : ∀ {P : List Str} {vs : List Value} {i : Nat} {m : Str → Option Value}, P.Nodup → P[i]? = some x → vs[i]? = some v → kindOf x ≠ some .local →
    bindC kindOf (P.zip vs) m x = some v
  | [], _, _, _, _, h, _, _ => by simp at h
  | _ :: _, [], _, _, _, _, h, _ => by simp at h
  | p :: P, w :: vs, 0, m, nd, h1, h2, hk => by
    simp at h1 h2; subst h1; subst h2
    show bindC kindOf ((p, w) :: P.zip vs) m p = _
    unfold bindC
    rw [bindC_out fun v hv => (List.nodup_cons.mp nd).1 (List.of_mem_zip hv).1, if_neg hk]
    simp
  | p :: P, w :: vs, i + 1, m, nd, h1, h2, hk => by
    show bindC kindOf ((p, w) :: P.zip vs) m x = _
    unfold bindC
    exact bindC_get (i := i) (List.nodup_cons.mp nd).2 (by simpa using h1) (by simpa using h2) hk

/-- the names' values at the entry -/
def start (N : List Str) (vs : List V) : St := vs.map some ++ List.replicate (N.length - vs.length) none

/-- the context of a def's body, at its entry; an exception leaves the frame, then lies as CX says -/
def cxOf (CX : CXT) (P : Program) (w : World) (K : PySem.W.Frag) (mg : Str → Option Value) (base : Heap) (N : List Str) (qual : Str) (scope : Scope) (f : Addr) (cd : Value) (A : Around) (outer : List Env) (s : Shared) (H : Hp) (E : XK) : Cx where
  prog := P
  w := w
  K := K
  mg := mg
  base := base
  A := A.deeper (envOfC qual scope s.heap.objs.size f cd)
  N := N
  s₀ := s
  H₀ := H
  env := envOfC qual scope s.heap.objs.size f cd
  outer := outer
  stack := envOfC qual scope s.heap.objs.size f cd :: outer
  ex := []
  calm := true
  fn := fun _ => true
  pn := []
  xe := fun e s' => wpAny (model P w) (A.deeper (envOfC qual scope s.heap.objs.size f cd)) (leaving (envOfC qual scope s.heap.objs.size f cd) e) (fun _ s'' => CX outer H s E e s'') (fun e' s'' => CX outer H s E e' s'') s'

theorem cell_has {sc : Scope} {n : Nat} {x : Str} (h : sc.names.lookup x = some .cell) : ∃ c, (cellsFrom n sc.names []).lookup x = some c := by
  have q := PySem.W.cellsFrom_some sc.names n [] (.inl h)
  exact Option.isSome_iff_exists.mp q

theorem inv_start {CX : CXT} {P : Program} {w : World} {K : PySem.W.Frag} {mg : Str → Option Value} {base : Heap} {N ps : List Str} {qual : Str} {scope : Scope} {f : Addr} {cd : Value} {A : Around} {outer : List Env} {s s1 : Shared} {H : Hp} {E : XK} {us : List Value} {vs : List V}
    (S : FnScope N ps scope) (hd : A.handled = none) (e0 : Env0 P w K mg base A outer s H) (hl : vs.length = ps.length) (r : Vals vs us)
    (x : InCallC s s.heap.objs.size (bindL (envOfC qual scope s.heap.objs.size f cd).kindOf (ps.zip us) fun _ => none) (cellsFrom (s.heap.objs.size + 1) scope.names []) (bindC (envOfC qual scope s.heap.objs.size f cd).kindOf (ps.zip us) fun _ => none) s1) :
    Inv (cxOf CX P w K mg base N qual scope f cd A outer s H E) [] (start N vs) H s1 := by
  have hpl : ps.length ≤ N.length := by have := congrArg List.length S.pre; rw [List.length_take] at this; omega
  obtain ⟨h1, tk, rfl, hk⟩ := x.done
  have noA : ∀ b : Addr, b ∉ (cxOf CX P w K mg base N qual scope f cd A outer s H E).ex := fun b z => absurd (show b ∈ ([] : List Addr) from z) (by simp)
  refine ⟨⟨e0.mod, S.kind, rfl, rfl, Nat.le_refl _, fun y z c h1 h2 => ?_, fun y hy => ?_, fun y c _ h => ?_, fun _ => hd, Around.frames_deeper e0.frames, .inr ⟨rfl, rfl⟩, fun b z => absurd z (noA b), e0.bs, e0.bsz, fun b _ _ => noA b, fun b z => absurd z (noA b), e0.funs, e0.frf⟩,
    rfl, e0.bare, Un.kept hk, ⟨_, x.toInCall.ns, fun i y v h1 h2 h3 => ?_⟩, fun y c h => ⟨_, x.cell y c h⟩, e0.hok.fresh (Nat.le_refl _), fun y c h => ?_, fun p hp => absurd (show p ∈ ([] : List (Addr × Obj)) from hp) (by simp), e0.hok.kept hk, ?_⟩
  · exact name_of_addr x.apart (PySem.mem_of_lookup h1) (PySem.mem_of_lookup h2)
  · have hy : scope.names.lookup y = some .cell ∨ scope.names.lookup y = some .free := hy
    rcases hy with hy | hy
    · exact cell_has hy
    · exact absurd rfl (S.nofree _ (PySem.mem_of_lookup hy))
  · exact Nat.le_of_lt (x.above y c (PySem.mem_of_lookup h))
  · have hi : i < vs.length := by
      unfold start at h2
      by_cases hi : i < vs.length
      · exact hi
      · rw [List.getElem?_append_right (by simpa using hi)] at h2
        rw [List.getElem?_replicate] at h2
        split at h2 <;> cases h2
    have ha : vs[i]? = some v := by
      unfold start at h2
      rw [List.getElem?_append_left (by simpa using hi), List.getElem?_map] at h2
      cases e : vs[i]? with
      | none => rw [e] at h2; cases h2
      | some a => rw [e] at h2; cases h2; rfl
    obtain ⟨u, hu, rv⟩ := r.get ha
    have hp : ps[i]? = some y := by
      rw [← S.pre, List.getElem?_take_of_lt (by omega)]; exact h1
    have ndP : ps.Nodup := by rw [← S.pre]; exact S.nd.sublist (List.take_sublist _ _)
    refine ⟨u, rv, ?_⟩
    rcases S.par y (List.mem_of_getElem? hp) with k | k
    · exact .inl ⟨k, bindL_get ndP hp hu k⟩
    · obtain ⟨c, e⟩ := cell_has (n := s.heap.objs.size + 1) k
      refine .inr ⟨.inl k, c, e, ?_⟩
      have q := x.cell y c e
      rw [bindC_get ndP hp hu (by show scope.names.lookup y ≠ _; rw [k]; decide)] at q
      exact q
  · exact e0.hok.fresh (Nat.le_of_lt (x.above y c (PySem.mem_of_lookup h)))
  · unfold start
    show _ = N.length
    rw [List.length_append, List.length_map, List.length_replicate]
    omega

/-- THE RULE: a def (or a method) of the text, by its body. The body's reading t is chosen for each entry; it is run at the parameters' values -/
theorem fn_of {CX : CXT} {P : Program} {w : World} {K : PySem.W.Frag} {mg : Str → Option Value} {base : Heap} {k : Nat} {f : Addr} {name qual : Str} {params : Arguments} {body : List Stmt} {scope : Scope} {dV kV doc pm cdv ct oc : Value} {an od : Option Addr}
    {osl : Array (Option Value)} {N ps : List Str} {sp : Sp} (lk : K.lookup f = some ⟨oc, od, .func (PySem.W.fnOf name qual params body scope dV kV doc pm an cdv ct), osl⟩) (hcd : PySem.W.codeIn K cdv qual = true) (S : FnScope N ps scope)
    (len : ∀ vs H Q E, sp vs H Q E → vs.length = ps.length)
    (hbody : ∀ (A : Around) (outer : List Env) (s : Shared) (H : Hp) (vs : List V) (Q : VK) (E : XK), Room k (A.deeper (envOfC qual scope s.heap.objs.size f cdv)) → sp vs H Q E →
      ∃ t, PSs (cxOf CX P w K mg base N qual scope f cdv A outer s H E) body t ∧ t { nx := fun _ H' => Q .non H', rt := Q } (start N vs) H) :
    FnOk P w K mg base CX (k + 1) f (PySem.W.fnOf name qual params body scope dV kV doc pm an cdv ct) ps sp := by
  refine ⟨len, fun A outer s H args us vs Q E hr e0 hb r hsp => ?_⟩
  have hl := len _ _ _ _ hsp
  have KX : K.In s.heap := e0.mod.kin.keeps fun b o e => (e0.bs b o e).1
  have lim : s.heap.NoLimit := e0.mod.nolimit.keeps fun b o e => (e0.bs b o e).1
  have hkind : ∀ y ∈ ps.zip us, scope.names.lookup y.1 = some .local ∨ (scope.names.lookup y.1 = some .cell ∧ ((cellsFrom (s.heap.objs.size + 1) scope.names []).lookup y.1).isSome = true) := fun ⟨n, v⟩ hy => by
    rcases S.par n (List.of_mem_zip hy).1 with q | q
    · exact .inl q
    · exact .inr ⟨q, PySem.W.cellsFrom_some _ _ _ (.inl q)⟩
  refine codeAny_call_function hr.depth (KX _ _ lk) rfl S.co S.gen rfl (PySem.W.codeRec_of KX hcd) (hb _ _ _ _ ?_)
  refine wpAny_newFunctionEnv_cells S.kind hkind fun env he s1 x => ?_
  subst he
  refine ⟨lim.keeps x.toInCall.keep, codeAny_func ?_⟩
  obtain ⟨t, ht, hq⟩ := hbody A outer s H vs Q E (hr.deeper _) hsp
  have I : Inv (cxOf CX P w K mg base N qual scope f cdv A outer s H E) [] (start N vs) H s1 := inv_start S hr.hd e0 hl r x
  refine wpAny_mono (ht [] s1 (start N vs) H _ I hq) (fun fl s' hs => ?_) fun e s' hs => hs
  have fin : ∀ {σ' : St} {H' : Hp} {v : V} {u : Value}, Inv (cxOf CX P w K mg base N qual scope f cdv A outer s H E) [] σ' H' s' → RelV v u → Q v H' → CE outer P w H s Q u s' :=
    fun {σ' H' v u} J rv q => ⟨v, H', J.os, J.bare, J.base, J.hok, rv, q⟩
  cases fl with
  | ret u =>
    obtain ⟨v, σ', H', J, rv, q⟩ := hs
    exact fin J rv q
  | next =>
    obtain ⟨σ', H', J, q⟩ := hs
    exact fin (v := V.non) (u := Value.none) J rfl q
  | brk =>
    obtain ⟨_, _, _, q⟩ := hs
    exact False.elim q
  | cont =>
    obtain ⟨_, _, _, q⟩ := hs
    exact False.elim q
end L2

namespace L2
open PySem PySem.Spec PyProof.Rows
section
variable {X : Cx} {x : Str} {p pos : Pos} {e : Expr} {es : List Expr} {t : TA} {id T : String} {r : List V → Hp → VK → Prop}

def tCB (r : List V → Hp → VK → Prop) (t : TA) : TE := fun σ H Q => t σ H fun vs H1 => r vs H1 Q
/-- f(e, ..), f a built-in function -/
theorem pe_callB (hc : CallR X (.builtin id) r) (hg : Gl X x) (hm : X.mg x = none) (hv : bootBuiltins x = some (.builtin id)) (ha : PA X (e :: es) t) (hn : x ≠ "__name__" := by decide) (hdb : (x == ("__debug__" : Str)) = false := by decide)
    (he : starEach (e :: es) X.env = (false, eval e X.env) :: starEach es X.env := by rfl) (hpl : (backTo pos (starEach es X.env)).any (·.1) = false := by rfl) : PE X (.Call (.Name x p) (e :: es) [] pos) (tCB r t) := by
  intro pins s σ H Q I h
  refine wpAny_Call_Name_kw (ld_blt I hg hm hv ?_ hn hdb)
  exact PyProof.Rows.callWith_builtin1 (thn (ha pos pins s σ H _ I h) fun us s1 ⟨vs, H1, I1, r1, q1⟩ => hc pins s1 σ H1 vs us Q I1 r1 q1) he hpl
/-- T(e, ..), T a built-in type -/
theorem pe_callTy (hc : CallR X (.type T) r) (hg : Gl X x) (hm : X.mg x = none) (hv : bootBuiltins x = some (.type T)) (ha : PA X (e :: es) t) (hn : x ≠ "__name__" := by decide) (hdb : (x == ("__debug__" : Str)) = false := by decide)
    (he : starEach (e :: es) X.env = (false, eval e X.env) :: starEach es X.env := by rfl) (hpl : (backTo pos (starEach es X.env)).any (·.1) = false := by rfl) : PE X (.Call (.Name x p) (e :: es) [] pos) (tCB r t) := by
  intro pins s σ H Q I h
  refine wpAny_Call_Name_kw (ld_blt I hg hm hv ?_ hn hdb)
  exact PyProof.Rows.callWith_type1 (thn (ha pos pins s σ H _ I h) fun us s1 ⟨vs, H1, I1, r1, q1⟩ => hc pins s1 σ H1 vs us Q I1 r1 q1) he hpl
end
end L2

namespace L2
open PySem PySem.Spec PyProof.Rows

/-! ### lists of pairs as tables -/
section
variable {κ : Type} [DecidableEq κ]

end

section
variable {P : Program} {w : World} {H : Hp} {h : Heap} {a : Addr}
end

section
variable {X : Cx} {pins : List (Addr × Obj)} {σ : St} {H : Hp} {s : Shared} {a : Addr} {y v : V} {u r : Value} {o : Option V} {A : Around} {E : Value → Shared → Prop}

end

section
variable {X : Cx} {pins : List (Addr × Obj)} {σ : St} {H : Hp} {s : Shared} {a : Addr} {kvs : List (Key × V)} {k : Key} {u : Value} {A : Around} {E : Value → Shared → Prop}
end

section
variable {X : Cx} {o i e value : Expr} {pos pos' tpos : Pos} {td ty tv : TE}
end

section
variable {X : Cx} {pos : Pos}
end

structure M2 (X : Cx) (o : Expr) (m : Str) (apos : Pos) (e f : Expr) (cpos : Pos) : Prop where
  base : attributeBase o m X.env (eval o X.env) = eval o X.env
  few : ((backTo cpos (starEach [e, f] X.env)).all (fun x => !x.1) && (backToKw cpos (keywordEach [] X.env)).all (fun x => x.1.isSome)
    && decide (([e, f] : List Expr).length + ([] : List Keyword).length + (if ([] : List Keyword).isEmpty then 0 else 1) < 30)) = true
  line : (apos.endLine == cpos.line) = true
  trees : backTo cpos (starEach [e, f] X.env) = [(false, eval e X.env), (false, eval f X.env)]

section
variable {X : Cx} {pins : List (Addr × Obj)} {σ : St} {H : Hp} {s : Shared} {a : Addr} {y d : V} {u r : Value} {o : Option V} {A : Around} {E : Value → Shared → Prop}
end

section
variable {X : Cx} {o e f : Expr} {apos cpos : Pos} {td ty tx : TE}
end

/-! ### dict(d): a copy -/
section
variable {X : Cx} {pins : List (Addr × Obj)} {σ : St} {H : Hp} {s : Shared} {a : Addr} {kvs : List (Key × V)} {A : Around} {E : Value → Shared → Prop}
end

section
variable {X : Cx} {pins : List (Addr × Obj)} {σ : St} {H : Hp} {s : Shared} {a : Addr} {y : V} {u : Value} {A : Around} {E : Value → Shared → Prop}
end
end L2

namespace HT
open PySem PyProof.Rows

section
open PySem.SeqAt
open PySem.AutoSeq1 (wpAny_loadPart')
open PySem.MeetsSeq PySem.MeetsSeq2 PySem.MeetsSeq3

end

section
variable {prog : Program} {w : World} {A : Around} {E : Value → Shared → Prop} {s : Shared}

/-! ### t[a:b], not the whole -/
/-- a slice's bound as a place among n (d where it is left out) -/
def sIx (n d : Nat) : Option Int → Nat
  | none => d
  | some v => if v < 0 then (v + (n : Int)).toNat else min v.toNat n
theorem sIx_le (n d : Nat) (hd : d ≤ n) (o : Option Int) : sIx n d o ≤ n := by
  cases o with
  | none => exact hd
  | some v =>
    show (if v < 0 then (v + (n : Int)).toNat else min v.toNat n) ≤ n
    by_cases hv : v < 0
    · rw [if_pos hv]; omega
    · rw [if_neg hv]; exact Nat.min_le_right _ _
theorem clip_eq (v : Int) (n d : Nat) : (if v < 0 then max (v + (n : Int)) 0 else min v (n : Int)) = ((sIx n d (some v) : Nat) : Int) := by
  show (if v < 0 then max (v + (n : Int)) 0 else min v (n : Int)) = (((if v < 0 then (v + (n : Int)).toNat else min v.toNat n) : Nat) : Int)
  by_cases hv : v < 0
  · simp only [if_pos hv]; omega
  · simp only [if_neg hv]; omega
theorem adjust_gen (lo hi : Option Int) (n : Nat) : Builtin.Slice.sliceAdjust lo hi 1 (n : Int) = (((sIx n 0 lo : Nat) : Int), ((sIx n n hi : Nat) : Int)) := by
  have h1 : ¬ ((1 : Int) < 0) := by omega
  unfold Builtin.Slice.sliceAdjust
  simp only [h1, if_false]
  refine Prod.ext ?_ ?_
  · cases lo with
    | none => rfl
    | some v => exact clip_eq v n 0
  · cases hi with
    | none => rfl
    | some v => exact clip_eq v n n
theorem places_gen (i j : Nat) : Builtin.Slice.slicePlaces (i : Int) (j : Int) 1 = j - i := by
  unfold Builtin.Slice.slicePlaces
  have h1 : (1 : Int) > 0 := by omega
  simp only [h1, if_true, Int.ediv_one]
  split <;> omega
theorem slicePart_ {v : Value} {o : Option Int} {Q : Option Int → Shared → Prop} (p : IsPart v o) (h : Q o s) : wpAny (model prog w) A (Builtin.Slice.slicePartIndex v) Q E s := by
  cases p with
  | none => exact slicePart_none h
  | int i t => exact slicePart_int h
theorem sliceApplied_gen {sl : Addr} {vl vu : Value} {lo hi : Option Int} {n : Nat} {Q : Int × Int × Nat → Shared → Prop} (hs : s.heap.IsSliceOf sl vl vu .none) (pl : IsPart vl lo) (pu : IsPart vu hi)
    (h : Q (((sIx n 0 lo : Nat) : Int), 1, sIx n n hi - sIx n 0 lo) s) : wpAny (model prog w) A (Builtin.Slice.sliceApplied (.ref sl) (pure (n : Int))) Q E s := by
  obtain ⟨os, hos, hcs, hds⟩ := id hs
  unfold Builtin.Slice.sliceApplied Builtin.Slice.sliceFields
  refine wpAny_bind (wpAny_bind (wpAny_field hos hds (x := vl) rfl (wpAny_bind (wpAny_field hos hds (x := vu) rfl (wpAny_bind (wpAny_field hos hds (x := .none) rfl (wpAny_pure ?_)))))))
  refine wpAny_bind (slicePart_none ?_)
  show wpAny _ _ (if ((1 : Int) == 0) = true then _ else _) _ _ s
  rw [if_neg (by decide)]
  refine wpAny_bind (slicePart_ pl (wpAny_bind (slicePart_ pu (wpAny_bind (wpAny_pure ?_)))))
  show wpAny _ _ (match Builtin.Slice.sliceAdjust lo hi 1 (n : Int) with | (lo, hi) => pure (lo, (1 : Int), Builtin.Slice.slicePlaces lo hi 1)) _ _ s
  rw [adjust_gen lo hi n]
  show wpAny _ _ (pure (((sIx n 0 lo : Nat) : Int), (1 : Int), Builtin.Slice.slicePlaces ((sIx n 0 lo : Nat) : Int) ((sIx n n hi : Nat) : Int) 1)) _ _ s
  rw [places_gen]
  exact wpAny_pure h
theorem pick_gen (xs : Array Value) (i k : Nat) : ((List.range k).filterMap fun (m : Nat) => xs[((i : Int) + (m : Int) * 1).toNat]?).toArray = ((xs.toList.drop i).take k).toArray := by
  have e : (fun (m : Nat) => xs[((i : Int) + (m : Int) * 1).toNat]?) = fun m => xs[i + m]? := by
    funext m
    have : ((i : Int) + (m : Int) * 1).toNat = i + m := by omega
    rw [this]
  rw [e]
  have := pick_run xs i k
  rw [List.filterMap_map] at this
  have e2 : ((fun x => xs[x]?) ∘ fun x => i + x) = fun m => xs[i + m]? := rfl
  rw [e2] at this
  rw [this]

theorem getItem_tuple_cut {t sl : Addr} {items : Array Value} {vl vu : Value} {lo hi : Option Int} {Q : Value → Shared → Prop} (ht : IsTup s.heap t items) (hs : s.heap.IsSliceOf sl vl vu .none) (pl : IsPart vl lo) (pu : IsPart vu hi)
    (hw : ¬ (sIx items.size 0 lo = 0 ∧ sIx items.size items.size hi = items.size))
    (h : Q (.ref s.heap.objs.size) { s with heap := s.heap.push { cls := .type "tuple", data := .seq ((items.toList.drop (sIx items.size 0 lo)).take (sIx items.size items.size hi - sIx items.size 0 lo)).toArray } })
    (hsz : items.size ≤ sizeLine) : wpAny (model prog w) A (getItem (.ref t) (.ref sl)) Q E s := by
  have htake : sizeOk (.seq ((items.toList.drop (sIx items.size 0 lo)).take (sIx items.size items.size hi - sIx items.size 0 lo)).toArray) := by
    show ((items.toList.drop (sIx items.size 0 lo)).take (sIx items.size items.size hi - sIx items.size 0 lo)).toArray.size ≤ sizeLine
    rw [List.size_toArray, List.length_take, List.length_drop, Array.length_toList]
    omega
  have hj : sIx items.size items.size hi ≤ items.size := sIx_le _ _ (Nat.le_refl _) hi
  obtain ⟨os, hos, hcs, hds⟩ := id hs
  have hTs : s.TypeIs (.ref sl) "slice" := ⟨os, hos, hcs⟩
  unfold getItem
  try with_reducible refine wpAny_holding ?_
  first | refine wpAny_bind (wpAny_pure ?_) | skip
  refine wpAny_bind (wpAny_sequenceKey ht.typeIs (by decide) ?_)
  refine wpAny_bind (wpAny_callSpecial?_slot (name := Str.ofString "__getitem__") ht.typeIs PyProof.Rows.slot_tuple_getitem
    (wpAny_call_entry PyProof.Rows.slot_tuple_getitem ht.typeIs entry_tuple_getitem ?_ (args_tuple_getitem _ _)))
  show wpAny _ _ (Builtin.Tuple.tupleItemsOf (.ref t) >>= _) _ _ s
  refine wpAny_bind (tupleItemsOf_ ht ?_)
  refine wpAny_bind (wpAny_typeOf hTs ?_)
  rw [if_pos (by decide)]
  refine wpAny_bind (sliceApplied_gen hs pl pu ?_)
  have hno : ¬ ((((sIx items.size 0 lo : Nat) : Int) == 0 && (1 : Int) == 1 && (sIx items.size items.size hi - sIx items.size 0 lo) == items.size) = true) := by
    intro q
    rw [Bool.and_eq_true, Bool.and_eq_true] at q
    have q1 : ((sIx items.size 0 lo : Nat) : Int) = 0 := eq_of_beq q.1.1
    have q2 : sIx items.size items.size hi - sIx items.size 0 lo = items.size := eq_of_beq q.2
    exact hw ⟨by omega, by omega⟩
  show wpAny _ _ (if (((sIx items.size 0 lo : Nat) : Int) == 0 && (1 : Int) == 1 && (sIx items.size items.size hi - sIx items.size 0 lo) == items.size) = true then _ else _) _ _ s
  rw [if_neg hno, pick_gen]
  first
    | exact wpAny_bind (m := Builtin.Tuple.tupleExact _) (wpAny_newObj_type (wpAny_pure ⟨_, rfl, wpAny_pure h⟩) htake)
    | exact wpAny_bind (m := Builtin.Tuple.tupleExact _) (wpAny_newObj_type (wpAny_bind (wpAny_pure (wpAny_pure ⟨_, rfl, wpAny_pure h⟩))) htake)
    | exact wpAny_bind (wpAny_bind (m := Builtin.Tuple.tupleExact _) (wpAny_newObj_type (wpAny_pure (wpAny_pure ⟨_, rfl, wpAny_pure h⟩)) htake))
    | exact wpAny_bind (wpAny_bind (m := Builtin.Tuple.tupleExact _) (wpAny_newObj_type (wpAny_pure ⟨_, rfl, wpAny_pure h⟩) htake))
end
end HT

namespace L2
open PySem PySem.Spec PyProof.Rows

/-! ### the parts of a slice -/
abbrev TO := St → Hp → (Option Int → Hp → Prop) → Prop
/-- a slice's part (left out, or an int) -/
def PO (X : Cx) (e : Option Expr) (t : TO) : Prop :=
  ∀ (pins : List (Addr × Obj)) (s : Shared) (σ : St) (H : Hp) (Q : Option Int → Hp → Prop), Inv X pins σ H s → t σ H Q →
    wpAny (model X.prog X.w) X.A (evalPart e X.env) (fun u s' => ∃ o H', Inv X pins σ H' s' ∧ IsPart u o ∧ Q o H') X.xe s
def tNoPart : TO := fun _ H Q => Q none H
def tPart (t : TE) : TO := fun σ H Q => t σ H fun x H1 => ∃ i, x = .int i ∧ Q (some i) H1

section
variable {X : Cx} {e : Expr} {te : TE} {lo hi : Option Expr} {tl th : TO} {pos p2 : Pos}

theorem po_none : PO X none tNoPart := by
  intro pins s σ H Q I h
  rw [evalPart_none]
  exact wpAny_pure ⟨none, H, I, .none, h⟩
theorem po_some (h : PE X e te) : PO X (some e) (tPart te) := by
  intro pins s σ H Q I hw
  rw [evalPart_some]
  refine thn (h pins s σ H _ I hw) fun u s1 ⟨x, H1, I1, r1, q1⟩ => ?_
  obtain ⟨i, rfl, q⟩ := q1
  obtain ⟨t, rfl⟩ := r1
  exact ⟨some i, H1, I1, .int i t, q⟩

/-- what a slice of a value is, by values: the slice object stands at sl -/
def SlR (X : Cx) (r : V → Option Int → Option Int → Hp → VK → Prop) : Prop :=
  ∀ (pins : List (Addr × Obj)) (s : Shared) (σ : St) (H : Hp) (x : V) (v vl vu : Value) (lo hi : Option Int) (sl : Addr) (Q : VK), Inv X pins σ H s → RelV x v → s.heap.IsSliceOf sl vl vu .none → IsPart vl lo → IsPart vu hi → r x lo hi H Q →
    ∃ T id, typeLookup (.type T) "__getitem__" = pure (some (.builtin id)) ∧ s.TypeIs v T ∧ wpAny (model X.prog X.w) X.A (getItem v (.ref sl)) (EP X pins σ Q) X.xe s
def tSl (r : V → Option Int → Option Int → Hp → VK → Prop) (te : TE) (tl th : TO) : TE := fun σ H Q => te σ H fun x H1 => tl σ H1 fun l H2 => th σ H2 fun u H3 => r x l u H3 Q
/-- a[lo:hi], any a -/
theorem pe_slice {r : V → Option Int → Option Int → Hp → VK → Prop} (hr : SlR X r) (he : PE X e te) (hl : PO X lo tl) (hu : PO X hi th) : PE X (.Subscript e (.Slice lo hi none p2) pos) (tSl r te tl th) := by
  intro pins s σ H Q I h
  refine Subscript_ (thn (he pins s σ H _ I h) fun v s1 ⟨x, H1, I1, r1, q1⟩ => ?_)
  refine wpAny_Slice (thn (hl pins s1 σ H1 _ I1 q1) fun vl s2 ⟨l, H2, I2, pl, q2⟩ => thn (hu pins s2 σ H2 _ I2 q2) fun vu s3 ⟨u, H3, I3, pu, q3⟩ => ?_)
  rw [evalPart_none]
  refine wpAny_pure ?_
  have I4 : Inv X pins σ H3 { s3 with heap := s3.heap.push { cls := .type "slice", data := .fields #[vl, vu, .none] } } := I3.kept (t' := s3.toks) fun b ob q => Heap.get?_push_of_some _ q
  obtain ⟨T, id, hT, ht, hg⟩ := hr pins { s3 with heap := s3.heap.push { cls := .type "slice", data := .fields #[vl, vu, .none] } } σ H3 x v vl vu l u s3.heap.objs.size Q I4 r1 (Heap.IsSliceOf.new ..) pl pu q3
  show wpAny (model X.prog X.w) X.A (subscriptTail e (.Slice lo hi none p2) v (.ref s3.heap.objs.size)) (EP X pins σ Q) X.xe { s3 with heap := s3.heap.push { cls := .type "slice", data := .fields #[vl, vu, .none] } }
  exact tail_any (ops := [.ref s3.heap.objs.size, v]) ht hT hg (by with_unfolding_all rfl)

/-- the items of xs[lo:hi] -/
def cutV (xs : List V) (lo hi : Option Int) : List V := (xs.drop (HT.sIx xs.length 0 lo)).take (HT.sIx xs.length xs.length hi - HT.sIx xs.length 0 lo)
theorem cutV_length (xs : List V) (lo hi : Option Int) : (cutV xs lo hi).length ≤ xs.length := by
  unfold cutV
  rw [List.length_take, List.length_drop]
  omega
/-- t[lo:hi], not the whole of it (the whole would be t itself) -/
def rSlT (K : PySem.W.Frag) : V → Option Int → Option Int → Hp → VK → Prop := fun x lo hi H Q => ∃ a xs, x = .ref a ∧ SqT K H a xs ∧
  ¬ (HT.sIx xs.length 0 lo = 0 ∧ HT.sIx xs.length xs.length hi = xs.length) ∧ ∀ p, H p = none → Q (.ref p) (upd H p (.tup (cutV xs lo hi)))
theorem sl_tup : SlR X (rSlT X.K) := by
  intro pins s σ H x v vl vu lo hi sl Q I rx hs pl pu h
  obtain ⟨a, xs, rfl, hx, hw, q⟩ := h
  cases rx
  obtain ⟨its, r, ht, hz⟩ := I.tuple hx
  have hlen : its.toArray.size = xs.length := by rw [List.size_toArray]; exact r.length.symm
  refine ⟨"tuple", _, PyProof.Rows.slot_tuple_getitem.lookup, ht.typeIs, ?_⟩
  refine HT.getItem_tuple_cut ht hs pl pu (by rw [hlen]; exact hw) ?_ (by rw [hlen]; exact hz)
  rw [hlen]
  refine ⟨.ref s.heap.objs.size, _, I.laid (t' := s.toks) (o := .tup (cutV xs lo hi)) (fun b ob q => Heap.get?_push_of_some _ q) (Nat.le_refl _) ?_, rfl, q _ (I.hok.fresh (Nat.le_refl _))⟩
  exact ⟨Nat.le_trans (cutV_length xs lo hi) hz, _, (r.drop (HT.sIx xs.length 0 lo)).take (HT.sIx xs.length xs.length hi - HT.sIx xs.length 0 lo), IsTup.new _ _⟩

end
end L2

namespace L2
open PySem PySem.Spec PyProof.Rows

/-! ### places -/
/-- the place that an index of any sign means -/
def ixN (n : Nat) (i : Int) : Option Nat := if 0 ≤ i then (if i < n then some i.toNat else none) else if -(n : Int) ≤ i then some (i + n).toNat else none
def atI {α : Type} (xs : List α) (i : Int) : Option α := (ixN xs.length i).bind fun j => xs[j]?
theorem ixN_seq {n : Nat} {i : Int} {j : Nat} (h : ixN n i = some j) : seqIndex? i n = some j ∧ j < n ∧ -(n : Int) ≤ i ∧ i < n := by
  unfold ixN at h
  by_cases h0 : 0 ≤ i
  · rw [if_pos h0] at h
    by_cases h1 : i < n
    · rw [if_pos h1] at h
      have e : i.toNat = j := Option.some.inj h
      exact ⟨by rw [seqIndex_of h0 h1, e], by omega, by omega, h1⟩
    · rw [if_neg h1] at h; cases h
  · rw [if_neg h0] at h
    by_cases h1 : -(n : Int) ≤ i
    · rw [if_pos h1] at h
      have e : (i + n).toNat = j := Option.some.inj h
      exact ⟨by rw [seqIndex_neg (by omega) h1, e], by omega, h1, by omega⟩
    · rw [if_neg h1] at h; cases h
theorem atI_get {α : Type} {xs : List α} {i : Int} {v : α} (h : atI xs i = some v) : ∃ j, seqIndex? i xs.length = some j ∧ xs[j]? = some v ∧ j < xs.length ∧ -(xs.length : Int) ≤ i ∧ i < xs.length := by
  unfold atI at h
  cases e : ixN xs.length i with
  | none => rw [e] at h; cases h
  | some j =>
    rw [e] at h
    obtain ⟨h1, h2, h3, h4⟩ := ixN_seq e
    exact ⟨j, h1, h, h2, h3, h4⟩
theorem atI_nat {α : Type} {xs : List α} {j : Nat} {v : α} (h : xs[j]? = some v) : atI xs (j : Int) = some v := by
  have hj : j < xs.length := (List.getElem?_eq_some_iff.mp h).1
  have e : ixN xs.length (j : Int) = some j := by
    unfold ixN
    rw [if_pos (by omega), if_pos (by omega)]; simp
  unfold atI; rw [e]; exact h

/-! ### what may be subscripted -/
/-- what stands as an index of a plain subscript -/
def PlainIx (b : Expr) : Prop := ∀ o i, subscripted b false o i = operate [o, i] (getItem o i)
/-- a subscript by values -/
def IxR (X : Cx) (r : R2) : Prop :=
  ∀ (value slice : Expr) (pins : List (Addr × Obj)) (s : Shared) (σ : St) (H : Hp) (x y : V) (v u : Value) (Q : VK), Inv X pins σ H s → RelV x v → RelV y u → r x y H Q →
    subscripted slice false v u = operate [v, u] (getItem v u) → wpAny (model X.prog X.w) X.A (subscriptTail value slice v u) (EP X pins σ Q) X.xe s
/-- a call of a builtin's method by values: the receiver, the arguments -/
def MtR (X : Cx) (id : String) (r : V → List V → Hp → VK → Prop) : Prop :=
  ∀ (pins : List (Addr × Obj)) (s : Shared) (σ : St) (H : Hp) (x : V) (xs : List V) (v : Value) (us : List Value) (Q : VK), Inv X pins σ H s → RelV x v → Vals xs us → r x xs H Q →
    wpAny (model X.prog X.w) X.A (call (.builtin id) (v :: us)) (EP X pins σ Q) X.xe s
section
variable {X : Cx} {a b : Expr} {ta tb : TE} {pos : Pos}
/-- a[b] -/
theorem pe_ix {r : R2} (hr : IxR X r) (ha : PE X a ta) (hb : PE X b tb) (hs : PlainIx b) : PE X (.Subscript a b pos) (tOp r ta tb) := by
  intro pins s σ H Q I h
  exact Subscript_ (binT ha hb I h fun v u s2 x y H2 I2 rx ry q => hr a b pins s2 σ H2 x y v u Q I2 rx ry q (hs _ _))

def rIxL (K : PySem.W.Frag) : R2 := fun x y H Q => ∃ p xs i v, x = .ref p ∧ y = .int i ∧ SqL K H p xs ∧ atI xs i = some v ∧ Q v H
def rIxT (K : PySem.W.Frag) : R2 := fun x y H Q => ∃ p xs i v, x = .ref p ∧ y = .int i ∧ SqT K H p xs ∧ atI xs i = some v ∧ Q v H
theorem ix_list : IxR X (rIxL X.K) := by
  intro value slice pins s σ H x y v u Q I rx ry h hs
  obtain ⟨p, xs, i, z, rfl, rfl, hq, he, q⟩ := h
  cases rx
  obtain ⟨t, rfl⟩ := ry
  obtain ⟨its, r, pl, hz⟩ := I.list hq
  obtain ⟨j, h1, h2, h3, h4, h5⟩ := atI_get he
  obtain ⟨w, ew, rw'⟩ := r.get h2
  have hl := r.length
  have hn := line63
  have fin : EP X pins σ Q w s := ⟨z, H, I, rw', q⟩
  by_cases h0 : 0 ≤ i
  · have hj : i.toNat = j := by
      rw [seqIndex_of h0 h5] at h1
      exact Option.some.inj h1
    exact item_listR pl.isList h0 (by omega) (by rw [hj]; simpa using ew) fin hs
  · have hj : (i + (its.toArray.size : Int)).toNat = j := by
      rw [seqIndex_neg (by omega) h4] at h1
      rw [List.size_toArray, ← hl]
      exact Option.some.inj h1
    exact subscriptTail_builtinR (x := w) pl.isList.typeIs slot_list_getitem.lookup
      (wpAny_getItem_list_neg (Q := fun r s' => r = w ∧ EP X pins σ Q r s') pl.isList (by omega) (by rw [List.size_toArray] <;> omega) (by omega) (by rw [hj]; simpa using ew) ⟨rfl, fin⟩) hs
theorem ix_tup : IxR X (rIxT X.K) := by
  intro value slice pins s σ H x y v u Q I rx ry h hs
  obtain ⟨p, xs, i, z, rfl, rfl, hq, he, q⟩ := h
  cases rx
  obtain ⟨t, rfl⟩ := ry
  obtain ⟨its, r, pl, hz⟩ := I.tuple hq
  obtain ⟨j, h1, h2, h3, h4, h5⟩ := atI_get he
  obtain ⟨w, ew, rw'⟩ := r.get h2
  have hl := r.length
  have hn := line63
  have fin : EP X pins σ Q w s := ⟨z, H, I, rw', q⟩
  exact subscriptTail_builtinR (x := w) pl.typeIs slot_tuple_getitem.lookup
    (getItem_tuple (j := j) (Q := fun r s' => r = w ∧ EP X pins σ Q r s') pl (by omega) (by omega) (by rw [List.size_toArray, ← hl]; exact h1) (by simpa using ew) ⟨rfl, fin⟩) hs

/-! ### xs[i] = v, any sign -/
/-- the list's object behind a store -/
theorem mapSeq_set (its : List Value) (n j : Nat) (u : Value) : Obj.mapSeq (·.setIfInBounds j u) { cls := .type "list", data := .seq its.toArray n } = { cls := .type "list", data := .seq (its.set j u).toArray n } := by
  simp [Obj.mapSeq]
theorem Inv.lst {pins : List (Addr × Obj)} {σ : St} {H : Hp} {s : Shared} {p : Addr} {xs : List V} (I : Inv X pins σ H s) (h : H p = some (.lst xs)) :
    ∃ (its : List Value) (n : Nat), Vals xs its ∧ s.heap.get? p = some { cls := .type "list", data := .seq its.toArray n } ∧ xs.length ≤ sizeLine := by
  obtain ⟨z, its, n, r, e⟩ := I.hok p _ h
  exact ⟨its, n, r, e, z⟩
/-- the list at p is written by an update of its object -/
theorem Inv.lstUpd {pins : List (Addr × Obj)} {σ : St} {H : Hp} {s : Shared} {p : Addr} {xs ys : List V} {its its' : List Value} {n n' : Nat} {f : Obj → Obj} (I : Inv X pins σ H s) (h : H p = some (.lst xs))
    (ho : s.heap.get? p = some { cls := .type "list", data := .seq its.toArray n }) (hf : f { cls := .type "list", data := .seq its.toArray n } = { cls := .type "list", data := .seq its'.toArray n' }) (r : Vals ys its') (hz : ys.length ≤ sizeLine) (t : Nat) :
    Inv X pins σ (upd H p (.lst ys)) { s with heap := s.heap.update p f, toks := t } := by
  have e : (s.heap.update p f).get? p = some { cls := .type "list", data := .seq its'.toArray n' } := by
    rw [Heap.get?_update_self f ho (by rw [hf] <;> rfl), hf]
  refine I.write (x := p) (e := p) (by rw [h]; trivial) (.inl rfl) (fun b u hb q => (Heap.get?_update_other _ _ (Ne.symm hb)).trans q) ⟨_, e⟩ ?_
  exact ⟨hz, its', n', r, e⟩
def rSetL : V → V → V → Hp → (Hp → Prop) → Prop := fun o i v H Q => ∃ p xs k j, o = .ref p ∧ i = .int k ∧ H p = some (.lst xs) ∧ ixN xs.length k = some j ∧ Q (upd H p (.lst (xs.set j v)))
theorem set_list : PSet X rSetL := by
  intro pins s σ H o i v ov iv u Q I ro ri rv h
  obtain ⟨p, xs, k, j, rfl, rfl, hp, hj, q⟩ := h
  cases ro
  obtain ⟨t, rfl⟩ := ri
  obtain ⟨its, n, r, ho, hz⟩ := I.lst hp
  obtain ⟨h1, h2, h3, h4⟩ := ixN_seq hj
  have hl := r.length
  have hn := line63
  have I' : Inv X pins σ (upd H p (.lst (xs.set j v))) { s with heap := s.heap.update p (Obj.mapSeq (·.setIfInBounds j u)) } :=
    I.lstUpd hp ho (mapSeq_set its n j u) (r.set rv j) (by rw [List.length_set]; exact hz) s.toks
  by_cases h0 : 0 ≤ k
  · have hk : k.toNat = j := by
      rw [seqIndex_of h0 h4] at h1
      exact Option.some.inj h1
    exact PySem.W.ki_setAt ho h0 (by omega) (by rw [List.size_toArray, ← hl]; exact h4) (by rw [hk]; exact ⟨_, I', q⟩)
  · have hk : (k + (its.toArray.size : Int)).toNat = j := by
      rw [seqIndex_neg (by omega) h3] at h1
      rw [List.size_toArray, ← hl]
      exact Option.some.inj h1
    exact PySem.W.ki_setBack ho (by omega) (by rw [List.size_toArray, ← hl]; exact h3) (by omega) (by rw [hk]; exact ⟨_, I', q⟩)

/-! ### in, not in: flat items -/
def flatV : V → Bool
  | .non => true
  | .bl _ => true
  | .int _ => true
  | .str _ => true
  | _ => false
/-- == of flat values -/
def eqV : V → V → Bool
  | .non, .non => true
  | .bl a, .bl b => a == b
  | .bl a, .int b => (if a then 1 else 0) == b
  | .int a, .bl b => a == (if b then 1 else 0)
  | .int a, .int b => a == b
  | .str a, .str b => a == b
  | _, _ => false
theorem eqAt_V {A : Around} {s : Shared} {y x : V} {u v : Value} (ry : RelV y u) (rx : RelV x v) (fy : flatV y = true) (fx : flatV x = true) : SeqAt.EqAt A s u v (eqV y x) := by
  cases y with
  | non =>
    cases ry
    cases x with
    | non => cases rx; exact SeqAt.EqAt.same _
    | bl b => cases rx; exact SeqAt.EqAt.none_bool b
    | int b => obtain ⟨t, rfl⟩ := rx; exact SeqAt.EqAt.none_int b t
    | str b => obtain ⟨t, rfl⟩ := rx; exact SeqAt.EqAt.none_str b t
    | _ => exact absurd (show false = true from fx) Bool.false_ne_true
  | bl a =>
    cases ry
    cases x with
    | non => cases rx; exact SeqAt.EqAt.bool_none a
    | bl b => cases rx; exact SeqAt.EqAt.bool_bool a b
    | int b => obtain ⟨t, rfl⟩ := rx; exact SeqAt.EqAt.bool_int a b t
    | str b => obtain ⟨t, rfl⟩ := rx; exact SeqAt.EqAt.bool_str a b t
    | _ => exact absurd (show false = true from fx) Bool.false_ne_true
  | int a =>
    obtain ⟨t', rfl⟩ := ry
    cases x with
    | non => cases rx; exact SeqAt.EqAt.int_none a t'
    | bl b => cases rx; exact SeqAt.EqAt.int_bool a t' b
    | int b => obtain ⟨t, rfl⟩ := rx; exact SeqAt.EqAt.int_int a t' b t
    | str b => obtain ⟨t, rfl⟩ := rx; exact SeqAt.EqAt.int_str a t' b t
    | _ => exact absurd (show false = true from fx) Bool.false_ne_true
  | str a =>
    obtain ⟨t', rfl⟩ := ry
    cases x with
    | non => cases rx; exact SeqAt.EqAt.str_none a t'
    | bl b => cases rx; exact SeqAt.EqAt.str_bool a t' b
    | int b => obtain ⟨t, rfl⟩ := rx; exact SeqAt.EqAt.str_int a t' b t
    | str b => obtain ⟨t, rfl⟩ := rx; exact SeqAt.EqAt.str_str a t' b t
    | _ => exact absurd (show false = true from fx) Bool.false_ne_true
  | _ => exact absurd (show false = true from fy) Bool.false_ne_true
/-- the items' answers, read off the values (a value's own answer does not lean on its token) -/
def eqU (x : V) (u : Value) : Bool := match u with
  | .none => eqV .non x
  | .bool b => eqV (.bl b) x
  | .int i _ => eqV (.int i) x
  | .str z _ => eqV (.str z) x
  | _ => false
theorem eqU_of {x y : V} {u : Value} (r : RelV y u) (f : flatV y = true) : eqU x u = eqV y x := by
  cases y with
  | non => cases r; rfl
  | bl b => cases r; rfl
  | int i => obtain ⟨t, rfl⟩ := r; rfl
  | str z => obtain ⟨t, rfl⟩ := r; rfl
  | _ => exact absurd (show false = true from f) Bool.false_ne_true
theorem any_eqU {x : V} : ∀ {xs : List V} {us : List Value}, Vals xs us → xs.all flatV = true → us.any (eqU x) = xs.any fun y => eqV y x
  | _, _, .nil, _ => rfl
  | y :: xs, u :: us, .cons r t, f => by
    rw [List.all_cons, Bool.and_eq_true] at f
    rw [List.any_cons, List.any_cons, eqU_of r f.1, any_eqU t f.2]
theorem mem_eqAt {A : Around} {s : Shared} {x : V} {v : Value} (rx : RelV x v) (fx : flatV x = true) : ∀ {xs : List V} {us : List Value}, Vals xs us → xs.all flatV = true → ∀ u ∈ us, SeqAt.EqAt A s u v (eqU x u)
  | _, _, .nil, _ => fun u hu => by cases hu
  | y :: xs, u :: us, .cons r t, f => fun u' hu => by
    rw [List.all_cons, Bool.and_eq_true] at f
    rcases List.mem_cons.mp hu with rfl | hu
    · rw [eqU_of r f.1]; exact eqAt_V r rx f.1 fx
    · exact mem_eqAt rx fx t f.2 u' hu
def inV (x : V) (xs : List V) : Bool := xs.any fun y => eqV y x
/-- x in a list or tuple of flat items -/
def rIn (K : PySem.W.Frag) (neg : Bool) : R2 := fun x y H Q => ∃ p xs, y = .ref p ∧ (SqL K H p xs ∨ SqT K H p xs) ∧ flatV x = true ∧ xs.all flatV = true ∧ Q (.bl (if neg then !inV x xs else inV x xs)) H
theorem op_in_seq : OpR X (compareOp .In) (rIn X.K false) := by
  intro pins s σ H x y v u Q I rx ry h
  obtain ⟨p, xs, rfl, hq, fx, fs, q⟩ := h
  cases ry
  rcases hq with hq | hq
  · obtain ⟨its, r, pl, hz⟩ := I.list hq
    refine SeqAt.in_listAt (eqU x) pl.isList (fun w hw => mem_eqAt rx fx r fs w (by simpa using hw)) ⟨.bl _, H, I, rfl, ?_⟩
    rw [show its.toArray.any (eqU x) = its.any (eqU x) by simp, any_eqU r fs]
    exact q
  · obtain ⟨its, r, pl, hz⟩ := I.tuple hq
    refine SeqAt.in_tupleAt (eqU x) pl (fun w hw => mem_eqAt rx fx r fs w (by simpa using hw)) ⟨.bl _, H, I, rfl, ?_⟩
    rw [show its.toArray.any (eqU x) = its.any (eqU x) by simp, any_eqU r fs]
    exact q

/-! ### len, list(x), tuple(x) of any list or tuple that is read -/
theorem call_len_seq : CallR X (.builtin "len") (fun xs H Q => ∃ p ys, xs = [.ref p] ∧ (SqL X.K H p ys ∨ SqT X.K H p ys) ∧ Q (.int ys.length) H) := by
  intro pins s σ H xs us Q I r h
  obtain ⟨p, ys, rfl, hq, q⟩ := h
  obtain ⟨u, rfl, rx⟩ := vals1 r
  cases rx
  have hn := line63
  rcases hq with hq | hq
  · obtain ⟨its, r', pl, hz⟩ := I.list hq
    have hlen := r'.length
    exact Calls.call_len_list pl.isList (by simp only [List.size_toArray] <;> omega) ⟨.int ys.length, H, I.tok _, ⟨s.toks + 1, by rw [List.size_toArray, hlen]⟩, q⟩
  · obtain ⟨its, r', pl, hz⟩ := I.tuple hq
    have hlen := r'.length
    exact len_tuple pl (by simp only [List.size_toArray] <;> omega) ⟨.int ys.length, H, I.tok _, ⟨s.toks + 1, by rw [List.size_toArray, hlen]⟩, q⟩
theorem call_tuple_of : CallR X (.type "tuple") (fun xs H Q => ∃ p ys, xs = [.ref p] ∧ ((SqL X.K H p ys ∧ ∀ l, H l = none → Q (.ref l) (upd H l (.tup ys))) ∨ (SqT X.K H p ys ∧ Q (.ref p) H))) := by
  intro pins s σ H xs us Q I r h
  obtain ⟨p, ys, rfl, h⟩ := h
  obtain ⟨u, rfl, rx⟩ := vals1 r
  cases rx
  rcases h with ⟨hq, q⟩ | ⟨hq, q⟩
  · obtain ⟨its, r', pl, hz⟩ := I.list hq
    have hlen := r'.length
    refine call_tuple_list pl.isList (fun h' kp => ?_) (by simp only [List.size_toArray] <;> omega)
    have I1 : Inv X pins σ H { s with heap := h' } := I.kept (t' := s.toks) kp
    have I2 : Inv X pins σ (upd H h'.objs.size (.tup ys)) { s with heap := h'.push { cls := .type "tuple", data := .seq its.toArray } } :=
      I1.laid (t' := s.toks) (fun b o e => Heap.get?_push_of_some _ e) (Nat.le_refl _) (show ObjOk X.prog X.w _ _ _ (.tup ys) from ⟨hz, its, r', IsTup.new _ _⟩)
    exact ⟨.ref h'.objs.size, _, I2, rfl, q _ (I1.hok.fresh (Nat.le_refl _))⟩
  · obtain ⟨its, r', pl, hz⟩ := I.tuple hq
    exact call_tuple_same pl ⟨.ref p, H, I, rfl, q⟩

/-! ### the call of a builtin's method: o.m(..) -/
/-- the value is of that builtin type -/
def tyV (K : PySem.W.Frag) (T : String) (x : V) (H : Hp) : Prop := match x with
  | .str _ => T = "str"
  | .int _ => T = "int"
  | .ref p => (T = "list" ∧ ∃ xs, SqL K H p xs) ∨ (T = "tuple" ∧ ∃ o, K.lookup p = some o ∧ o.cls = .type "tuple" ∧ o.dict = none) ∨
      (T = "dict" ∧ ((∃ kvs, H p = some (.dK kvs)) ∨ ∃ kvs, H p = some (.dT kvs))) ∨ (T = "set" ∧ ∃ S n, H p = some (.set S n))
  | _ => False
theorem tyV_is {pins : List (Addr × Obj)} {σ : St} {H : Hp} {s : Shared} {T : String} {x : V} {v : Value} (I : Inv X pins σ H s) (r : RelV x v) (ty : tyV X.K T x H) :
    s.TypeIs v T ∧ ∀ a, v = .ref a → ∃ ob, s.heap.get? a = some ob ∧ ob.dict = none := by
  cases x with
  | str z =>
    obtain ⟨t, rfl⟩ := r
    cases (show T = "str" from ty)
    exact ⟨typeIs_str s z t, fun _ e => nomatch e⟩
  | int i =>
    obtain ⟨t, rfl⟩ := r
    cases (show T = "int" from ty)
    exact ⟨typeIs_int s i t, fun _ e => nomatch e⟩
  | ref p =>
    cases r
    rcases ty with ⟨rfl, xs, hq⟩ | ⟨rfl, o, hk, hc, hd⟩ | ⟨rfl, hk⟩ | ⟨rfl, S, n, hk⟩
    · obtain ⟨its, _, pl, _⟩ := I.list hq
      refine ⟨pl.isList.typeIs, fun a e => ?_⟩
      cases e
      obtain ⟨o, n, e, c, hd, _⟩ := pl
      exact ⟨o, e, hd⟩
    · refine ⟨⟨o, I.kIn p o hk, hc⟩, fun a e => ?_⟩
      cases e
      exact ⟨o, I.kIn _ o hk, hd⟩
    · have z : ∃ o, s.heap.get? p = some o ∧ o.ExactDict := by
        rcases hk with ⟨kvs, hk⟩ | ⟨kvs, hk⟩
        · obtain ⟨_, _, _, _, o, _, _, e, ex, _⟩ := I.hok p _ hk
          exact ⟨o, e, ex⟩
        · obtain ⟨_, _, _, _, o, _, _, e, ex, _⟩ := I.hok p _ hk
          exact ⟨o, e, ex⟩
      obtain ⟨o, e, ex⟩ := z
      refine ⟨⟨o, e, ex.1⟩, fun a e2 => ?_⟩
      cases e2
      exact ⟨o, e, ex.2.1⟩
    · obtain ⟨o, _, _, _, e, ex, _⟩ := I.hok p _ hk
      refine ⟨⟨o, e, ex.1⟩, fun a e2 => ?_⟩
      cases e2
      exact ⟨o, e, ex.2.1⟩
  | _ => exact False.elim ty
def tBM (K : PySem.W.Frag) (T : String) (r : V → List V → Hp → VK → Prop) (to : TE) (t : TA) : TE := fun σ H Q => to σ H fun x H1 => tyV K T x H1 ∧ t σ H1 fun xs H2 => r x xs H2 Q
variable {o e : Expr} {es : List Expr} {to : TE} {t : TA} {name : Str} {apos cpos : Pos} {T id : String} {r : V → List V → Hp → VK → Prop}
theorem pe_bm (pa : PlainAttrs T) (slot : Slot T name id) (hty : typeOf (.builtin id) = pure (.type "method_descriptor")) (hm : MtR X id r) (ho : PE X o to) (ha : PA X (e :: es) t)
    (hbase : attributeBase o name X.env (eval o X.env) = eval o X.env := by rfl)
    (hfew : ((backTo cpos (starEach (e :: es) X.env)).all (fun x => !x.1) && (backToKw cpos (keywordEach [] X.env)).all (fun x => x.1.isSome)
      && decide ((e :: es).length + ([] : List Keyword).length + (if ([] : List Keyword).isEmpty then 0 else 1) < 30)) = true := by rfl)
    (hline : (apos.endLine == cpos.line) = true := by rfl) (hs : starEach (e :: es) X.env = (false, eval e X.env) :: starEach es X.env := by rfl) (hplain : (backTo cpos (starEach es X.env)).any (·.1) = false := by rfl) :
    PE X (.Call (.Attribute o name apos) (e :: es) [] cpos) (tBM X.K T r to t) := by
  intro pins s σ H Q I h
  refine wpAny_Call_method_late hbase hfew hline rfl (thn (ho pins s σ H _ I h) fun v s1 ⟨x, H1, I1, r1, ty, q1⟩ => ?_)
  obtain ⟨h1, h2⟩ := tyV_is I1 r1 ty
  refine ⟨T, id, pa, slot, hty, h1, h2, ?_⟩
  have hA := ha cpos pins s1 σ H1 _ I1 q1
  rw [hs] at hA ⊢
  refine Calls.callWith_builtin (by show (false || (backTo cpos (starEach es X.env)).any (·.1)) = false; rw [hplain] <;> rfl) (Calls.evalArgs_plain ?_)
  exact thn hA fun us s2 ⟨vs, H2, I2, r2, q2⟩ => hm pins s2 σ H2 x vs v us Q I2 r1 r2 q2
/- xs.append(e), list.index on a module's tuple .. are MtR facts of 06m -/
end
end L2

namespace L2
open PySem PySem.Spec PyProof.Rows

def MtM (X : Cx) (id : String) (r : V → List V → Hp → VK → Prop) : Prop :=
  ∀ (pins : List (Addr × Obj)) (s : Shared) (σ : St) (H : Hp) (x : V) (xs : List V) (v : Value) (us : List Value) (Q : VK), Inv X pins σ H s → RelV x v → Vals xs us → r x xs H Q →
    wpAny (model X.prog X.w) X.A (call (.builtin id) (v :: us)) (EP X pins σ Q) X.xe s

/-! ### lists of values -/
theorem Vals.one : ∀ {x : V} {us : List Value}, Vals [x] us → ∃ u, us = [u] ∧ RelV x u
  | _, _, .cons r .nil => ⟨_, rfl, r⟩
theorem Vals.eraseIdx : ∀ {xs : List V} {us : List Value} (i : Nat), Vals xs us → Vals (xs.eraseIdx i) (us.eraseIdx i)
  | _, _, _, .nil => .nil
  | _, _, 0, .cons _ t => t
  | _, _, i + 1, .cons r t => .cons r (Vals.eraseIdx i t)
theorem Vals.reverse {xs : List V} {us : List Value} (h : Vals xs us) : Vals xs.reverse us.reverse := by
  induction h with
  | nil => exact .nil
  | cons r t ih => rw [List.reverse_cons, List.reverse_cons]; exact Vals.append ih (.cons r .nil)
theorem Vals.rep {xs : List V} {us : List Value} (h : Vals xs us) : ∀ k : Nat, Vals (List.replicate k xs).flatten (List.replicate k us).flatten
  | 0 => .nil
  | k + 1 => by
    rw [List.replicate_succ, List.replicate_succ, List.flatten_cons, List.flatten_cons]
    exact Vals.append h (Vals.rep h k)
theorem len_erase {α : Type} : ∀ (l : List α) (i : Nat), (l.eraseIdx i).length ≤ l.length
  | [], _ => Nat.le_refl _
  | _ :: _, 0 => Nat.le_succ _
  | _ :: r, i + 1 => Nat.succ_le_succ (len_erase r i)
theorem foldl_rep (its : List Value) : ∀ (k : Nat) (acc : List Value),
    List.foldl (fun x1 x2 => x1 ++ x2) acc.toArray (List.replicate k its.toArray) = (acc ++ (List.replicate k its).flatten).toArray
  | 0, acc => by simp
  | k + 1, acc => by
    have e : acc.toArray ++ its.toArray = (acc ++ its).toArray := by simp
    have e2 : (acc ++ its) ++ (List.replicate k its).flatten = acc ++ (List.replicate (k + 1) its).flatten := by
      rw [List.replicate_succ, List.flatten_cons, List.append_assoc]
    rw [← e2, ← foldl_rep its k (acc ++ its), ← e, List.replicate_succ, List.foldl_cons]

section
variable {X : Cx} {pins : List (Addr × Obj)} {σ : St} {H : Hp} {s : Shared} {l b : Addr} {xs ys zs : List V}

/-! ### the two steps: a tracked list is rewritten, a new list is laid -/
theorem Inv.lset {its its' : List Value} {n : Nat} {f : Array Value → Array Value} {t' : Nat} (I : Inv X pins σ H s) (hH : H l = some (.lst xs))
    (e : s.heap.get? l = some { cls := .type "list", data := .seq its.toArray n }) (hf : f its.toArray = its'.toArray) (hv : Vals ys its') (hz : ys.length ≤ sizeLine) :
    Inv X pins σ (upd H l (.lst ys)) { s with heap := s.heap.update l (Obj.mapSeq f), toks := t' } := by
  have q := PySem.IsL.update e f
  rw [hf] at q
  refine I.write (x := l) (e := l) (by rw [hH]; exact trivial) (.inl rfl) (fun b' u hb hu => (Heap.get?_update_other s.heap (Obj.mapSeq f) (Ne.symm hb)).trans hu) ⟨_, q⟩ ?_
  exact ⟨hz, its', _, hv, q⟩
theorem Inv.lnew {its : List Value} {t' : Nat} (I : Inv X pins σ H s) (hv : Vals ys its) (hz : ys.length ≤ sizeLine) :
    Inv X pins σ (upd H s.heap.objs.size (.lst ys)) { s with heap := s.heap.push { cls := .type "list", data := .seq its.toArray }, toks := t' } :=
  I.laid (fun _ _ q => Heap.get?_push_of_some _ q) (Nat.le_refl _) ⟨hz, its, 0, hv, Heap.get?_push_size _ rfl⟩
theorem Inv.fresh (I : Inv X pins σ H s) : H s.heap.objs.size = none := I.hok.fresh (Nat.le_refl _)
theorem Inv.lstM (I : Inv X pins σ H s) (hH : H l = some (.lst xs)) : xs.length ≤ sizeLine ∧ ∃ (its : List Value) (n : Nat), Vals xs its ∧ xs.length = its.length ∧ s.heap.get? l = some { cls := .type "list", data := .seq its.toArray n } := by
  obtain ⟨z, its, n, r, e⟩ := I.hok l _ hH
  exact ⟨z, its, n, r, r.length, e⟩

theorem notLongL {n : Nat} (h : n ≤ sizeLine) : Builtin.List.listTooLong n = false := by
  unfold Builtin.List.listTooLong
  exact decide_eq_false (by omega)
end

section
variable {X : Cx}

/-! ### methods -/
def rAppend : V → List V → Hp → VK → Prop := fun x vs H Q => ∃ l xs y, x = .ref l ∧ vs = [y] ∧ H l = some (.lst xs) ∧ xs.length < sizeLine ∧ Q .non (upd H l (.lst (xs ++ [y])))
theorem mt_append : MtM X "list.append" rAppend := by
  intro pins s σ H x vs v us Q I rx rv h
  obtain ⟨l, xs, y, rfl, rfl, hH, hz, q⟩ := h
  cases rx
  obtain ⟨u, rfl, ru⟩ := rv.one
  obtain ⟨z, its, n, r, hl, e⟩ := I.lstM hH
  refine call_meets F.slot_list_append ⟨_, e, rfl⟩ F.entry_list_append (F.args_list_append_2 _ _) (PySem.list_append l its.toArray n u (by rw [List.size_toArray]; omega)) ⟨e, ?_⟩
  refine ⟨.non, _, I.lset (its' := its ++ [u]) hH e (by simp) (r.append (.cons ru .nil)) ?_, rfl, q⟩
  rw [List.length_append, List.length_singleton]
  omega

def rExtend : V → List V → Hp → VK → Prop := fun x vs H Q => ∃ l b xs zs, x = .ref l ∧ vs = [.ref b] ∧ H l = some (.lst xs) ∧ H b = some (.lst zs) ∧ xs.length + zs.length ≤ sizeLine ∧ Q .non (upd H l (.lst (xs ++ zs)))
theorem mt_extend : MtM X "list.extend" rExtend := by
  intro pins s σ H x vs v us Q I rx rv h
  obtain ⟨l, b, xs, zs, rfl, rfl, hH, hB, hz, q⟩ := h
  cases rx
  obtain ⟨u, rfl, ru⟩ := rv.one
  cases ru
  obtain ⟨z, its, n, r, hl, e⟩ := I.lstM hH
  obtain ⟨z2, its2, n2, r2, hl2, e2⟩ := I.lstM hB
  have hsz : its.toArray.size + its2.toArray.size ≤ sizeLine := by rw [List.size_toArray, List.size_toArray]; omega
  have hlong : ¬ (!its.toArray.isEmpty && Builtin.List.listTooLong (its.toArray.size + its2.toArray.size)) = true := by
    rw [notLongL hsz, Bool.and_false]
    exact Bool.false_ne_true
  refine call_meets F.slot_list_extend ⟨_, e, rfl⟩ F.entry_list_extend (F.args_list_extend_2 _ _)
    (AutoSeq1.list_extend_list_list_0 l its.toArray n b its2.toArray n2 hlong (by rw [List.size_toArray]; omega) (by omega)) ⟨e, e2, ?_⟩
  refine ⟨.non, _, I.lset (its' := its ++ its2) hH e (by simp) (r.append r2) ?_, rfl, q⟩
  rw [List.length_append]
  omega

def rPopAt : V → List V → Hp → VK → Prop := fun x vs H Q => ∃ l xs i k y, x = .ref l ∧ vs = [.int i] ∧ H l = some (.lst xs) ∧ -(2 ^ 63) ≤ i ∧ i < 2 ^ 63 ∧ seqIndex? i xs.length = some k ∧ xs[k]? = some y ∧ Q y (upd H l (.lst (xs.eraseIdx k)))
theorem mt_popAt : MtM X "list.pop" rPopAt := by
  intro pins s σ H x vs v us Q I rx rv h
  obtain ⟨l, xs, i, k, y, rfl, rfl, hH, h1, h2, hk, hy, q⟩ := h
  cases rx
  obtain ⟨u, rfl, ru⟩ := rv.one
  obtain ⟨t, rfl⟩ := ru
  obtain ⟨z, its, n, r, hl, e⟩ := I.lstM hH
  obtain ⟨w, hw, rw'⟩ := r.get hy
  refine call_meets F.slot_list_pop ⟨_, e, rfl⟩ F.entry_list_pop (F.args_list_pop_2 _ _)
    (MeetsSeq.list_pop_at l its.toArray n i t k w (fitsIndex_both h1 h2) (by rw [List.size_toArray, ← hl]; exact hk) (by rw [← Array.getElem?_toList]; exact hw) (by rw [List.size_toArray]; omega)) ⟨e, ?_⟩
  refine ⟨y, _, I.lset (its' := its.eraseIdx k) hH e ?_ (r.eraseIdx k) ?_, rw', q⟩
  · show its.toArray.eraseIdxIfInBounds k = (its.eraseIdx k).toArray
    rw [List.eraseIdxIfInBounds_toArray]
  · have := len_erase xs k
    omega

/-! ### list + list, list += list, list * int -/
def rCat : R2 := fun x y H Q => ∃ l b xs zs, x = .ref l ∧ y = .ref b ∧ H l = some (.lst xs) ∧ H b = some (.lst zs) ∧ xs.length + zs.length ≤ sizeLine ∧ ∀ p, H p = none → Q (.ref p) (upd H p (.lst (xs ++ zs)))
theorem op_cat : OpR X (binaryOp .Add) rCat := by
  intro pins s σ H x y v u Q I rx ry h
  obtain ⟨l, b, xs, zs, rfl, rfl, hH, hB, hz, q⟩ := h
  cases rx
  cases ry
  obtain ⟨z, its, n, r, hl, e⟩ := I.lstM hH
  obtain ⟨z2, its2, n2, r2, hl2, e2⟩ := I.lstM hB
  refine PySem.P.add_list e e2 ?_ (by rw [List.size_toArray, List.size_toArray]; omega)
  have ea : its.toArray ++ its2.toArray = (its ++ its2).toArray := by simp
  rw [ea]
  exact ⟨.ref _, _, I.lnew (t' := s.toks) (r.append r2) (by rw [List.length_append]; omega), rfl, q _ I.fresh⟩
/-- a list times an int (a negative one is nothing) -/
def rRep : R2 := fun x y H Q => ∃ l k xs, x = .ref l ∧ y = .int k ∧ H l = some (.lst xs) ∧ -(2 ^ 63) ≤ k ∧ k < 2 ^ 63 ∧ xs.length * k.toNat ≤ sizeLine ∧
  ∀ p, H p = none → Q (.ref p) (upd H p (.lst (List.replicate k.toNat xs).flatten))
theorem len_rep {α : Type} (xs : List α) (k : Nat) : (List.replicate k xs).flatten.length = k * xs.length := by
  induction k with
  | zero => simp
  | succ k ih => rw [List.replicate_succ, List.flatten_cons, List.length_append, ih, Nat.succ_mul, Nat.add_comm]
theorem op_rep : OpR X (binaryOp .Mult) rRep := by
  intro pins s σ H x y v u Q I rx ry h
  obtain ⟨l, k, xs, rfl, rfl, hH, h1, h2, hz, q⟩ := h
  cases rx
  obtain ⟨t, rfl⟩ := ry
  obtain ⟨z, its, n, r, hl, e⟩ := I.lstM hH
  have hlen : its.toArray.size * k.toNat ≤ sizeLine := by rw [List.size_toArray, ← hl]; exact hz
  have hcap : ¬ its.toArray.size * k.toNat > (2 ^ 63 - 1) / 8 := by
    have : (sizeLine : Nat) ≤ (2 ^ 63 - 1) / 8 := by decide
    omega
  have hfit : ¬ (!Builtin.List.listFitsIndex k) = true := by
    rw [fitsIndex_both h1 h2]
    exact Bool.false_ne_true
  have hlong : ¬ Builtin.List.listTooLong (its.toArray.size * k.toNat) = true := by
    rw [notLongL hlen]
    exact Bool.false_ne_true
  have hnew : List.foldl (fun x1 x2 => x1 ++ x2) #[] (List.replicate (if its.toArray.isEmpty = true then 0 else k.toNat) its.toArray) = (List.replicate k.toNat its).flatten.toArray := by
    have f0 : ∀ m : Nat, List.foldl (fun x1 x2 => x1 ++ x2) #[] (List.replicate m its.toArray) = (List.replicate m its).flatten.toArray := fun m => by
      have := foldl_rep its m []
      rw [List.nil_append] at this
      exact this
    rw [f0]
    cases its with
    | nil => simp
    | cons a r' => rw [if_neg (by simp)]
  refine wpAny_binaryOp_repeat_ref (T := "list") (U := "int") (by decide) ⟨_, e, rfl⟩ (fun s' => typeIs_int s' k t) noFill_list_mul F.fills_int_mul F.slot_int_rmul repeat_list F.slot_int_index.lookup
    (call_meets F.slot_int_rmul (typeIs_int s k t) F.entry_int_rmul (F.args_int_rmul_2 _ _) (int___rmul___int_list k t l its.toArray n)
      ⟨e, rfl, ⟨_, e, rfl⟩, call_meets F.slot_list_mul ⟨_, e, rfl⟩ F.entry_list_mul (F.args_list_mul_2 _ _) (AutoListH.list___mul___list_int_3 l its.toArray n k t hfit hcap hlong) ⟨e, ?_⟩⟩)
  rw [hnew]
  exact ⟨.ref _, _, I.lnew (t' := s.toks) (r.rep k.toNat) (by rw [len_rep, Nat.mul_comm]; exact hz), rfl, q _ I.fresh⟩

end

/-! ### xs[a:b] = ys -/
section
variable {prog : Program} {w : World} {A : Around} {E : Value → Shared → Prop} {s : Shared}
end

section
variable {X : Cx}
end
end L2

namespace Att
open PySem PySem.W PySem.Calls PyProof.Rows

/-! ### the script -/
theorem ints_of_wellAll {P : Params} {h : Heap} : ∀ (ns : List Int) (vs : List Value), WellAll P h vs (ns.map WData.int) → IntsAre vs ns := by
  intro ns
  induction ns with
  | nil =>
    intro vs w
    rw [List.map_nil] at w
    cases w
    exact .nil
  | cons n ns ih =>
    intro vs w
    rw [List.map_cons] at w
    cases w with
    | cons a b =>
      cases a
      exact .cons _ _ (ih _ b)

theorem script_of {l : OpenLaw} {n : Nat} (hn : l.most = some n) {P : Params} {h : Heap} {args : List WData} {vals : List Value}
    (hpre : l.row.toRowW.claim.pre args = true) (hwl : WellAll P h vals args) :
    ∃ a vs ns, vals = [Value.ref a] ∧ args = [WData.list (ns.map WData.int)] ∧ h.get? a = some { cls := .type "list", data := .seq vs.toArray } ∧ IntsAre vs ns ∧ ns.length ≤ n := by
  have hsh : WShape.hasAll [] args [.list .int] = true := (pre_splitW hpre).1
  have hc : l.pre.holds [] { args := args } = true := (pre_splitW hpre).2
  obtain ⟨d, r, rfl, h1, h2⟩ := hasAllW_cons hsh
  obtain rfl := hasAllW_nil h2
  obtain ⟨xs, rfl, h3⟩ := hasW_list h1
  obtain ⟨ns, rfl⟩ := items_int h3
  have hlen : ns.length ≤ n := by
    unfold OpenLaw.pre at hc
    have h4 : (WTm.not (.lt (.lit (.int (n : Int))) (.len (.arg 0)))).holds [] { args := [.list (ns.map .int)] } = true := by
      have h4 := (holds_andW hc).1
      rw [hn] at h4
      exact h4
    have h5 := condW_of h4 (w_not (w_lt w_lit (w_len_list (w_arg rfl))))
    rw [List.length_map] at h5
    refine Nat.le_of_not_lt fun q => ?_
    have q' : (n : Int) < ((ns.length : Nat) : Int) := by omega
    first
      | (rw [decide_eq_true q'] at h5; exact absurd h5 (by decide))
      | (simp at h5; omega)
  cases hwl with
  | cons w1 w2 =>
    cases w2
    cases w1 with
    | list ho hall => exact ⟨_, _, ns, rfl, rfl, ho, ints_of_wellAll ns _ hall, hlen⟩

theorem post_true (l : OpenLaw) (args : List WData) : l.row.toRowW.claim.post args (.bool true) args = true :=
  postW_of (r := l.row.toRowW) (X := (true == true))
    (show WShape.has [] (.bool true) .bool = true by first | rfl | decide | simp [WShape.has, WShape.arms, WShape.armsAll])
    (show (WTm.eq .res (.lit (.bool true))).value [] { args := args, res := some (.bool true), after := args } = some (.bool (true == true)) from w_eq_bool (w_res rfl) w_lit) rfl

/-- the same from a codeAny of the CALL (for a layer whose function contracts speak of calls) -/
theorem attach_call {l : OpenLaw} {n : Nat} {q : Program} {loose : List Str} {XP : (Str → Option Value) → Heap → Prop} {YP : World → Heap → Prop} {d : DefRec}
    (hn : l.most = some n) (hdf : d.params.defaults = [])
    (call : ∀ (w : World) (s₀ s₁ : Shared) (mg mb : Str → Option Value) (fa : Addr) (o : Obj) (pm cd doc : Value) (a : Addr) (vs : List Value) (ns : List Int),
      Ground q loose [] XP w s₀ mg mb s₁.heap → YP w s₁.heap →
      s₁.heap.get? fa = some o → o.data = .func (docDef d.name d.params d.body d.scope pm cd doc) → s₁.heap.CodeRec cd d.name → mg d.name = some (.ref fa) →
      s₁.heap.get? a = some { cls := .type "list", data := .seq vs.toArray } → IntsAre vs ns → ns.length ≤ n → s₁.gens = #[] →
      codeAny (model l.prog w) callerA (.call (.ref fa) ⟨[.ref a], []⟩) (fun r s' => r = .ok (.ret (.bool true)) ∧ OldK s₁.heap s'.heap ∧ s'.os = s₁.os ∧ AllBare s'.gens) s₁) :
    WalkO q loose XP YP l.row.toRowW d [] (fun f vs => PySem.call f vs) := by
  intro w s₀ s₁ mg mb G Y fa o pm cd doc dV kV ho hd hcd hD hmg hg args vals as hpre hlay hrd hwl hlo
  obtain rfl : dV = .none := Dflts.none hD hdf
  obtain rfl : kV = .none := Dflts.noKw hD
  obtain ⟨a, vs, ns, rfl, rfl, hobj, hints, hlen⟩ := script_of hn hpre hwl
  refine enter_call (codeAny_mono (call w s₀ s₁ mg mb fa o pm cd doc a vs ns G Y ho (fd_plain hd) hcd hmg hobj hints hlen hg) fun r s' hq => ?_)
  obtain ⟨rfl, h2, h3, h4⟩ := hq
  exact ⟨.inl ⟨.bool true, .bool true, [], rfl, fun _ => rfl, .bool true, post_true l _, fun _ => ⟨List.Pairwise.nil, fun _ hm => (nomatch hm)⟩⟩, h2, h3, h4⟩

/-! ### rules over ANY heap (no ledger) from facts about the written part K: the library's own take a ledger (News) for what they write -/
section
variable {prog : Program} {w : World} {A : Around} {E : Value → Shared → Prop} {s : Shared} {K : Frag}

end
end Att

namespace L2
open PySem PySem.Spec PyProof.Rows

theorem vals_ints : ∀ {vs : List Value} {ns : List Int}, IntsAre vs ns → Vals (ns.map V.int) vs
  | _, _, .nil => .nil
  | _, _, .cons n t h => .cons ⟨t, rfl⟩ (vals_ints h)

/-- nothing is tracked but the script, known to the object (or it is an object of the module) -/
def Only (H : Hp) : Prop := ∀ b, H b = none ∨ ∃ o xs, H b = some (.frz o (.lst xs))

/-- THE HEAD: the law's promise, at the heap behind the top. F, the promise of the law's def, may use that base is part of the heap (so K.In base, base.Ns mainGlobals mg stand in Mod) -/
theorem law_call {P : Program} {w : World} {K : PySem.W.Frag} {mg mb : Str → Option Value} {CX : CXT} {k : Nat} {fa a : Addr} {fd : FuncData} {x : Str} {sp : Sp} {s₁ : Shared} {vs : List Value} {ns : List Int}
    (KX : K.In s₁.heap) (hns : s₁.heap.Ns mainGlobals mg) (hb : s₁.heap.Ns builtinsNs mb) (hbb : ∀ x : Str, x ≠ "__name__" → mb x = bootBuiltins x) (hlim : s₁.heap.NoLimit) (hg : s₁.gens = #[])
    (ha : s₁.heap.get? a = some { cls := .type "list", data := .seq vs.toArray }) (hi : IntsAre vs ns) (hl : ns.length ≤ sizeLine) (hr : Room k callerA)
    (F : ∀ base : Heap, K.In base → base.Ns mainGlobals mg → FnOk P w K mg base CX k fa fd [x] sp) (hbind : ∀ (s : Shared) (u : Value), BindsTo s fd ⟨[u], []⟩ [(x, u)])
    (hsp : ∀ H : Hp, Only H → SqL K H a (ns.map V.int) → sp [.ref a] H (fun v _ => v = .bl true) fun _ _ _ => False)
    (hCX : ∀ H e s', CX [] H s₁ (fun _ _ _ => False) e s' → False) :
    codeAny (model P w) callerA (.call (.ref fa) ⟨[.ref a], []⟩) (fun r s' => r = .ok (.ret (.bool true)) ∧ OldK s₁.heap s'.heap ∧ s'.os = s₁.os ∧ AllBare s'.gens) s₁ := by
  have rv := vals_ints hi
  have lenV := hi.length
  -- from an abstract heap in which nothing but the script may be tracked
  have core : ∀ H : Hp, Only H → SqL K H a (ns.map V.int) → HOk P w H s₁.heap → (∀ b, H b ≠ none → b = a) → (H a ≠ none → K.lookup a = none) →
      codeAny (model P w) callerA (.call (.ref fa) ⟨[.ref a], []⟩) (fun r s' => r = .ok (.ret (.bool true)) ∧ OldK s₁.heap s'.heap ∧ s'.os = s₁.os ∧ AllBare s'.gens) s₁ := by
    intro H hO hS hok hA hK
    have base_of : ∀ {b : Addr} {o : Obj}, s₁.heap.get? b = some o → H b = none → (hidT s₁.heap H).get? b = some o := fun e n => hidT_get e n
    have noA : ∀ {b : Addr} {o : Obj} {es : Array DictEntry} {ep : Nat}, s₁.heap.get? b = some o → o.data = .dict es ep → H b = none := fun {b o es ep} e d => by
      cases q : H b with
      | none => rfl
      | some u =>
        have e' : b = a := hA b (by rw [q]; simp)
        subst e'
        rw [ha] at e; cases e
        have d' : Data.seq vs.toArray _ = Data.dict es ep := d
        cases d'
    have nsK : ∀ {b : Addr} {m : Str → Option Value}, s₁.heap.Ns b m → (hidT s₁.heap H).Ns b m := fun {b m} ⟨o, es, ep, e, d, r⟩ => ⟨o, es, ep, base_of e (noA e d), d, r⟩
    have hKb : K.In (hidT s₁.heap H) := fun b o e => base_of (KX b o e) (by
      cases q : H b with
      | none => rfl
      | some u =>
        have e' : b = a := hA b (by rw [q]; simp)
        subst e'
        rw [hK (by rw [q]; simp)] at e; cases e)
    have hM : Mod K mg (hidT s₁.heap H) := ⟨hKb, nsK hns, ⟨mb, nsK hb, hbb⟩, let ⟨mc, h1, h2⟩ := hlim; ⟨mc, nsK h1, h2⟩⟩
    have e0 : Env0 P w K mg (hidT s₁.heap H) callerA [] s₁ H := ⟨rfl, hM, fun b o e => of_hidT e, Nat.le_of_eq (hidT_size _ _), trivial, fun b hb => absurd (show b ∈ ([] : List Addr) from hb) (by simp), hok, .of_eq hg⟩
    refine codeAny_mono ((F _ hKb (nsK hns)).run callerA [] s₁ H ⟨[.ref a], []⟩ [.ref a] [.ref a] _ _ hr e0 (hbind s₁ (.ref a)) (.cons rfl .nil) (hsp H hO hS)) fun r s' h => ?_
    cases r with
    | error e => exact (hCX H e s' h).elim
    | ok fl =>
      cases fl with
      | next => exact False.elim h
      | brk => exact False.elim h
      | cont => exact False.elim h
      | ret u =>
        obtain ⟨v, H', os, bare, un, hok', r', q⟩ := h
        have q' : v = .bl true := q
        subst q'
        obtain rfl : u = Value.bool true := r'
        refine ⟨rfl, OldK.of_keep fun b o e => ?_, os, bare⟩
        cases q : H b with
        | none => exact un.keep b o e q (by intro z; exact absurd (show b ∈ ([] : List Addr) from z) (by simp)) (by simp)
        | some u =>
          rcases hO b with z | ⟨ob, xs, z⟩
          · rw [q] at z; cases z
          · have z2 := un.frzs b ob _ z
            obtain ⟨e1, _⟩ := hok b _ z
            obtain ⟨e2, _⟩ := hok' b _ z2
            rw [e] at e1; cases e1
            exact e2
  cases hk : K.lookup a with
  | some o =>
    -- the script is one of the module's own objects
    have e := KX a o hk
    rw [ha] at e
    cases e
    refine core (fun _ => none) (fun _ => .inl rfl) (.inr ⟨_, vs.toArray, _, hk, rfl, rfl, rfl, by rw [List.size_toArray, lenV]; exact hl, by simpa using rv⟩) (fun b u z => by have z' : (none : Option HO) = some u := z; cases z') (fun b z => absurd rfl z) fun z => absurd rfl z
  | none =>
    refine core (fun b => if b = a then some (.frz { cls := .type "list", data := .seq vs.toArray } (.lst (ns.map V.int))) else none) (fun b => ?_) (.inl (.inr ⟨{ cls := .type "list", data := .seq vs.toArray }, if_pos rfl⟩)) (fun b u z => ?_) (fun b z => ?_) fun _ => hk
    · by_cases hb : b = a
      · exact .inr ⟨_, _, if_pos hb⟩
      · exact .inl (if_neg hb)
    · by_cases hb : b = a
      · have z' := (if_pos hb).symm.trans z
        cases z'
        subst hb
        exact ⟨ha, by rw [List.length_map]; exact hl, vs, _, rv, ha⟩
      · have z' := (if_neg hb).symm.trans z
        cases z'
    · by_cases hb : b = a
      · exact hb
      · exact absurd (if_neg hb) z
end L2

namespace L2
open PySem PySem.Spec PyProof.Rows

/-- the goal that k_head leaves (case hc), from the law's promise. F gives the function object fd (K's own) once, then the promise over every base -/
theorem walk_of {l : PySem.W.OpenLaw} {n k : Nat} {q : Program} {loose : List Str} {XP : (Str → Option Value) → Heap → Prop} {YP : World → Heap → Prop} {d : DefRec} {K : Params → PySem.W.Frag} {CX : World → CXT} {sp : World → Sp} {x : Str}
    (hn : l.most = some n) (hn2 : n ≤ sizeLine) (hdf : d.params.defaults = []) (hr : Room k callerA)
    (hY : ∀ (w : World) (h : Heap), YP w h → (K w.params).In h)
    (F : ∀ (w : World) (mg : Str → Option Value) (fa : Addr) (h : Heap), (K w.params).In h → h.Ns mainGlobals mg → mg d.name = some (.ref fa) →
      ∃ fd : FuncData, (∀ (s : Shared) (u : Value), BindsTo s fd ⟨[u], []⟩ [(x, u)]) ∧
        ∀ base : Heap, (K w.params).In base → base.Ns mainGlobals mg → FnOk l.prog w (K w.params) mg base (CX w) k fa fd [x] (sp w))
    (hsp : ∀ (w : World) (H : Hp) (a : Addr) (ns : List Int), ns.length ≤ n → Only H → SqL (K w.params) H a (ns.map V.int) → sp w [.ref a] H (fun v _ => v = .bl true) fun _ _ _ => False)
    (hCX : ∀ (w : World) (H : Hp) (s : Shared) (e : Value) (s' : Shared), CX w [] H s (fun _ _ _ => False) e s' → False) :
    PySem.W.WalkO q loose XP YP l.row.toRowW d [] (fun f vs => PySem.call f vs) := by
  refine Att.attach_call hn hdf fun w s₀ s₁ mg mb fa o pm cd doc a vs ns G Y ho hd hcd hmg hobj hints hlen hg => ?_
  have KX := hY w _ Y
  obtain ⟨fd, hb, hF⟩ := F w mg fa _ KX G.T.g hmg
  exact law_call KX G.T.g G.T.b G.T.builtins G.T.nolimit hg hobj hints (Nat.le_trans hlen hn2) hr hF hb (fun H hO hS => hsp w H a ns hlen hO hS) fun H e s' => hCX w H s₁ e s'
end L2

/-! SHORT WORDS over the layer: a def of the text, its body, what a loop and a test want. -/
namespace L2
open PySem PySem.Spec PyProof.Rows

def defArgs (s : Stmt) : Arguments := match s with
  | .FunctionDef _ a _ _ _ _ _ _ _ _ => a
  | _ => { posonlyargs := [], args := [], vararg := none, kwonlyargs := [], kw_defaults := [], kwarg := none, defaults := [] }
def defBody (s : Stmt) : List Stmt := match s with
  | .FunctionDef _ _ b _ _ _ _ _ _ _ => b
  | _ => []
def defScope (s : Stmt) : Scope := match s with
  | .FunctionDef _ _ _ _ _ _ sc _ _ _ => sc
  | _ => { kind := .function, names := [], isGenerator := false, isCoroutine := false }

/-! ### no exception leaves a def -/
abbrev CX0 : CXT := fun _ _ _ _ _ _ => False
abbrev E0 : XK := fun _ _ _ => False
theorem pass0 {X : Cx} : Passes CX0 X E0 := fun _ _ _ _ _ _ _ h => h.elim

/-! ### a def (or method) of the text as it stands behind the top -/
structure Fun (K : PySem.W.Frag) (x qual : Str) (st : Stmt) (f : Addr) (fd : FuncData) : Prop where
  ex : ∃ (oc : Value) (od : Option Addr) (kV doc pm : Value) (an : Option Addr) (cdv ct : Value) (osl : Array (Option Value)),
    fd = PySem.W.fnOf x qual (defArgs st) (defBody st) (defScope st) .none kV doc pm an cdv ct ∧ K.lookup f = some ⟨oc, od, .func fd, osl⟩ ∧ PySem.W.codeIn K cdv qual = true
  kp : PySem.W.keepIn K (.ref f) = true
section
variable {P : Program} {w : World} {K : PySem.W.Frag} {mg : Str → Option Value} {base : Heap}
/-- THE RULE for a def: its body as a term of rules, and the reading of that term -/
theorem Fun.ok {x qual : Str} {st : Stmt} {f : Addr} {fd : FuncData} {N ps : List Str} {k : Nat} {sp : Sp} (F : Fun K x qual st f fd) (S : FnScope N ps (defScope st)) (len : ∀ vs H Q E, sp vs H Q E → vs.length = ps.length)
    (hbody : ∀ (cdv : Value) (A : Around) (outer : List Env) (s : Shared) (H : Hp) (vs : List V) (Q : VK) (E : XK), Room k (A.deeper (envOfC qual (defScope st) s.heap.objs.size f cdv)) → sp vs H Q E →
      ∃ t, PSs (cxOf CX0 P w K mg base N qual (defScope st) f cdv A outer s H E).nox (defBody st) t ∧ t { nx := fun _ H' => Q .non H', rt := Q } (start N vs) H) : FnOk P w K mg base CX0 (k + 1) f fd ps sp := by
  obtain ⟨oc, od, kV, doc, pm, an, cdv, ct, osl, rfl, lk, hcd⟩ := F.ex
  refine fn_of lk hcd S len fun A outer s H vs Q E hr hsp => ?_
  obtain ⟨t, h, q⟩ := hbody cdv A outer s H vs Q E hr hsp
  exact ⟨t, h.nox, q⟩
/-- how its arguments bind (no defaults): h is «fun _ _ _ _ _ _ us hl => match us, hl with | [_, _], _ => rfl», one _ a parameter -/
theorem Fun.binds {x qual : Str} {st : Stmt} {f : Addr} {fd : FuncData} {ps : List Str} (F : Fun K x qual st f fd)
    (h : ∀ (kV doc pm : Value) (an : Option Addr) (cdv ct : Value) (us : List Value), us.length = ps.length → bindArgs (PySem.W.fnOf x qual (defArgs st) (defBody st) (defScope st) .none kV doc pm an cdv ct) ⟨us, []⟩ = pure (ps.zip us)) : Binds K fd ps [] := by
  obtain ⟨oc, od, kV, doc, pm, an, cdv, ct, osl, rfl, lk, hcd⟩ := F.ex
  exact .all (h kV doc pm an cdv ct)
theorem fun_mk {x qual : Str} {st : Stmt} {f : Addr} {oc : Value} {od an : Option Addr} {osl : Array (Option Value)} {kV doc pm cdv ct : Value} (l : K.lookup f = some ⟨oc, od, .func (PySem.W.fnOf x qual (defArgs st) (defBody st) (defScope st) .none kV doc pm an cdv ct), osl⟩)
    (c : PySem.W.codeIn K cdv qual = true) (k : PySem.W.keepIn K (.ref f) = true) : Fun K x qual st f (PySem.W.fnOf x qual (defArgs st) (defBody st) (defScope st) .none kV doc pm an cdv ct) := ⟨⟨oc, od, kV, doc, pm, an, cdv, ct, osl, rfl, l, c⟩, k⟩
end
theorem small1000 {n : Nat} (h : n ≤ 1000) : n < sizeLine := Nat.lt_of_le_of_lt h (by decide)

/-! ### expressions in short: the name that stands in the i-th slot -/
section
variable {X : Cx}
theorem pv (i : Nat) {x : Str} {pos : Pos} (hN : X.N[i]? = some x := by rfl) (hv : Vis X.env.scope x := by first | exact Or.inl rfl | exact Or.inr (Or.inl rfl) | exact Or.inr (Or.inr rfl)) (hd : (x == ("__debug__" : Str)) = false := by decide)
    (hcd : (x == ("__classdict__" : Str)) = false := by decide) : PE X (.Name x pos) (tVar i) := pe_var hN hv hd hcd
end

/-! ### tests -/
theorem iteF {A B : Prop} (h : B) : if false = true then A else B := by
  rw [if_neg Bool.false_ne_true]
  exact h
theorem iteT {A B : Prop} (h : A) : if true = true then A else B := by
  rw [if_pos rfl]
  exact h
theorem ite2 {c A B : Prop} [Decidable c] (h1 : c → A) (h2 : ¬ c → B) : if c then A else B := by
  by_cases h : c
  · rw [if_pos h]
    exact h1 h
  · rw [if_neg h]
    exact h2 h

/-! ### heaps -/
/-- all that was tracked is as it was -/
def Same (H H' : Hp) : Prop := ∀ b o, H b = some o → H' b = some o
theorem Same.refl (H : Hp) : Same H H := fun _ _ h => h

/-! ### a dict's pairs: keys that differ -/
section
variable {κ : Type} [DecidableEq κ]
end
end L2

set_option Elab.async false
set_option linter.all false
set_option maxRecDepth 100000
set_option maxHeartbeats 4000000
/-! a list comprehension of one clause, over the layer -/
namespace L2
open PySem PySem.Spec PyProof.Rows
section
variable {prog : Program} {w : World} {A : Around} {s : Shared}
theorem compLoop_gen {elt target iter : Expr} {ifs : List Expr} {scope : Scope} {pos : Pos} {it acc : Value} {env : Env} {R : Result → Shared → Prop} (I : Nat → Shared → Prop)
    (turn : ∀ n s, I n s → wpAny (model prog w) A (pyNext it) (fun r s₁ => match r with
      | none => R (.ok .next) s₁
      | some v => wpAny (model prog w) A (letOwnedTupleGo target it v) (fun _ s₁' => wpAny (model prog w) A (assign target env v) (fun _ s₂ =>
          wpAny (model prog w) A (forIn ifs true fun c r => if r = true then do let ok ← isTrue c env (eval c env); pure (ForInStep.yield ok) else pure (ForInStep.yield r)) (fun ok s₃ =>
            if ok = true then wpAny (model prog w) A (eval elt env) (fun x s₄ =>
              wpAny (model prog w) A (call (.builtin "list.append") [acc, x]) (fun _ s₅ => ∃ m, m < n ∧ I m s₅) (fun _ _ => False) s₄) (fun _ _ => False) s₃
            else ∃ m, m < n ∧ I m s₃) (fun _ _ => False) s₂) (fun _ _ => False) s₁') (fun _ _ => False) s₁) (fun _ _ => False) s)
    (n : Nat) (h : I n s) : codeAny (model prog w) A (.compLoop (.ListComp elt [⟨target, iter, ifs, 0⟩] scope pos) 0 it acc env) R s := by
  refine codeAny_loop rfl I (fun n s hI => ?_) n h
  show wpAny _ A ((compTurn (.ListComp elt [⟨target, iter, ifs, 0⟩] scope pos) 0 it acc env).onRaise (fun x => do noteFrame x env; theTreesLotGoes x)) _ _ s
  refine wpAny_noted ?_
  rw [compTurn_list]
  refine wpAny_bind (wpAny_standAt (wpAny_bind (wpAny_mono (turn n s hI) (fun r s₁ h₁ => ?_) fun _ _ h' => h'.elim)))
  cases r with
  | none => exact wpAny_pure h₁
  | some v =>
    refine wpAny_bind (wpAny_mono h₁ (fun _ s₁' h₁' => ?_) fun _ _ h' => h'.elim)
    refine wpAny_bind (wpAny_mono h₁' (fun _ s₂ h₂ => wpAny_bind (wpAny_mono h₂ (fun ok s₃ h₃ => ?_) fun _ _ h' => h'.elim)) fun _ _ h' => h'.elim)
    cases ok with
    | false => exact wpAny_pure ⟨rfl, h₃⟩
    | true =>
      exact wpAny_bind (wpAny_bind (wpAny_mono h₃ (fun x s₄ h₄ => wpAny_bind (wpAny_mono h₄ (fun _ s₅ h₅ => wpAny_pure (wpAny_pure ⟨rfl, h₅⟩)) fun _ _ h' => h'.elim)) fun _ _ h' => h'.elim))
end
/-- the context of a comprehension's block: nothing may be raised in it -/
def cxComp (X : Cx) (N : List Str) (scope : Scope) (cl : List (Str × Addr)) (C : Addr) (s : Shared) (H : Hp) (fp : List Addr) : Cx where
  prog := X.prog
  w := X.w
  K := X.K
  mg := X.mg
  base := X.base
  A := X.A
  N := N
  s₀ := s
  H₀ := H
  env := compEnvC scope cl C X.env
  outer := X.stack
  stack := X.stack
  ex := fp
  fn := fun _ => false
  calm := X.calm
  pn := []
  xe := fun _ _ => False
/-- the block's names at its entry: own ones have no value, caught ones the def's -/
def sigC (js : List (Option Nat)) (σ : St) : St := js.map fun o => o.bind fun j => σ.getD j none
structure CompScope (X : Cx) (N : List Str) (js : List (Option Nat)) (scope : Scope) (cl : List (Str × Addr)) : Prop where
  kind : scope.kind = .function
  nocell : ∀ y ∈ scope.names, y.2 ≠ .cell
  names : ∀ y ∈ scope.names, y.2 = .local → scope.names.lookup y.1 = some .local
  clos : closureFor scope X.env = pure cl
  sub : ∀ x c, cl.lookup x = some c → X.env.cells.lookup x = some c
  has : ∀ x, ((relabel scope X.env).names.lookup x = some .cell ∨ (relabel scope X.env).names.lookup x = some .free) → ∃ c, cl.lookup x = some c
  cap : ∀ (k j : Nat) (x : Str), js[k]? = some (some j) → N[k]? = some x → X.N[j]? = some x ∧ (X.env.kindOf x = some .cell ∨ X.env.kindOf x = some .free) ∧ ((relabel scope X.env).names.lookup x = some .cell ∨ (relabel scope X.env).names.lookup x = some .free)
  len : js.length = N.length
def PIfs (X : Cx) (ifs : List Expr) (t : TT) : Prop :=
  ∀ (pins : List (Addr × Obj)) (s : Shared) (σ : St) (H : Hp) (Q : Bool → Hp → Prop), Inv X pins σ H s → t σ H Q →
    wpAny (model X.prog X.w) X.A (forIn ifs true fun c r => if r = true then do let ok ← isTrue c X.env (eval c X.env); pure (ForInStep.yield ok) else pure (ForInStep.yield r)) (TP X pins σ Q) X.xe s
theorem pf_nil {X : Cx} : PIfs X [] (fun _ H Q => Q true H) := fun _ _ _ H _ I h => wpAny_tests_nil ⟨H, I, h⟩
/-- the turns of a comprehension, as tComp asks them -/
def CompW (J : It) (g : TG) (tt : TT) (te : TE) (Q : VK) (D : Addr) (σ : St) (H : Hp) : Prop :=
  ∃ W : Nat → Nat → St → Hp → Prop, (∃ m, W 0 m σ H) ∧ ∀ i m σ' H', W i m σ' H' →
    (J.stop i H' ∧ Q (.ref D) H') ∨ (J.go i H' ∧ ∃ Nx : St → Hp → Prop, (∀ σ'' H'', Nx σ'' H'' → ∃ m', m' < m ∧ W (i + 1) m' σ'' H'') ∧
      ∀ x H2, J.yld i H' x H2 → g x σ' H2 fun σ3 H3 => tt σ3 H3 fun ok H4 =>
        if ok = true then te σ3 H4 fun y H5 => ∃ xs, H5 D = some (.lst xs) ∧ xs.length < sizeLine ∧ Nx σ3 (upd H5 D (.lst (xs ++ [y]))) else Nx σ3 H4)
def tComp (js : List (Option Nat)) (wi : TI) (g : TG) (tt : TT) (te : TE) : TE := fun σ H Q => wi σ H fun J H1 => ∀ D, H1 D = none → CompW J g tt te Q D (sigC js σ) (upd H1 D (.lst []))
theorem pe_comp {X : Cx} {N : List Str} {js : List (Option Nat)} {scope : Scope} {cl : List (Str × Addr)} {tg iter elt : Expr} {ifs : List Expr} {pos : Pos} {wi : TI} {g : TG} {tt : TT} {te : TE}
    (S : CompScope X N js scope cl) (hc : X.calm = true) (hi : PI X tg iter wi)
    (hg : ∀ C s H fp, PG (cxComp X N scope cl C s H fp) tg g) (ht : ∀ C s H fp, PIfs (cxComp X N scope cl C s H fp) ifs tt) (he : ∀ C s H fp, PE (cxComp X N scope cl C s H fp) elt te)
    (hs : ∀ x, foldedSetIterable iter X.env x = pure x := by intro _; rfl) : PE X (.ListComp elt [⟨tg, iter, ifs, 0⟩] scope pos) (tComp js wi g tt te) := by
  intro pins s σ H Q I h
  rw [eval_ListComp]
  refine wpAny_comprehension_free (use := none) rfl hs S.clos S.kind S.names (thn (hi pins s σ H _ I h) fun v s1 h1 => thn h1 fun itv s2 h2 => ?_)
  obtain ⟨it, fp, tn, J, H2, e, I2, T, st2, f2, hD⟩ := h2
  subst e
  refine wpAny_newObj_type (wpAny_newFunctionEnv S.nocell (by intro y hy; simp at hy) (fun h₁ hns₁ hsb₁ => ?_) S.kind)
  dsimp only at hns₁ hsb₁ ⊢
  generalize hH2 : s2.heap.push { cls := .type "list", dict := none, data := .seq ([] : List Value).toArray } = P2 at hns₁ hsb₁ ⊢
  have hC : P2.objs.size = s2.heap.objs.size + 1 := by rw [← hH2, Heap.size_push]
  have hDC : s2.heap.objs.size ≠ P2.objs.size := by rw [hC]; exact Nat.ne_of_lt (Nat.lt_succ_self _)
  have hCle : s2.heap.objs.size ≤ P2.objs.size := by rw [hC]; exact Nat.le_succ _
  have below : ∀ b, b < s2.heap.objs.size → b ≠ P2.objs.size := fun b hb => by rw [hC]; exact Nat.ne_of_lt (Nat.lt_succ_of_lt hb)
  have old : ∀ b o, s2.heap.get? b = some o → h₁.get? b = some o := fun b o e => hsb₁.extBut b o (below b (Heap.lt_size e)) (Heap.get?_push_of_some _ (hH2 ▸ Heap.get?_push_of_some _ e))
  have hnew : h₁.get? s2.heap.objs.size = some { cls := .type "list", dict := none, data := .seq ([] : List Value).toArray } := hsb₁.extBut _ _ hDC (Heap.get?_push_of_some _ (hH2 ▸ Heap.get?_push_size _ rfl))
  have nD : H2 s2.heap.objs.size = none := I2.fresh
  have nC : H2 P2.objs.size = none := I2.hok.fresh hCle
  have fpo : ∀ b ∈ fp, b < s2.heap.objs.size := fun b hb => by
    obtain ⟨o, e, _⟩ := T.obj _ _ st2 b hb
    exact Heap.lt_size e
  obtain ⟨W, ⟨m0, w0⟩, turn⟩ := hD s2.heap.objs.size nD
  have ok' : (cxComp X N scope cl P2.objs.size s2 H2 fp).Ok := by
    refine ⟨I2.ok.mod, S.kind, I2.ok.glob, I2.ok.blt, hCle, fun x y c h1 h2 => I2.ok.inj x y c (S.sub x c h1) (S.sub y c h2), S.has, (fun x c h => by cases h), I2.ok.hd, I2.ok.frames, .inl rfl,
      fun b hb => ⟨below b (fpo b hb), fun x c h => (f2 b hb).2.2.2.2.1 x c (S.sub x c h)⟩, I2.bs, Nat.le_trans I2.ok.bsz I2.sz, fun b o e hb => ?_, fun b hb z => ?_, I2.stack, I2.stkFree⟩
    · rcases (f2 b hb).2.2.2.1 with z | z
      · exact I2.ok.noex b o e z
      · exact absurd (Nat.lt_of_lt_of_le (Nat.lt_of_lt_of_le (Heap.lt_size e) I2.ok.bsz) z) (Nat.lt_irrefl _)
    · rcases List.mem_cons.mp (I2.stkSub b z) with q | q
      · exact (f2 b hb).2.1 q
      · exact (f2 b hb).2.2.1 q
  have hobj : ObjOk X.prog X.w (upd H2 s2.heap.objs.size (.lst [])) h₁ s2.heap.objs.size (.lst []) := ⟨Nat.zero_le _, [], 0, .nil, hnew⟩
  have I4 : Inv (cxComp X N scope cl P2.objs.size s2 H2 fp) [] (sigC js σ) (upd H2 s2.heap.objs.size (.lst [])) { s2 with heap := h₁, toks := s2.toks + ([] : List (Str × Value)).length } := by
    refine ⟨ok', rfl, I2.bare, Un.laid old (Nat.le_refl _) nD, ⟨_, hns₁, fun i x v h1 h2 h3 => ?_⟩, fun x c h => ?_, by show upd H2 _ _ P2.objs.size = none; rw [upd_ne hDC.symm]; exact nC, fun x c h => ?_, fun p hp => absurd (show p ∈ ([] : List (Addr × Obj)) from hp) (by simp), I2.hok.laid old (Nat.le_refl _) hobj, by show (sigC js σ).length = N.length; unfold sigC; rw [List.length_map]; exact S.len⟩
    · unfold sigC at h2
      rw [List.getElem?_map] at h2
      cases e : js[i]? with
      | none => rw [e] at h2; cases h2
      | some o =>
        rw [e] at h2
        cases o with
        | none => cases h2
        | some j =>
          have h2' : σ.getD j none = some v := Option.some.inj h2
          have hj : σ[j]? = some (some v) := by
            rw [List.getD_eq_getElem?_getD] at h2'
            cases q : σ[j]? with
            | none => rw [q] at h2'; cases h2'
            | some y => rw [q] at h2'; exact congrArg some h2'
          obtain ⟨c1, c2, c3⟩ := S.cap i j x e h1
          obtain ⟨m, hn, hl⟩ := I2.loc
          have vis : Vis X.env.scope x := by
            rcases c2 with z | z
            · exact .inr (.inl z)
            · exact .inr (.inr z)
          obtain ⟨u, r, l⟩ := hl j x v c1 hj vis
          refine ⟨u, r, .inr ⟨c3, ?_⟩⟩
          obtain ⟨c, hc'⟩ := S.has x c3
          refine ⟨c, hc', ?_⟩
          rcases l with ⟨z, _⟩ | ⟨_, c', e', z⟩
          · rcases c2 with y | y <;> rw [y] at z <;> cases z
          · rw [S.sub x c hc'] at e'
            cases e'
            obtain ⟨o, ho, hd⟩ := z
            exact ⟨o, old _ _ ho, hd⟩
    · obtain ⟨v, o, ho, hd⟩ := I2.cell x c (S.sub x c h)
      exact ⟨v, o, old _ _ ho, hd⟩
    · obtain ⟨v, o, ho, hd⟩ := I2.cell x c (S.sub x c h)
      rw [upd_ne (Nat.ne_of_lt (Heap.lt_size ho))]
      exact I2.freeC x c (S.sub x c h)
  have stat : ∀ {pins' : List (Addr × Obj)} {H' : Hp}, pins' = [] → (∀ b ∈ fp, H' b = none) → ∀ b ∈ fp, FpOk (cxComp X N scope cl P2.objs.size s2 H2 fp) pins' H' b := fun {pins' H'} ep hn b hb => by
    subst ep
    refine ⟨hn b hb, below b (fpo b hb), fun z => ok'.exfs b hb z, .inl hb, fun x c h => (f2 b hb).2.2.2.2.1 x c (S.sub x c h), fun p hp => absurd (show p ∈ ([] : List (Addr × Obj)) from hp) (by simp)⟩
  have loop : codeAny (model X.prog X.w) X.A (.compLoop (.ListComp elt [⟨tg, iter, ifs, 0⟩] scope pos) 0 (.ref it) (.ref s2.heap.objs.size) (compEnvC scope cl P2.objs.size X.env))
      (compPost (model X.prog X.w) X.A X.xe none (EP X pins σ Q) (.ref s2.heap.objs.size) P2.objs.size) { s2 with heap := h₁, toks := s2.toks + ([] : List (Str × Value)).length } := by
    refine compLoop_gen (fun n s' => ∃ i σ' H', Inv (cxComp X N scope cl P2.objs.size s2 H2 fp) [] σ' H' s' ∧ tn i s'.heap ∧ (∀ b ∈ fp, H' b = none) ∧ W i n σ' H') ?_ m0
      ⟨0, _, _, I4, T.keep _ _ _ st2 fun b _ o e => old b o e, fun b hb => by rw [upd_ne (Nat.ne_of_lt (fpo b hb))]; exact (f2 b hb).1, w0⟩
    rintro n s3 ⟨i, σ3, H3, I3, st3, fr3, w3⟩
    rcases turn i n σ3 H3 w3 with ⟨stop, q⟩ | ⟨go, Nx, hN, step⟩
    · refine thn (T.done (cxComp X N scope cl P2.objs.size s2 H2 fp) rfl rfl rfl hc i [] s3 σ3 H3 _ I3 (stat rfl fr3) st3 stop) fun r s4 ⟨hr, I5⟩ => ?_
      subst hr
      obtain ⟨m, hn, _⟩ := id I5.loc
      refine ⟨m, hn, fun h' hs' => ⟨.ref s2.heap.objs.size, H3, ?_, rfl, q⟩⟩
      have u := I5.base
      have ne : ∀ b o, s2.heap.get? b = some o → b ≠ P2.objs.size := fun b o e => below b (Heap.lt_size e)
      refine I2.call' (ch := fp) I5.os ⟨fun b o e n hb hx => (hs'.2 b (ne b o e)).trans (u.keep b o e n hb hx), fun b o e n hb hx => ?_, u.free, fun b o e hx => ?_, u.tups, u.frzs, u.tbls⟩ (fun b ob e => ?_) I5.bare fun b hb => ⟨(f2 b hb).2.2.2.1, (f2 b hb).2.1, (f2 b hb).2.2.2.2.1, (f2 b hb).2.2.2.2.2⟩
      · obtain ⟨sl, e1⟩ := u.slot b o e n hb hx
        exact ⟨sl, (hs'.2 b (ne b o e)).trans e1⟩
      · obtain ⟨o', e1⟩ := u.there b o e hx
        exact ⟨o', (hs'.2 b (ne b o e)).trans e1⟩
      · refine (I5.hok b ob e).stay (fun c w' hc q => (hs'.2 c ?_).trans q) (fun _ q => q) fun _ _ q => q
        have fC : H3 P2.objs.size = none := I5.free
        rintro rfl
        rcases hc with z | z
        · rw [← z, fC] at e; cases e
        · rw [fC] at z; cases z
    · refine thn (T.item (cxComp X N scope cl P2.objs.size s2 H2 fp) rfl rfl rfl hc i [] s3 σ3 H3 _ I3 (stat rfl fr3) st3 go) fun r s4 ⟨u, hr, h4⟩ => ?_
      subst hr
      refine thn h4 fun _ s5 ⟨x, H5, I5, r5, y5, st5, fr5⟩ => ?_
      have I5' := I5.pinned (stat rfl fr5) (T.obj _ _ st5)
      refine thn (hg P2.objs.size s2 H2 fp _ s5 σ3 H5 x u _ I5' r5 (step x H5 y5)) fun _ s6 ⟨σ6, H6, I6, q6⟩ => ?_
      refine thn (ht P2.objs.size s2 H2 fp _ s6 σ6 H6 _ I6 q6) fun ok s7 ⟨H7, I7, q7⟩ => ?_
      have again : ∀ {s8 : Shared} {H8 : Hp}, Inv (cxComp X N scope cl P2.objs.size s2 H2 fp) ([] ++ pinsAt fp s5.heap) σ6 H8 s8 → Nx σ6 H8 → ∃ m, m < n ∧ ∃ i σ' H', Inv (cxComp X N scope cl P2.objs.size s2 H2 fp) [] σ' H' s8 ∧ tn i s8.heap ∧ (∀ b ∈ fp, H' b = none) ∧ W i m σ' H' := fun {s8 H8} I8 n8 => by
        obtain ⟨m', hm, w8⟩ := hN σ6 H8 n8
        refine ⟨m', hm, i + 1, σ6, H8, I8.unpinned, T.keep _ _ _ st5 fun b hb o e => (I8.pin (b, o) (List.mem_append_right _ (List.mem_append_right _ (mem_pinsAt hb e)))).1, fun b hb => ?_, w8⟩
        obtain ⟨o, e, d⟩ := T.obj _ _ st5 b hb
        exact (I8.pin (b, o) (List.mem_append_right _ (List.mem_append_right _ (mem_pinsAt hb e)))).2.1
      cases ok with
      | false => exact again I7 q7
      | true =>
        refine thn (he P2.objs.size s2 H2 fp _ s7 σ6 H7 _ I7 q7) fun yv s8 ⟨y, H8, I8, ry, xs, hx, hl, n8⟩ => ?_
        refine thn (mt_append (X := cxComp X N scope cl P2.objs.size s2 H2 fp) _ s8 σ6 H8 (.ref s2.heap.objs.size) [y] (.ref s2.heap.objs.size) [yv] (fun _ H' => Nx σ6 H') I8 rfl (.cons ry .nil) ⟨_, xs, y, rfl, rfl, hx, hl, n8⟩) fun _ s9 ⟨z, H9, I9, _, q9⟩ => ?_
        exact again I9 q9
  exact codeAny_compStart_list loop (T.self _ 0 _ _ _ (T.keep _ _ _ st2 fun b _ o e => old b o e) loop)
end L2

set_option Elab.async false
set_option linter.all false
set_option maxRecDepth 100000
set_option maxHeartbeats 4000000
namespace L2
open PySem PySem.Spec PyProof.Rows
section
variable {X : Cx}
/-- isinstance(x, T), T a built-in type -/
theorem call_isi : CallR X (.builtin "isinstance") (fun xs H Q => ∃ x T t b, xs = [x, .ty T] ∧ TyOf X.K H x t ∧ PySem.W.kitOne X.K t (.type T) = some b ∧ Q (.bl b) H) := by
  intro pins s σ H xs us Q I r h
  obtain ⟨x, T, t, b, rfl, ty, e, q⟩ := h
  obtain ⟨u, u', rfl, rx, rt⟩ := vals2 r
  cases (show u' = Value.type T from rt)
  exact isinst_ok I rx ty e fun tk => ⟨.bl b, H, I.tok tk, rfl, q⟩
/-- == of lists of flat things -/
def eqL : List V → List V → Bool
  | [], [] => true
  | x :: xs, y :: ys => eqV x y && eqL xs ys
  | _, _ => false
theorem eqL_len : ∀ {xs ys : List V}, xs.length ≠ ys.length → eqL xs ys = false
  | [], [], h => absurd rfl h
  | [], _ :: _, _ => rfl
  | _ :: _, [], _ => rfl
  | x :: xs, y :: ys, h => by
    have := eqL_len (xs := xs) (ys := ys) fun e => h (by simp [e])
    show (eqV x y && eqL xs ys) = false
    rw [this, Bool.and_false]
theorem eqL_all : ∀ {xs ys : List V}, xs.length = ys.length → (List.range xs.length).all (fun j => eqV (xs.getD j .non) (ys.getD j .non)) = eqL xs ys
  | [], [], _ => rfl
  | [], _ :: _, h => by cases h
  | _ :: _, [], h => by cases h
  | x :: xs, y :: ys, h => by
    have ih := eqL_all (xs := xs) (ys := ys) (Nat.succ.inj h)
    rw [List.length_cons, List.range_succ_eq_map, List.all_cons, List.all_map]
    show (eqV x y && _) = (eqV x y && eqL xs ys)
    rw [← ih]
    rfl
theorem eqL_at {A : Around} {s : Shared} {xs ys : List V} {us vs : List Value} (r : Vals xs us) (r' : Vals ys vs) (f : xs.all flatV = true) (f' : ys.all flatV = true) (j : Nat) (h1 : j < us.toArray.size) (h2 : j < vs.toArray.size) :
    SeqAt.EqAt A s us.toArray[j] vs.toArray[j] (eqV (xs.getD j .non) (ys.getD j .non)) := by
  have l1 := r.length
  have l2 := r'.length
  have g1 : j < xs.length := by rw [l1]; simpa using h1
  have g2 : j < ys.length := by rw [l2]; simpa using h2
  obtain ⟨u, e1, q1⟩ := r.get (List.getElem?_eq_getElem g1)
  obtain ⟨v, e2, q2⟩ := r'.get (List.getElem?_eq_getElem g2)
  have d1 : xs.getD j .non = xs[j] := by rw [List.getD_eq_getElem?_getD, List.getElem?_eq_getElem g1]; rfl
  have d2 : ys.getD j .non = ys[j] := by rw [List.getD_eq_getElem?_getD, List.getElem?_eq_getElem g2]; rfl
  have a1 : us.toArray[j] = u := by
    have := (List.getElem?_eq_some_iff.mp e1).2
    simpa using this
  have a2 : vs.toArray[j] = v := by
    have := (List.getElem?_eq_some_iff.mp e2).2
    simpa using this
  rw [a1, a2, d1, d2]
  exact eqAt_V q1 q2 (List.all_eq_true.mp f _ (List.getElem_mem g1)) (List.all_eq_true.mp f' _ (List.getElem_mem g2))
def rEqL (K : PySem.W.Frag) (neg : Bool) : R2 := fun x y H Q => ∃ a b xs ys, x = .ref a ∧ y = .ref b ∧ SqL K H a xs ∧ SqL K H b ys ∧ xs.all flatV = true ∧ ys.all flatV = true ∧ Q (.bl (if neg then !eqL xs ys else eqL xs ys)) H
theorem op_neL (hu : X.A.units < cLine) : OpR X (compareOp .NotEq) (rEqL X.K true) := by
  intro pins s σ H x y v u Q I rx ry h
  obtain ⟨a, b, xs, ys, rfl, rfl, ha, hb, fa, fb, q⟩ := h
  cases rx
  cases ry
  obtain ⟨its, r, pl, hz⟩ := I.list ha
  obtain ⟨jts, r', pl', hz'⟩ := I.list hb
  by_cases hl : xs.length = ys.length
  · have hsz : its.toArray.size = jts.toArray.size := by simp [← r.length, ← r'.length, hl]
    refine SeqAt.RcNeAt.lists (e := fun j => eqV (xs.getD j .non) (ys.getD j .non)) pl.isList pl'.isList hsz hu (fun j h1 h2 => eqL_at r r' fa fb j h1 h2) _ _ _ _ ⟨.bl _, H, I, rfl, ?_⟩
    rw [show its.toArray.size = xs.length by simp [r.length], eqL_all hl]
    exact q
  · refine SeqAt.RcNeAt.lists_lengths pl.isList pl'.isList (by simpa [← r.length, ← r'.length] using hl) hu _ _ _ _ ⟨.bl _, H, I, rfl, ?_⟩
    have q' : Q (.bl (!eqL xs ys)) H := q
    rw [eqL_len hl] at q'
    exact q'
end
end L2

set_option Elab.async false
set_option linter.all false
set_option maxRecDepth 100000
set_option maxHeartbeats 4000000
namespace L2
open PySem PySem.Spec PyProof.Rows
theorem fm_congr {α β : Type} {f g : α → Option β} : ∀ {l : List α}, (∀ a ∈ l, f a = g a) → l.filterMap f = l.filterMap g
  | [], _ => rfl
  | a :: l, h => by
    rw [List.filterMap_cons, List.filterMap_cons, h a List.mem_cons_self, fm_congr fun b hb => h b (List.mem_cons_of_mem _ hb)]
end L2

set_option Elab.async false
set_option linter.all false
set_option maxRecDepth 100000
set_option maxHeartbeats 4000000
namespace L2
open PySem PySem.Spec PyProof.Rows
theorem comp_list {K : PySem.W.Frag} {a D : Addr} {xs : List V} {g : TG} {tt : TT} {te : TE} {Q : VK} {σ : St} {H : Hp} (Pv : Nat → St → Hp → Prop) (h0 : Pv 0 σ H) (hl : ∀ i σ H, i ≤ xs.length → Pv i σ H → SqL K H a xs)
    (hs : ∀ i x σ H, xs[i]? = some x → Pv i σ H → g x σ H fun σ3 H3 => tt σ3 H3 fun ok H4 =>
        if ok = true then te σ3 H4 fun y H5 => ∃ xs, H5 D = some (.lst xs) ∧ xs.length < sizeLine ∧ Pv (i + 1) σ3 (upd H5 D (.lst (xs ++ [y]))) else Pv (i + 1) σ3 H4)
    (hd : ∀ σ H, Pv xs.length σ H → Q (.ref D) H) : CompW (Itl K a) g tt te Q D σ H := by
  refine ⟨fun i m σ H => m = xs.length - i ∧ i ≤ xs.length ∧ Pv i σ H, ⟨xs.length, by simp, Nat.zero_le _, h0⟩, ?_⟩
  rintro i m σ H ⟨rfl, hi, p⟩
  have q := hl i σ H hi p
  by_cases hlt : i < xs.length
  · refine .inr ⟨⟨xs, xs[i], q, by simp [hlt]⟩, Pv (i + 1), fun σ' H' p' => ⟨xs.length - (i + 1), by omega, rfl, hlt, p'⟩, fun x H' y => ?_⟩
    obtain ⟨e, y⟩ := y
    subst e
    exact hs i x σ _ (y xs q) p
  · have e : i = xs.length := by omega
    subst e
    exact .inl ⟨⟨xs, q, Nat.le_refl _⟩, hd σ H p⟩
theorem comp_tup {K : PySem.W.Frag} {a D : Addr} {xs : List V} {g : TG} {tt : TT} {te : TE} {Q : VK} {σ : St} {H : Hp} (Pv : Nat → St → Hp → Prop) (h0 : Pv 0 σ H) (hl : ∀ i σ H, i ≤ xs.length → Pv i σ H → SqT K H a xs)
    (hs : ∀ i x σ H, xs[i]? = some x → Pv i σ H → g x σ H fun σ3 H3 => tt σ3 H3 fun ok H4 =>
        if ok = true then te σ3 H4 fun y H5 => ∃ xs, H5 D = some (.lst xs) ∧ xs.length < sizeLine ∧ Pv (i + 1) σ3 (upd H5 D (.lst (xs ++ [y]))) else Pv (i + 1) σ3 H4)
    (hd : ∀ σ H, Pv xs.length σ H → Q (.ref D) H) : CompW (Itt K a) g tt te Q D σ H := by
  refine ⟨fun i m σ H => m = xs.length - i ∧ i ≤ xs.length ∧ Pv i σ H, ⟨xs.length, by simp, Nat.zero_le _, h0⟩, ?_⟩
  rintro i m σ H ⟨rfl, hi, p⟩
  have q := hl i σ H hi p
  by_cases hlt : i < xs.length
  · refine .inr ⟨⟨xs, xs[i], q, by simp [hlt]⟩, Pv (i + 1), fun σ' H' p' => ⟨xs.length - (i + 1), by omega, rfl, hlt, p'⟩, fun x H' y => ?_⟩
    obtain ⟨e, y⟩ := y
    subst e
    exact hs i x σ _ (y xs q) p
  · have e : i = xs.length := by omega
    subst e
    exact .inl ⟨⟨xs, q, Nat.le_refl _⟩, hd σ H p⟩
theorem comp_range {lo : Int} {n : Nat} {D : Addr} {g : TG} {tt : TT} {te : TE} {Q : VK} {σ : St} {H : Hp} (Pv : Nat → St → Hp → Prop) (h0 : Pv 0 σ H)
    (hs : ∀ i σ H, i < n → Pv i σ H → g (.int (lo + i)) σ H fun σ3 H3 => tt σ3 H3 fun ok H4 =>
        if ok = true then te σ3 H4 fun y H5 => ∃ xs, H5 D = some (.lst xs) ∧ xs.length < sizeLine ∧ Pv (i + 1) σ3 (upd H5 D (.lst (xs ++ [y]))) else Pv (i + 1) σ3 H4)
    (hd : ∀ σ H, Pv n σ H → Q (.ref D) H) : CompW (Itr lo n) g tt te Q D σ H := by
  refine ⟨fun i m σ H => m = n - i ∧ i ≤ n ∧ Pv i σ H, ⟨n, by simp, Nat.zero_le _, h0⟩, ?_⟩
  rintro i m σ H ⟨rfl, hi, p⟩
  by_cases hlt : i < n
  · refine .inr ⟨hlt, Pv (i + 1), fun σ' H' p' => ⟨n - (i + 1), by omega, rfl, hlt, p'⟩, fun x H' y => ?_⟩
    obtain ⟨e, y⟩ := y
    subst e y
    exact hs i σ _ hlt p
  · have e : i = n := by omega
    subst e
    exact .inl ⟨Nat.le_refl _, hd σ H p⟩
/-- a comprehension that catches no name of the def -/
theorem CompScope.plain {X : Cx} {N : List Str} {scope : Scope} (hk : scope.kind = .function) (hc : ∀ y ∈ scope.names, y.2 ≠ .cell) (hn : ∀ y ∈ scope.names, y.2 = .local → scope.names.lookup y.1 = some .local) (hf : ∀ y ∈ scope.names, y.2 ≠ .free) :
    CompScope X N (N.map fun _ => none) scope [] where
  kind := hk
  nocell := hc
  names := hn
  clos := closureFor_none hf
  sub := fun x c h => by cases h
  has := fun x h => by
    have key : ∀ k, (relabel scope X.env).names.lookup x = some k → k = .cell ∨ k = .free → False := fun k e hk => by
      have hm := PySem.mem_of_lookup e
      unfold relabel at hm
      obtain ⟨y, hy, ey⟩ := List.mem_map.mp hm
      obtain ⟨n, k'⟩ := y
      have nf := hf _ hy
      have nc := hc _ hy
      have hb : (k' == NameKind.free) = false := by simpa using nf
      simp only [hb, Bool.false_and, Bool.false_eq_true, if_false] at ey
      cases ey
      rcases hk with z | z
      · exact nc z
      · exact nf z
    rcases h with h | h
    · exact (key _ h (.inl rfl)).elim
    · exact (key _ h (.inr rfl)).elim
  cap := fun k j x h _ => by
    rw [List.getElem?_map] at h
    cases e : N[k]? with
    | none => rw [e] at h; cases h
    | some y => rw [e] at h; cases h
  len := by simp
end L2

set_option Elab.async false
set_option linter.all false
set_option maxRecDepth 100000
set_option maxHeartbeats 4000000
namespace L2
open PySem PySem.Spec PyProof.Rows
section
variable {X : Cx}
/-- what all and any see of a list of truths -/
theorem bools_at {bs : List Bool} {its : List Value} (r : Vals (bs.map V.bl) its) {i : Nat} {v : Value} (h : its.toArray[i]? = some v) : v = .bool (bs.getD i false) := by
  have hi : i < its.length := by
    have := (Array.getElem?_eq_some_iff.mp h).1
    simpa using this
  have l := r.length
  rw [List.length_map] at l
  have hb : i < bs.length := by omega
  obtain ⟨u, e, q⟩ := r.get (i := i) (x := V.bl bs[i]) (by rw [List.getElem?_map, List.getElem?_eq_getElem hb]; rfl)
  have e' : its[i]? = some v := by simpa using h
  rw [e] at e'
  cases e'
  have d : bs.getD i false = bs[i] := by rw [List.getD_eq_getElem?_getD, List.getElem?_eq_getElem hb]; rfl
  rw [d]
  exact q
theorem all_getD : ∀ bs : List Bool, (List.range bs.length).all (fun i => bs.getD i false) = bs.all id
  | [] => rfl
  | b :: bs => by
    rw [List.length_cons, List.range_succ_eq_map, List.all_cons, List.all_map, List.all_cons, ← all_getD bs]
    rfl
def rAllL (K : PySem.W.Frag) (f : List Bool → Bool) : List V → Hp → VK → Prop := fun xs H Q => ∃ a bs, xs = [.ref a] ∧ SqL K H a (bs.map V.bl) ∧ Q (.bl (f bs)) H
theorem call_allL (hc : X.calm = true) : CallR X (.builtin "all") (rAllL X.K fun bs => bs.all id) := by
  intro pins s σ H xs us Q I r h
  obtain ⟨a, bs, rfl, ha, q⟩ := h
  obtain ⟨u, rfl, rx⟩ := vals1 r
  cases (show u = Value.ref a from rx)
  obtain ⟨its, rv, pl, hz⟩ := I.list ha
  have hl : its.toArray.size = bs.length := by have := rv.length; simp at this; simp [this]
  have hlt : a < s.heap.objs.size := by obtain ⟨o, e, _⟩ := pl.isList; exact Heap.lt_size e
  refine call_all_walk (wpAny_pyIter_list pl.isList ⟨s.heap.objs.size, _, _, _, _, _, fun i => bs.getD i false, rfl, Walks.list (A := X.A.in1) (show X.A.in1.handled = none from I.ok.hd hc) s.heap.objs.size a (Nat.ne_of_lt hlt) its.toArray, ⟨⟨_, Heap.get?_push_size _ rfl, rfl, rfl⟩, pl.isList.at fun o e => Heap.get?_push_of_some _ e⟩, ?_, fun h' tk hk => ?_⟩)
  · intro i v s' Q' E' hv hq
    rw [bools_at rv hv]
    exact wpAny_truthy_bool hq
  · rw [hl, all_getD]
    refine ⟨.bl _, H, I.kept (h' := h') fun b o e => hk b o ?_ (Heap.get?_push_of_some _ e), rfl, q⟩
    have := Heap.lt_size e
    simp
    exact Nat.ne_of_lt this
end
end L2

set_option Elab.async false
set_option linter.all false
set_option maxRecDepth 100000
set_option maxHeartbeats 4000000
namespace L2
open PySem PySem.Spec PyProof.Rows
end L2

set_option Elab.async false
set_option linter.all false
set_option maxRecDepth 100000
set_option maxHeartbeats 4000000
namespace L2
open PySem PySem.Spec PyProof.Rows
section
variable {X : Cx}
end
end L2

set_option Elab.async false
set_option linter.all false
set_option maxRecDepth 100000
set_option maxHeartbeats 4000000
namespace Dk
open PySem
end Dk

set_option Elab.async false
set_option linter.all false
set_option maxRecDepth 100000
set_option maxHeartbeats 4000000
namespace Dk
open PySem
end Dk

set_option Elab.async false
set_option linter.all false
set_option maxRecDepth 100000
set_option maxHeartbeats 4000000
namespace Dk
open PySem
end Dk

set_option Elab.async false
set_option linter.all false
set_option maxRecDepth 100000
set_option maxHeartbeats 4000000
namespace Dk
open PySem
section
variable {prog : Program} {w : World} {K : Type} [DecidableEq K] {knd : KeyKind prog w K}
end
end Dk

set_option Elab.async false
set_option linter.all false
set_option maxRecDepth 100000
set_option maxHeartbeats 4000000
namespace L2
open PySem PySem.Spec PyProof.Rows
section
variable {X : Cx}
end
end L2

set_option Elab.async false
set_option linter.all false
set_option maxRecDepth 100000
set_option maxHeartbeats 400000
namespace Dk
open PySem
end Dk

set_option Elab.async false
set_option linter.all false
set_option maxRecDepth 100000
set_option maxHeartbeats 1000000
namespace L2
open PySem PySem.Spec PyProof.Rows
section
variable {X : Cx}
end
end L2

set_option Elab.async false
set_option linter.all false
set_option maxRecDepth 100000
set_option maxHeartbeats 4000000
/-! name = [a list comprehension] -/
namespace L2
open PySem PySem.Spec PyProof.Rows
theorem ps_comp {X : Cx} {N : List Str} {js : List (Option Nat)} {scope : Scope} {cl : List (Str × Addr)} {tg iter elt tgt : Expr} {ifs : List Expr} {pos spos : Pos} {wi : TI} {g gt : TG} {tt : TT} {te : TE}
    (S : CompScope X N js scope cl) (hc : X.calm = true) (hi : PI X tg iter wi)
    (hg : ∀ C s H fp, PG (cxComp X N scope cl C s H fp) tg g) (ht : ∀ C s H fp, PIfs (cxComp X N scope cl C s H fp) ifs tt) (he : ∀ C s H fp, PE (cxComp X N scope cl C s H fp) elt te) (hgt : PG X tgt gt)
    (hs : ∀ x, foldedSetIterable iter X.env x = pure x := by intro _; rfl) (hsw : swapsWithSole [tgt] (.ListComp elt [⟨tg, iter, ifs, 0⟩] scope pos) spos.line X.env = pure true := by rfl)
    (h1 : (assignEach [tgt] X.env).map (·.2) = [assign tgt X.env] := by rfl) : PS X (.Assign [tgt] (.ListComp elt [⟨tg, iter, ifs, 0⟩] scope pos) spos) (tAsg (tComp js wi g tt te) gt) := by
  intro pins s σ H Dn I h
  rw [exec_Assign_arm]
  refine wpAny_bind (wpAny_standAt (wpAny_bind (wpAny_of_eq hsw (wpAny_ite_true rfl (wpAny_bind ?_)))))
  rw [h1]
  show wpAny _ _ (do let _ ← comprehension _ _ _ _ _ _ _ (some fun v => assignAll v [assign tgt X.env]); pure ()) _ _ _
  refine wpAny_bind ?_
  refine wpAny_comprehension_free (use := some fun v => assignAll v [assign tgt X.env]) rfl hs S.clos S.kind S.names (thn (hi pins s σ H _ I h) fun v s1 h1 => thn h1 fun itv s2 h2 => ?_)
  obtain ⟨it, fp, tn, J, H2, e, I2, T, st2, f2, hD⟩ := h2
  subst e
  refine wpAny_newObj_type (wpAny_newFunctionEnv S.nocell (by intro y hy; simp at hy) (fun h₁ hns₁ hsb₁ => ?_) S.kind)
  dsimp only at hns₁ hsb₁ ⊢
  generalize hH2 : s2.heap.push { cls := .type "list", dict := none, data := .seq ([] : List Value).toArray } = P2 at hns₁ hsb₁ ⊢
  have hC : P2.objs.size = s2.heap.objs.size + 1 := by rw [← hH2, Heap.size_push]
  have hDC : s2.heap.objs.size ≠ P2.objs.size := by rw [hC]; exact Nat.ne_of_lt (Nat.lt_succ_self _)
  have hCle : s2.heap.objs.size ≤ P2.objs.size := by rw [hC]; exact Nat.le_succ _
  have below : ∀ b, b < s2.heap.objs.size → b ≠ P2.objs.size := fun b hb => by rw [hC]; exact Nat.ne_of_lt (Nat.lt_succ_of_lt hb)
  have old : ∀ b o, s2.heap.get? b = some o → h₁.get? b = some o := fun b o e => hsb₁.extBut b o (below b (Heap.lt_size e)) (Heap.get?_push_of_some _ (hH2 ▸ Heap.get?_push_of_some _ e))
  have hnew : h₁.get? s2.heap.objs.size = some { cls := .type "list", dict := none, data := .seq ([] : List Value).toArray } := hsb₁.extBut _ _ hDC (Heap.get?_push_of_some _ (hH2 ▸ Heap.get?_push_size _ rfl))
  have nD : H2 s2.heap.objs.size = none := I2.fresh
  have nC : H2 P2.objs.size = none := I2.hok.fresh hCle
  have fpo : ∀ b ∈ fp, b < s2.heap.objs.size := fun b hb => by
    obtain ⟨o, e, _⟩ := T.obj _ _ st2 b hb
    exact Heap.lt_size e
  obtain ⟨W, ⟨m0, w0⟩, turn⟩ := hD s2.heap.objs.size nD
  have ok' : (cxComp X N scope cl P2.objs.size s2 H2 fp).Ok := by
    refine ⟨I2.ok.mod, S.kind, I2.ok.glob, I2.ok.blt, hCle, fun x y c h1 h2 => I2.ok.inj x y c (S.sub x c h1) (S.sub y c h2), S.has, (fun x c h => by cases h), I2.ok.hd, I2.ok.frames, .inl rfl,
      fun b hb => ⟨below b (fpo b hb), fun x c h => (f2 b hb).2.2.2.2.1 x c (S.sub x c h)⟩, I2.bs, Nat.le_trans I2.ok.bsz I2.sz, fun b o e hb => ?_, fun b hb z => ?_, I2.stack, I2.stkFree⟩
    · rcases (f2 b hb).2.2.2.1 with z | z
      · exact I2.ok.noex b o e z
      · exact absurd (Nat.lt_of_lt_of_le (Nat.lt_of_lt_of_le (Heap.lt_size e) I2.ok.bsz) z) (Nat.lt_irrefl _)
    · rcases List.mem_cons.mp (I2.stkSub b z) with q | q
      · exact (f2 b hb).2.1 q
      · exact (f2 b hb).2.2.1 q
  have hobj : ObjOk X.prog X.w (upd H2 s2.heap.objs.size (.lst [])) h₁ s2.heap.objs.size (.lst []) := ⟨Nat.zero_le _, [], 0, .nil, hnew⟩
  have I4 : Inv (cxComp X N scope cl P2.objs.size s2 H2 fp) [] (sigC js σ) (upd H2 s2.heap.objs.size (.lst [])) { s2 with heap := h₁, toks := s2.toks + ([] : List (Str × Value)).length } := by
    refine ⟨ok', rfl, I2.bare, Un.laid old (Nat.le_refl _) nD, ⟨_, hns₁, fun i x v h1 h2 h3 => ?_⟩, fun x c h => ?_, by show upd H2 _ _ P2.objs.size = none; rw [upd_ne hDC.symm]; exact nC, fun x c h => ?_, fun p hp => absurd (show p ∈ ([] : List (Addr × Obj)) from hp) (by simp), I2.hok.laid old (Nat.le_refl _) hobj, by show (sigC js σ).length = N.length; unfold sigC; rw [List.length_map]; exact S.len⟩
    · unfold sigC at h2
      rw [List.getElem?_map] at h2
      cases e : js[i]? with
      | none => rw [e] at h2; cases h2
      | some o =>
        rw [e] at h2
        cases o with
        | none => cases h2
        | some j =>
          have h2' : σ.getD j none = some v := Option.some.inj h2
          have hj : σ[j]? = some (some v) := by
            rw [List.getD_eq_getElem?_getD] at h2'
            cases q : σ[j]? with
            | none => rw [q] at h2'; cases h2'
            | some y => rw [q] at h2'; exact congrArg some h2'
          obtain ⟨c1, c2, c3⟩ := S.cap i j x e h1
          obtain ⟨m, hn, hl⟩ := I2.loc
          have vis : Vis X.env.scope x := by
            rcases c2 with z | z
            · exact .inr (.inl z)
            · exact .inr (.inr z)
          obtain ⟨u, r, l⟩ := hl j x v c1 hj vis
          refine ⟨u, r, .inr ⟨c3, ?_⟩⟩
          obtain ⟨c, hc'⟩ := S.has x c3
          refine ⟨c, hc', ?_⟩
          rcases l with ⟨z, _⟩ | ⟨_, c', e', z⟩
          · rcases c2 with y | y <;> rw [y] at z <;> cases z
          · rw [S.sub x c hc'] at e'
            cases e'
            obtain ⟨o, ho, hd⟩ := z
            exact ⟨o, old _ _ ho, hd⟩
    · obtain ⟨v, o, ho, hd⟩ := I2.cell x c (S.sub x c h)
      exact ⟨v, o, old _ _ ho, hd⟩
    · obtain ⟨v, o, ho, hd⟩ := I2.cell x c (S.sub x c h)
      rw [upd_ne (Nat.ne_of_lt (Heap.lt_size ho))]
      exact I2.freeC x c (S.sub x c h)
  have stat : ∀ {pins' : List (Addr × Obj)} {H' : Hp}, pins' = [] → (∀ b ∈ fp, H' b = none) → ∀ b ∈ fp, FpOk (cxComp X N scope cl P2.objs.size s2 H2 fp) pins' H' b := fun {pins' H'} ep hn b hb => by
    subst ep
    refine ⟨hn b hb, below b (fpo b hb), fun z => ok'.exfs b hb z, .inl hb, fun x c h => (f2 b hb).2.2.2.2.1 x c (S.sub x c h), fun p hp => absurd (show p ∈ ([] : List (Addr × Obj)) from hp) (by simp)⟩
  have loop : codeAny (model X.prog X.w) X.A (.compLoop (.ListComp elt [⟨tg, iter, ifs, 0⟩] scope pos) 0 (.ref it) (.ref s2.heap.objs.size) (compEnvC scope cl P2.objs.size X.env))
      (compPost (model X.prog X.w) X.A X.xe (some fun v => assignAll v [assign tgt X.env]) (fun _ s9 => wpAny (model X.prog X.w) X.A (pure ()) (fun _ s10 => wpAny (model X.prog X.w) X.A (pure Flow.next) (SP X pins Dn) X.xe s10) X.xe s9) (.ref s2.heap.objs.size) P2.objs.size) { s2 with heap := h₁, toks := s2.toks + ([] : List (Str × Value)).length } := by
    refine compLoop_gen (fun n s' => ∃ i σ' H', Inv (cxComp X N scope cl P2.objs.size s2 H2 fp) [] σ' H' s' ∧ tn i s'.heap ∧ (∀ b ∈ fp, H' b = none) ∧ W i n σ' H') ?_ m0
      ⟨0, _, _, I4, T.keep _ _ _ st2 fun b _ o e => old b o e, fun b hb => by rw [upd_ne (Nat.ne_of_lt (fpo b hb))]; exact (f2 b hb).1, w0⟩
    rintro n s3 ⟨i, σ3, H3, I3, st3, fr3, w3⟩
    rcases turn i n σ3 H3 w3 with ⟨stop, q⟩ | ⟨go, Nx, hN, step⟩
    · refine thn (T.done (cxComp X N scope cl P2.objs.size s2 H2 fp) rfl rfl rfl hc i [] s3 σ3 H3 _ I3 (stat rfl fr3) st3 stop) fun r s4 ⟨hr, I5⟩ => ?_
      subst hr
      obtain ⟨m, hn, _⟩ := id I5.loc
      have toX : ∀ h', Heap.SameBut P2.objs.size s4.heap h' → Inv X pins σ H3 { s4 with heap := h' } := by
        intro h' hs'
        have u := I5.base
        have ne : ∀ b o, s2.heap.get? b = some o → b ≠ P2.objs.size := fun b o e => below b (Heap.lt_size e)
        refine I2.call' (ch := fp) I5.os ⟨fun b o e n hb hx => (hs'.2 b (ne b o e)).trans (u.keep b o e n hb hx), fun b o e n hb hx => ?_, u.free, fun b o e hx => ?_, u.tups, u.frzs, u.tbls⟩ (fun b ob e => ?_) I5.bare fun b hb => ⟨(f2 b hb).2.2.2.1, (f2 b hb).2.1, (f2 b hb).2.2.2.2.1, (f2 b hb).2.2.2.2.2⟩
        · obtain ⟨sl, e1⟩ := u.slot b o e n hb hx
          exact ⟨sl, (hs'.2 b (ne b o e)).trans e1⟩
        · obtain ⟨o', e1⟩ := u.there b o e hx
          exact ⟨o', (hs'.2 b (ne b o e)).trans e1⟩
        · refine (I5.hok b ob e).stay (fun c w' hc q => (hs'.2 c ?_).trans q) (fun _ q => q) fun _ _ q => q
          have fC : H3 P2.objs.size = none := I5.free
          rintro rfl
          rcases hc with z | z
          · rw [← z, fC] at e; cases e
          · rw [fC] at z; cases z
      have IX := toX s4.heap ⟨rfl, fun _ _ => rfl⟩
      have okC : FpOk X pins H3 P2.objs.size := I2.fpOk hCle I5.free
      obtain ⟨oC, es, ep, hoC, hdC, hrC⟩ := hn
      have IP := IX.pinned (fp := [P2.objs.size]) (fun b hb => by rw [List.mem_singleton] at hb; rw [hb]; exact okC) (fun b hb => by rw [List.mem_singleton] at hb; rw [hb]; exact ⟨oC, hoC, fun v => by rw [hdC]; simp⟩)
      show wpAny _ _ (assignAll (.ref s2.heap.objs.size) [assign tgt X.env]) _ _ _
      rw [assignAll.eq_2]
      refine thn (hgt _ s4 σ H3 (.ref s2.heap.objs.size) (.ref s2.heap.objs.size) _ IP rfl q) fun _ s6 ⟨σ6, H6, I6, q6⟩ => ?_
      have pC := I6.pin (P2.objs.size, oC) (List.mem_append_right _ (List.mem_append_right _ (mem_pinsAt (List.mem_singleton.mpr rfl) hoC)))
      refine ⟨m, ⟨oC, es, ep, pC.1, hdC, hrC⟩, fun h' hs' => wpAny_pure (wpAny_pure ⟨σ6, H6, ?_, q6⟩)⟩
      exact I6.unpinned.turned (it := P2.objs.size) (t' := s6.toks) (fun b o' hb e => (hs'.2 b hb).trans e) pC.2.1 pC.2.2.1 okC.2.2.2.1 okC.2.2.2.2.1 okC.2.2.2.2.2
    · refine thn (T.item (cxComp X N scope cl P2.objs.size s2 H2 fp) rfl rfl rfl hc i [] s3 σ3 H3 _ I3 (stat rfl fr3) st3 go) fun r s4 ⟨u, hr, h4⟩ => ?_
      subst hr
      refine thn h4 fun _ s5 ⟨x, H5, I5, r5, y5, st5, fr5⟩ => ?_
      have I5' := I5.pinned (stat rfl fr5) (T.obj _ _ st5)
      refine thn (hg P2.objs.size s2 H2 fp _ s5 σ3 H5 x u _ I5' r5 (step x H5 y5)) fun _ s6 ⟨σ6, H6, I6, q6⟩ => ?_
      refine thn (ht P2.objs.size s2 H2 fp _ s6 σ6 H6 _ I6 q6) fun ok s7 ⟨H7, I7, q7⟩ => ?_
      have again : ∀ {s8 : Shared} {H8 : Hp}, Inv (cxComp X N scope cl P2.objs.size s2 H2 fp) ([] ++ pinsAt fp s5.heap) σ6 H8 s8 → Nx σ6 H8 → ∃ m, m < n ∧ ∃ i σ' H', Inv (cxComp X N scope cl P2.objs.size s2 H2 fp) [] σ' H' s8 ∧ tn i s8.heap ∧ (∀ b ∈ fp, H' b = none) ∧ W i m σ' H' := fun {s8 H8} I8 n8 => by
        obtain ⟨m', hm, w8⟩ := hN σ6 H8 n8
        refine ⟨m', hm, i + 1, σ6, H8, I8.unpinned, T.keep _ _ _ st5 fun b hb o e => (I8.pin (b, o) (List.mem_append_right _ (List.mem_append_right _ (mem_pinsAt hb e)))).1, fun b hb => ?_, w8⟩
        obtain ⟨o, e, d⟩ := T.obj _ _ st5 b hb
        exact (I8.pin (b, o) (List.mem_append_right _ (List.mem_append_right _ (mem_pinsAt hb e)))).2.1
      cases ok with
      | false => exact again I7 q7
      | true =>
        refine thn (he P2.objs.size s2 H2 fp _ s7 σ6 H7 _ I7 q7) fun yv s8 ⟨y, H8, I8, ry, xs, hx, hl, n8⟩ => ?_
        refine thn (mt_append (X := cxComp X N scope cl P2.objs.size s2 H2 fp) _ s8 σ6 H8 (.ref s2.heap.objs.size) [y] (.ref s2.heap.objs.size) [yv] (fun _ H' => Nx σ6 H') I8 rfl (.cons ry .nil) ⟨_, xs, y, rfl, rfl, hx, hl, n8⟩) fun _ s9 ⟨z, H9, I9, _, q9⟩ => ?_
        exact again I9 q9
  exact codeAny_compStart_list loop (T.self _ 0 _ _ _ (T.keep _ _ _ st2 fun b _ o e => old b o e) loop)
end L2

set_option Elab.async false
set_option linter.all false
set_option maxRecDepth 100000
set_option maxHeartbeats 1000000
namespace Dk
open PySem
section
variable {prog : Program} {w : World} {A : Around} {E : Value → Shared → Prop}
end
end Dk

set_option Elab.async false
set_option linter.all false
set_option maxRecDepth 100000
set_option maxHeartbeats 1000000
namespace Dk
open PySem
section
variable {prog : Program} {w : World} {A : Around} {E : Value → Shared → Prop} {s : Shared}
end
end Dk

set_option Elab.async false
set_option linter.all false
set_option maxRecDepth 100000
set_option maxHeartbeats 1000000
namespace Dk
open PySem
section
variable {prog : Program} {w : World} {A : Around}
end
end Dk

set_option Elab.async false
set_option linter.all false
set_option maxRecDepth 100000
set_option maxHeartbeats 1000000
namespace Dk
open PySem
section
variable {prog : Program} {w : World} {A : Around} {E : Value → Shared → Prop} {s : Shared}
end
end Dk

set_option Elab.async false
set_option linter.all false
set_option maxRecDepth 100000
set_option maxHeartbeats 1000000
namespace Dk
open PySem
theorem erase_perm {α : Type} : ∀ {xs : List α} {i : Nat} (h : i < xs.length), (xs[i] :: xs.eraseIdx i).Perm xs
  | x :: xs, 0, h => by simp
  | x :: xs, i + 1, h => by
    have hi : i < xs.length := by simpa using h
    rw [List.eraseIdx_cons_succ, List.getElem_cons_succ]
    exact (List.Perm.swap _ _ _).trans ((erase_perm hi).cons x)
section
variable {prog : Program} {w : World} {A : Around} {E : Value → Shared → Prop}
end
end Dk

set_option Elab.async false
set_option linter.all false
set_option maxRecDepth 100000
set_option maxHeartbeats 1000000
namespace Dk
open PySem
section
variable {prog : Program} {w : World} {A : Around} {E : Value → Shared → Prop}
end
end Dk

set_option Elab.async false
set_option linter.all false
set_option maxRecDepth 100000
set_option maxHeartbeats 1000000
namespace Dk
open PySem
section
variable {prog : Program} {w : World} {A : Around} {E : Value → Shared → Prop} {s : Shared}
end
end Dk

set_option Elab.async false
set_option linter.all false
set_option maxRecDepth 100000
set_option maxHeartbeats 1000000
namespace Dk
open PySem
section
variable {prog : Program} {w : World} {A : Around} {E : Value → Shared → Prop} {s : Shared}
end
end Dk

set_option Elab.async false
set_option linter.all false
set_option maxRecDepth 100000
set_option maxHeartbeats 1000000
namespace L2
open PySem PySem.Spec PyProof.Rows
section
variable {X : Cx}
/-- sorted(l), l a list of texts -/
def rSorted (K : PySem.W.Frag) : List V → Hp → VK → Prop := fun xs H Q => ∃ (a : Addr) (ss : List Str), xs = [.ref a] ∧ SqL K H a (ss.map V.str) ∧ ss.length < 64 ∧ ∀ (l : Addr) (out : List Str), H l = none → sortedS out = true → out.Perm ss → Q (.ref l) (upd H l (.lst (out.map V.str)))
theorem strs_are' : ∀ {ys : List Str} {its : List Value}, Vals (ys.map V.str) its → StrsAre its ys
  | [], _, r => by cases r; exact .nil
  | y :: ys, _, r => by
    cases r with
    | cons h t =>
      obtain ⟨tk, rfl⟩ := h
      exact .cons y tk (strs_are' t)
theorem vals_of_strs {ss : List Str} {vs : List Value} (h : StrsAre vs ss) : Vals (ss.map V.str) vs := by
  induction h with
  | nil => exact .nil
  | cons y t _ ih => exact .cons ⟨t, rfl⟩ ih
theorem call_sortedL : CallR X (.builtin "sorted") (rSorted X.K) := by
  intro pins s σ H xs us Q I r h
  obtain ⟨a, ss, rfl, ha, h64, q⟩ := h
  obtain ⟨u, rfl, rx⟩ := vals1 r
  cases (show u = Value.ref a from rx)
  obtain ⟨its, rv, pl, hz⟩ := I.list ha
  have hil : its.length = ss.length := by have := rv.length; simpa using this.symm
  have big : s.heap.objs.size ≤ s.heap.objs.size + 1 := Nat.le_succ _
  refine sorted_strs pl.isList (strs_are' rv) (by omega) fun out ss' hA hp hs => ?_
  obtain ⟨e, he⟩ := sortedAll_at s.heap its out
  have hlen : ss'.length = ss.length := hp.length_eq
  refine ⟨.ref (s.heap.objs.size + 1), _, I.laid (a := s.heap.objs.size + 1) (o := .lst (ss'.map V.str)) (h' := sortedAll s.heap its out) (t' := s.toks) (fun b o hb => ?_) big ⟨?_, out.toList, e, vals_of_strs hA, ?_⟩, rfl, q _ ss' (I.hok.fresh big) hs hp⟩
  · exact sortedAll_old hb
  · rw [List.length_map, hlen]
    exact Nat.le_trans (Nat.le_of_lt h64) (by decide)
  · simpa using he
end
end L2

set_option Elab.async false
set_option linter.all false
set_option maxRecDepth 100000
set_option maxHeartbeats 1000000
/-! zip of two tuples: one turn of it -/
namespace Zp
open PySem
section
variable {prog : Program} {w : World} {A : Around} {E : Value → Shared → Prop} {s : Shared}
theorem drawT {i t : Addr} {k : Nat} {vs : Array Value} {v : Value} {Q : Value → Shared → Prop} (gi : s.heap.IsTupleIter i t k) (gt : s.heap.IsTuple t vs) (hv : vs[k]? = some v)
    (q : ∀ h', h'.IsTupleIter i t (k + 1) → Heap.SameBut i s.heap h' → Q v { s with heap := h' }) : wpAny (model prog w) A (Builtin.SmallTypes.nextOf (.ref i)) Q E s := by
  obtain ⟨oi, g1, g2, g3⟩ := id gi
  obtain ⟨ot, t1, _, nt, t2⟩ := gt
  unfold Builtin.SmallTypes.nextOf
  refine wpAny_bind (wpAny_callSpecial?_slot (name := Str.ofString "__next__") gi.typeIs F.slot_tuple_iterator_next (wpAny_call_entry F.slot_tuple_iterator_next gi.typeIs F.entry_tuple_iterator_next ?_ (F.args_tuple_iterator_next_1 _)))
  refine (?_ : wpAny _ _ (field (.ref i) 0 >>= _) _ _ s)
  refine wpAny_bind (wpAny_field g1 g3 (x := .ref t) rfl ?_)
  refine (?_ : wpAny _ _ (if (Value.ref t == Value.none) = true then _ else _) _ _ s)
  rw [if_neg (fun z => by cases (show false = true from z))]
  refine (?_ : wpAny _ _ (field (.ref i) 1 >>= _) _ _ s)
  refine wpAny_bind (wpAny_field g1 g3 (x := .int k 0) rfl ?_)
  refine (?_ : wpAny _ _ (seqItems? (.ref t) >>= _) _ _ s)
  refine wpAny_bind (wpAny_seqItems t1 t2 ?_)
  simp only [Int.toNat_natCast, hv]
  refine wpAny_bind (wpAny_setField g1 g3 (by simp) (wpAny_pure ⟨v, rfl, wpAny_pure (q _ ⟨_, Heap.get?_update_self _ g1 (Obj.isFreed_of_fields (Obj.data_mapFields g3 _)), (Obj.cls_mapFields ..).trans g2, ?_⟩ (Heap.SameBut.update ..))⟩))
  rw [Obj.data_mapFields g3]
  simp [rawInt]
theorem stopT {i t : Addr} {k : Nat} {vs : Array Value} {Q : Value → Shared → Prop} (hA : A.handled = none) (gi : s.heap.IsTupleIter i t k) (gt : s.heap.IsTuple t vs) (hv : vs[k]? = none)
    (q : ∀ h' e, Heap.ExtBut i s.heap h' → (∃ o, h'.get? e = some o ∧ o.cls = .type "StopIteration") → E (.ref e) { s with heap := h' }) : wpAny (model prog w) A (Builtin.SmallTypes.nextOf (.ref i)) Q E s := by
  obtain ⟨oi, g1, g2, g3⟩ := id gi
  obtain ⟨ot, t1, _, nt, t2⟩ := gt
  unfold Builtin.SmallTypes.nextOf
  refine wpAny_bind (wpAny_callSpecial?_slot (name := Str.ofString "__next__") gi.typeIs F.slot_tuple_iterator_next (wpAny_call_entry F.slot_tuple_iterator_next gi.typeIs F.entry_tuple_iterator_next ?_ (F.args_tuple_iterator_next_1 _)))
  refine (?_ : wpAny _ _ (field (.ref i) 0 >>= _) _ _ s)
  refine wpAny_bind (wpAny_field g1 g3 (x := .ref t) rfl ?_)
  refine (?_ : wpAny _ _ (if (Value.ref t == Value.none) = true then _ else _) _ _ s)
  rw [if_neg (fun z => by cases (show false = true from z))]
  refine (?_ : wpAny _ _ (field (.ref i) 1 >>= _) _ _ s)
  refine wpAny_bind (wpAny_field g1 g3 (x := .int k 0) rfl ?_)
  refine (?_ : wpAny _ _ (seqItems? (.ref t) >>= _) _ _ s)
  refine wpAny_bind (wpAny_seqItems t1 t2 ?_)
  simp only [Int.toNat_natCast, hv]
  refine wpAny_bind (wpAny_rule (wpAny_bind (wpAny_setField g1 g3 (by simp) ?_)))
  refine (?_ : wpAny _ _ (newExc (.type "StopIteration") [] >>= _) _ _ _)
  refine wpAny_bind ?_
  simp only [newExc, newTuple]
  refine wpAny_bind (wpAny_newObj_type ?_ (by size_fits))
  refine wpAny_bind (m := firstArgMember _ _) (wpAny_of_eq (a := Value.none) (by first | rfl | (simp only [firstArgMember]; rfl)) (wpAny_newObj_type ?_ (by size_fits)))
  simp only [raiseNew]
  refine wpAny_bind (wpAny_handled ?_)
  first | rw [show A.in1.handled = none from hA] | rw [hA]
  exact wpAny_bind (wpAny_pure (wpAny_throw (q _ _ (((Heap.SameBut.update ..).extBut.push _).push _) ⟨_, Heap.get?_push_size _ rfl, rfl⟩)))
end
end Zp

set_option Elab.async false
set_option linter.all false
set_option maxRecDepth 100000
set_option maxHeartbeats 1000000
namespace Zp
open PySem
/-- what stays while the zip turns -/
def Rest (z O i j : Addr) (h h' : Heap) : Prop := ∀ c o, c ≠ z → c ≠ O → c ≠ i → c ≠ j → h.get? c = some o → h'.get? c = some o
section
variable {prog : Program} {w : World} {A : Around} {E : Value → Shared → Prop} {s : Shared} {z T O i j a b : Addr} {k : Nat} {xs ys : Array Value} {x y u v : Value}
theorem item (D : ZipApart z T O i j a b) {Q : Value → Shared → Prop} (gz : IsZip s.heap z T O .none) (gT : IsPair s.heap T (.ref i) (.ref j)) (gO : IsPair s.heap O u v) (gi : s.heap.IsTupleIter i a k) (gj : s.heap.IsTupleIter j b k)
    (ga : s.heap.IsTuple a xs) (gb : s.heap.IsTuple b ys) (ex : xs[k]? = some x) (ey : ys[k]? = some y)
    (q : ∀ h', IsZip h' z T O (rawInt s.heap.objs.size) → IsPair h' O x y → h'.IsTupleIter i a (k + 1) → h'.IsTupleIter j b (k + 1) → IsPair h' s.heap.objs.size x y → Rest z O i j s.heap h' → Q (.ref s.heap.objs.size) { s with heap := h' }) :
    wpAny (model prog w) A (Builtin.«zip.__next__» ⟨[.ref z], []⟩) (fun fin s' => ∃ r, fin = .done (.ret r) ∧ Q r s') E s := by
  refine (?_ : wpAny _ _ (field (.ref z) 2 >>= _) _ _ _)
  refine wpAny_bind (wpAny_field gz rfl (x := .bool false) rfl ?_)
  refine (?_ : wpAny _ _ (field (.ref z) 3 >>= _) _ _ _)
  refine wpAny_bind (wpAny_field gz rfl (x := .ref T) rfl (wpAny_bind (wpAny_seqItems gT rfl ?_)))
  refine (?_ : wpAny _ _ (Builtin.SmallTypes.ownedTupleIsFree (.ref z) >>= _) _ _ _)
  refine wpAny_bind ?_
  unfold Builtin.SmallTypes.ownedTupleIsFree
  refine wpAny_bind (wpAny_field gz rfl (x := .none) rfl (wpAny_pure ?_))
  simp only [if_true]
  refine wpAny_bind (wpAny_rule (wpAny_bind (wpAny_field gz rfl (x := .ref O) rfl (wpAny_bind (wpAny_setField_rec gz (by simp) fun h1 z1 b1 => ?_)))))
  replace z1 : IsZip h1 z T O .ellipsis := z1
  refine wpAny_bind ?_
  simp only [List.zipIdx_cons, List.zipIdx_nil, List.forIn_nil, List.forIn_cons]
  refine wpAny_bind (wpAny_bind (wpAny_onRaise ?_))
  refine (?_ : wpAny _ _ (Builtin.SmallTypes.nextOf (.ref i) >>= _) _ _ _)
  refine wpAny_bind (drawT (gi.extBut b1.extBut D.i1z) (ga.extBut b1.extBut D.l1z) ex fun h2 i2 b2 => wpAny_pure ?_)
  have O2 : IsPair h2 O u v := b2.extBut _ _ D.TOi1 (b1.extBut _ _ D.TOz gO)
  refine wpAny_bind (wpAny_seqItems O2 rfl (wpAny_bind (wpAny_updateSeq_pair O2 fun h3 O3 b3 => wpAny_bind (wpAny_letGo (wpAny_pure ?_)))))
  replace O3 : IsPair h3 O x v := O3
  refine wpAny_bind (wpAny_bind (wpAny_onRaise ?_))
  refine (?_ : wpAny _ _ (Builtin.SmallTypes.nextOf (.ref j) >>= _) _ _ _)
  refine wpAny_bind (drawT (((gj.extBut b1.extBut D.i2z).extBut b2.extBut D.i12.symm).extBut b3.extBut D.TOi2.symm) (((gb.extBut b1.extBut D.l2z).extBut b2.extBut D.l2i1).extBut b3.extBut D.l2TO) ey fun h4 j4 b4 => wpAny_pure ?_)
  have O4 : IsPair h4 O x v := b4.extBut _ _ D.TOi2 O3
  refine wpAny_bind (wpAny_seqItems O4 rfl (wpAny_bind (wpAny_updateSeq_pair O4 fun h5 O5 b5 => wpAny_bind (wpAny_letGo (wpAny_pure (wpAny_pure ?_))))))
  replace O5 : IsPair h5 O x y := O5
  refine wpAny_bind (wpAny_seqItems O5 rfl (wpAny_bind (wpAny_newTuple ?_)))
  have sz : h5.objs.size = s.heap.objs.size := by rw [b5.1, b4.1, b3.1, b2.1, b1.1]
  have z5 : IsZip h5 z T O .ellipsis := b5.extBut _ _ D.TOz.symm (b4.extBut _ _ D.i2z.symm (b3.extBut _ _ D.TOz.symm (b2.extBut _ _ D.i1z.symm z1)))
  have r5 : Rest z O i j s.heap h5 := fun c o c1 c2 c3 c4 e => b5.extBut _ _ c2 (b4.extBut _ _ c4 (b3.extBut _ _ c2 (b2.extBut _ _ c3 (b1.extBut _ _ c1 e))))
  have i5 : h5.IsTupleIter i a (k + 1) := ((i2.extBut b3.extBut D.TOi1.symm).extBut b4.extBut D.i12).extBut b5.extBut D.TOi1.symm
  have j5 : h5.IsTupleIter j b (k + 1) := j4.extBut b5.extBut D.TOi2.symm
  have zl : z < h5.objs.size := Heap.lt_size z5
  refine (?_ : wpAny _ _ (Builtin.SmallTypes.ownedTupleHandOut (.ref z) (.ref h5.objs.size) >>= _) _ _ _)
  refine wpAny_bind ?_
  unfold Builtin.SmallTypes.ownedTupleHandOut
  have z6 : IsZip (h5.push { cls := .type "tuple", data := .seq #[x, y] }) z T O .ellipsis := Heap.get?_push_of_some _ z5
  refine wpAny_bind (wpAny_setField_rec z6 (by simp) fun h7 z7 b7 => ?_)
  replace z7 : IsZip h7 z T O (rawInt h5.objs.size) := z7
  refine wpAny_setField_rec z7 (by simp) fun h8 z8 b8 => ?_
  replace z8 : IsZip h8 z T O (rawInt h5.objs.size) := z8
  have up : ∀ c o, c ≠ z → h5.get? c = some o → h8.get? c = some o := fun c o c1 e => b8.extBut _ _ c1 (b7.extBut _ _ c1 (Heap.get?_push_of_some _ e))
  have n8 : IsPair h8 h5.objs.size x y := b8.extBut _ _ (Nat.ne_of_gt zl) (b7.extBut _ _ (Nat.ne_of_gt zl) (Heap.get?_push_size _ rfl))
  rw [sz] at z8 n8
  refine wpAny_pure ⟨_, rfl, ?_⟩
  refine (?_ : Q (.ref h5.objs.size) _)
  rw [sz]
  exact q h8 z8 (up _ _ D.TOz O5) (i5.at fun o e => up _ o D.i1z e) (j5.at fun o e => up _ o D.i2z e) n8 fun c o c1 c2 c3 c4 e => up c o c1 (r5 c o c1 c2 c3 c4 e)
theorem stop (D : ZipApart z T O i j a b) {Q : Fin → Shared → Prop} (hA : A.handled = none) (gz : IsZip s.heap z T O .none) (gT : IsPair s.heap T (.ref i) (.ref j)) (gi : s.heap.IsTupleIter i a k) (ga : s.heap.IsTuple a xs) (ex : xs[k]? = none)
    (q : ∀ h' e, Rest z O i j s.heap h' → (∃ o, h'.get? e = some o ∧ o.cls = .type "StopIteration") → E (.ref e) { s with heap := h' }) :
    wpAny (model prog w) A (Builtin.«zip.__next__» ⟨[.ref z], []⟩) Q E s := by
  refine (?_ : wpAny _ _ (field (.ref z) 2 >>= _) _ _ _)
  refine wpAny_bind (wpAny_field gz rfl (x := .bool false) rfl ?_)
  refine (?_ : wpAny _ _ (field (.ref z) 3 >>= _) _ _ _)
  refine wpAny_bind (wpAny_field gz rfl (x := .ref T) rfl (wpAny_bind (wpAny_seqItems gT rfl ?_)))
  refine (?_ : wpAny _ _ (Builtin.SmallTypes.ownedTupleIsFree (.ref z) >>= _) _ _ _)
  refine wpAny_bind ?_
  unfold Builtin.SmallTypes.ownedTupleIsFree
  refine wpAny_bind (wpAny_field gz rfl (x := .none) rfl (wpAny_pure ?_))
  simp only [if_true]
  refine wpAny_bind (wpAny_rule (wpAny_bind (wpAny_field gz rfl (x := .ref O) rfl (wpAny_bind (wpAny_setField_rec gz (by simp) fun h1 z1 b1 => ?_)))))
  replace z1 : IsZip h1 z T O .ellipsis := z1
  refine wpAny_bind ?_
  simp only [List.zipIdx_cons, List.zipIdx_nil, List.forIn_nil, List.forIn_cons]
  refine wpAny_bind (wpAny_bind (wpAny_onRaise ?_))
  refine (?_ : wpAny _ _ (Builtin.SmallTypes.nextOf (.ref i) >>= _) _ _ _)
  refine wpAny_bind (stopT hA (gi.extBut b1.extBut D.i1z) (ga.extBut b1.extBut D.l1z) ex fun h2 e b2 ⟨oe, he, ce⟩ => ?_)
  have z2 : IsZip h2 z T O .ellipsis := b2 _ _ D.i1z.symm z1
  have ne : e ≠ z := fun n => by rw [n, z2] at he; cases he; simp at ce
  exact wpAny_setField_rec z2 (by simp) fun h3 _ b3 => q h3 e (fun c o c1 _ c3 _ n => b3.extBut _ _ c1 (b2 _ _ c3 (b1.extBut _ _ c1 n))) ⟨oe, b3.extBut _ _ ne he, ce⟩
theorem nextItem (D : ZipApart z T O i j a b) {Q : Option Value → Shared → Prop} (gz : IsZip s.heap z T O .none) (gT : IsPair s.heap T (.ref i) (.ref j)) (gO : IsPair s.heap O u v) (gi : s.heap.IsTupleIter i a k) (gj : s.heap.IsTupleIter j b k)
    (ga : s.heap.IsTuple a xs) (gb : s.heap.IsTuple b ys) (ex : xs[k]? = some x) (ey : ys[k]? = some y)
    (q : ∀ h', IsZip h' z T O (rawInt s.heap.objs.size) → IsPair h' O x y → h'.IsTupleIter i a (k + 1) → h'.IsTupleIter j b (k + 1) → IsPair h' s.heap.objs.size x y → Rest z O i j s.heap h' → Q (some (.ref s.heap.objs.size)) { s with heap := h' }) :
    wpAny (model prog w) A (pyNext (.ref z)) Q E s := by
  have ty : s.TypeIs (.ref z) "zip" := ⟨_, gz, rfl⟩
  unfold pyNext
  exact wpAny_bind (wpAny_attempt (wpAny_callSpecial?_slot (name := Str.ofString "__next__") ty F.slot_zip_next (wpAny_call_entry F.slot_zip_next ty F.entry_zip_next
    (item D gz gT gO gi gj ga gb ex ey fun h' a1 a2 a3 a4 a5 a6 => wpAny_pure (q h' a1 a2 a3 a4 a5 a6)) (F.args_zip_next_1 _))))
theorem nextStop (D : ZipApart z T O i j a b) {Q : Option Value → Shared → Prop} (hA : A.handled = none) (gz : IsZip s.heap z T O .none) (gT : IsPair s.heap T (.ref i) (.ref j)) (gi : s.heap.IsTupleIter i a k) (ga : s.heap.IsTuple a xs) (ex : xs[k]? = none)
    (q : ∀ h', Rest z O i j s.heap h' → Q none { s with heap := h' }) : wpAny (model prog w) A (pyNext (.ref z)) Q E s := by
  have ty : s.TypeIs (.ref z) "zip" := ⟨_, gz, rfl⟩
  unfold pyNext
  exact wpAny_bind (wpAny_attempt (wpAny_callSpecial?_slot (name := Str.ofString "__next__") ty F.slot_zip_next (wpAny_call_entry F.slot_zip_next ty F.entry_zip_next
    (stop D hA gz gT gi ga ex fun h' e r ⟨o, ho, hc⟩ => wpAny_bind (wpAny_isInstance (T := "StopIteration") (b := true) ⟨o, ho, hc⟩ isSubtype_stop (wpAny_pure (q _ r)))) (F.args_zip_next_1 _))))
end
abbrev H1 (h : Heap) (a : Addr) : Heap := h.push { cls := .type "tuple_iterator", data := .fields #[.ref a, .int 0 0] }
abbrev H2 (h : Heap) (a b : Addr) : Heap := (H1 h a).push { cls := .type "tuple_iterator", data := .fields #[.ref b, .int 0 0] }
abbrev H3 (h : Heap) (a b : Addr) : Heap := (H2 h a b).push { cls := .type "tuple", data := .seq #[.ref h.objs.size, .ref (H1 h a).objs.size] }
abbrev H4 (h : Heap) (a b : Addr) : Heap := (H3 h a b).push { cls := .type "tuple", data := .seq #[.none, .none] }
abbrev H5 (h : Heap) (a b : Addr) : Heap := (H4 h a b).push { cls := .type "zip", data := .fields #[.none, .bool false, .bool false, .ref (H2 h a b).objs.size, .ref (H3 h a b).objs.size] }
theorem new_meets (a b : Addr) (xs ys : Array Value) : Meets (Builtin.«zip.__new__» ⟨[.type "zip", .ref a, .ref b], []⟩) (fun _ R s => s.heap.IsTuple a xs ∧ s.heap.IsTuple b ys ∧ R (.ok (.ret (.ref (H4 s.heap a b).objs.size))) { s with heap := H5 s.heap a b }) :=
  .of_wp fun prog w A R s h => by
    obtain ⟨hp, g, d, tk, os⟩ := s
    obtain ⟨ga, gb, h⟩ := h
    have sub := sub_zip
    have la : Heap.IsTuple (Shared.heap ⟨hp, g, d, tk, os⟩) a xs := ga
    have lb : Heap.IsTuple (Shared.heap ⟨hp.push { cls := .type "tuple_iterator", data := .fields #[.ref a, .int 0 0] }, g, d, tk, os⟩) b ys := Heap.IsTuple.push gb _
    wp_walk using wpAny_pyIter_tuple la, wpAny_pyIter_tuple lb
    exact ⟨_, rfl, h⟩
section
variable {prog : Program} {w : World} {A : Around} {E : Value → Shared → Prop} {s : Shared}
theorem callZ {a b : Addr} {xs ys : Array Value} {Q : Value → Shared → Prop} (ga : s.heap.IsTuple a xs) (gb : s.heap.IsTuple b ys)
    (q : ∀ h', IsZip h' (s.heap.objs.size + 4) (s.heap.objs.size + 2) (s.heap.objs.size + 3) .none → IsPair h' (s.heap.objs.size + 2) (.ref s.heap.objs.size) (.ref (s.heap.objs.size + 1)) → IsPair h' (s.heap.objs.size + 3) .none .none →
      h'.IsTupleIter s.heap.objs.size a 0 → h'.IsTupleIter (s.heap.objs.size + 1) b 0 → (∀ c o, s.heap.get? c = some o → h'.get? c = some o) → Q (.ref (s.heap.objs.size + 4)) { s with heap := h' }) :
    wpAny (model prog w) A (call (.type "zip") [.ref a, .ref b]) Q E s := by
  refine callType_new F.called_zip (by decide) (F.typeCall_zip_2 _ _) (F.newCall_zip_2 _ _) (fun obj => F.args_object_init_3 obj _ _) F.entry_zip_new (new_meets a b xs ys) ⟨ga, gb, ?_⟩
  have e1 : (H1 s.heap a).objs.size = s.heap.objs.size + 1 := Heap.size_push ..
  have e2 : (H2 s.heap a b).objs.size = s.heap.objs.size + 2 := by rw [Heap.size_push, e1]
  have e3 : (H3 s.heap a b).objs.size = s.heap.objs.size + 3 := by rw [Heap.size_push, e2]
  have e4 : (H4 s.heap a b).objs.size = s.heap.objs.size + 4 := by rw [Heap.size_push, e3]
  have k5 : (H5 s.heap a b).get? (H4 s.heap a b).objs.size = some _ := Heap.get?_push_size _ rfl
  have k4 : (H5 s.heap a b).get? (H3 s.heap a b).objs.size = some _ := Heap.get?_push_of_some _ (Heap.get?_push_size _ rfl)
  have k3 : (H5 s.heap a b).get? (H2 s.heap a b).objs.size = some _ := Heap.get?_push_of_some _ (Heap.get?_push_of_some _ (Heap.get?_push_size _ rfl))
  have k2 : (H5 s.heap a b).get? (H1 s.heap a).objs.size = some _ := Heap.get?_push_of_some _ (Heap.get?_push_of_some _ (Heap.get?_push_of_some _ (Heap.get?_push_size _ rfl)))
  have k1 : (H5 s.heap a b).get? s.heap.objs.size = some _ := Heap.get?_push_of_some _ (Heap.get?_push_of_some _ (Heap.get?_push_of_some _ (Heap.get?_push_of_some _ (Heap.get?_push_size _ rfl))))
  refine (?_ : _ ∧ _)
  rw [e2, e3, e4] at k5
  rw [e1, e2] at k3
  rw [e3] at k4
  rw [e1] at k2
  rw [e4]
  exact ⟨⟨_, k5, rfl⟩, q _ k5 k3 k4 ⟨_, k1, rfl, rfl⟩ ⟨_, k2, rfl, rfl⟩ fun c o n => Heap.get?_push_of_some _ (Heap.get?_push_of_some _ (Heap.get?_push_of_some _ (Heap.get?_push_of_some _ (Heap.get?_push_of_some _ n))))⟩
end
end Zp

set_option Elab.async false
set_option linter.all false
set_option maxRecDepth 100000
set_option maxHeartbeats 1000000
namespace L2
open PySem PySem.Spec PyProof.Rows
section
variable {X : Cx} {pins : List (Addr × Obj)} {σ : St} {H : Hp} {s : Shared} {h' : Heap}
/-- records of an iterator have turned -/
theorem Inv.turnedL {t' : Nat} {fp : List Addr} (I : Inv X pins σ H s) (hf : ∀ b ∈ fp, FpOk X pins H b) (k : ∀ b o, b ∉ fp → s.heap.get? b = some o → h'.get? b = some o) : Inv X pins σ H { s with heap := h', toks := t' } := by
  have nit : ∀ b u, H b = some u → b ∉ fp := fun b u e z => by rw [(hf b z).1] at e; cases e
  refine I.step (g' := s.gens) (d' := s.drawn) (ch := fp) (fun b hb => ⟨(hf b hb).2.2.2.1, (hf b hb).2.1, (hf b hb).2.2.2.2.1, (hf b hb).2.2.2.2.2⟩) (fun b o _ _ hc e _ => k b o hc e) (fun b o _ _ hc e _ => ⟨o.slots, k b o hc e⟩) (fun _ _ _ _ n => n)
    (fun b o hc e => ⟨o, k b o hc e⟩) (fun _ _ e => e) (fun _ _ _ e => e) (fun b ps e => ⟨#[], by rw [e]; simp⟩) (fun m hm => ?_) (fun b u e => ?_) I.bare
  · obtain ⟨o, es, ep, ho, r⟩ := hm
    exact ⟨o, es, ep, k _ o (fun z => (hf _ z).2.1 rfl) ho, r⟩
  · refine (I.hok b u e).stay (fun c v hc q => k c v ?_ q) (fun _ q => q) fun _ _ q => q
    rcases hc with z | z
    · rw [z]; exact nit b u e
    · exact nit c _ z
/-- .. and a new object is laid -/
theorem Inv.turnedNew {t' : Nat} {fp : List Addr} {p : Addr} {o : HO} (I : Inv X pins σ H s) (hf : ∀ b ∈ fp, FpOk X pins H b) (k : ∀ b u, b ∉ fp → s.heap.get? b = some u → h'.get? b = some u) (hp : s.heap.objs.size ≤ p)
    (new : ObjOk X.prog X.w (upd H p o) h' p o) : Inv X pins σ (upd H p o) { s with heap := h', toks := t' } := by
  have hn := I.hok.fresh hp
  have nit : ∀ b u, H b = some u → b ∉ fp := fun b u e z => by rw [(hf b z).1] at e; cases e
  have np : ∀ b u, H b = some u → upd H p o b = some u := fun b u e => by rw [upd_ne (ne_of_none e hn)]; exact e
  refine I.step (g' := s.gens) (d' := s.drawn) (ch := fp) (fun b hb => ⟨(hf b hb).2.2.2.1, (hf b hb).2.1, (hf b hb).2.2.2.2.1, (hf b hb).2.2.2.2.2⟩) (fun b o _ _ hc e _ => k b o hc e) (fun b o _ _ hc e _ => ⟨o.slots, k b o hc e⟩)
    (fun b u _ e n => by rw [upd_ne (fun z => Nat.lt_irrefl _ (Nat.lt_of_lt_of_le (Heap.lt_size e) (by rw [z]; exact hp)))]; exact n)
    (fun b o hc e => ⟨o, k b o hc e⟩) (fun b xs e => np b _ e) (fun b u v e => np b _ e) (fun b ps e => ⟨#[], by rw [np b _ e]; simp⟩) (fun m hm => ?_) (fun b u e => ?_) I.bare
  · obtain ⟨o, es, ep, ho, r⟩ := hm
    exact ⟨o, es, ep, k _ o (fun z => (hf _ z).2.1 rfl) ho, r⟩
  · by_cases hb : b = p
    · subst hb
      rw [upd_same] at e
      cases e
      exact new
    · rw [upd_ne hb] at e
      refine (I.hok b u e).stay (fun c v hc q => k c v ?_ q) (fun c q => np c _ q) fun c _ q => np c _ q
      rcases hc with z | z
      · rw [z]; exact nit b u e
      · exact nit c _ z
end
/-- zip of the tuples at a and b -/
def Itz (K : PySem.W.Frag) (a b : Addr) : It :=
  ⟨fun i H => ∃ xs ys x y, SqT K H a xs ∧ SqT K H b ys ∧ xs[i]? = some x ∧ ys[i]? = some y,
   fun i H v H' => ∃ p, v = .ref p ∧ H p = none ∧ ∀ xs ys x y, SqT K H a xs → SqT K H b ys → xs[i]? = some x → ys[i]? = some y → H' = upd H p (.tup [x, y]),
   fun i H => ∃ xs, SqT K H a xs ∧ xs.length ≤ i⟩
theorem turn_zip {P : Program} {w : World} {K : PySem.W.Frag} {elts : List Expr} {x1 : Nat} {tp : Pos} {z T O i j a b : Addr} (D : ZipApart z T O i j a b) :
    Turn P w K (.Tuple elts x1 tp) (Itz K a b) [z, T, O, i, j] z (fun n h => IsZip h z T O .none ∧ IsPair h T (.ref i) (.ref j) ∧ (∃ u v, IsPair h O u v) ∧ h.IsTupleIter i a n ∧ h.IsTupleIter j b n) where
  mem := by simp
  obj := fun n h ⟨gz, gT, ⟨u, v, gO⟩, gi, gj⟩ c hc => by
    obtain ⟨oi, e1, _, d1⟩ := gi
    obtain ⟨oj, e2, _, d2⟩ := gj
    simp at hc
    rcases hc with rfl | rfl | rfl | rfl | rfl
    · exact ⟨_, gz, fun v n => by cases n⟩
    · exact ⟨_, gT, fun v n => by cases n⟩
    · exact ⟨_, gO, fun v n => by cases n⟩
    · exact ⟨oi, e1, fun v n => by rw [d1] at n; cases n⟩
    · exact ⟨oj, e2, fun v n => by rw [d2] at n; cases n⟩
  keep := fun n h h' ⟨gz, gT, ⟨u, v, gO⟩, gi, gj⟩ k => ⟨k z (by simp) _ gz, k T (by simp) _ gT, ⟨u, v, k O (by simp) _ gO⟩, gi.at fun o e => k i (by simp) o e, gj.at fun o e => k j (by simp) o e⟩
  item := by
    intro X hP hw hK hc n pins s σ H E I hf ⟨gz, gT, ⟨u, v, gO⟩, gi, gj⟩ hg
    subst hP hw hK
    obtain ⟨xs, ys, x, y, qa, qb, hx, hy⟩ := hg
    obtain ⟨its, ra, pa, _⟩ := I.tuple qa
    obtain ⟨jts, rb, pb, _⟩ := I.tuple qb
    obtain ⟨ux, ex, rx⟩ := ra.get hx
    obtain ⟨uy, ey, ry⟩ := rb.get hy
    have lt : ∀ {c o}, s.heap.get? c = some o → c ≠ s.heap.objs.size := fun e => Nat.ne_of_lt (Heap.lt_size e)
    have nfp : ∀ c ∈ [z, T, O, i, j], c ≠ s.heap.objs.size := fun c hc => by
      obtain ⟨oi, e1, _, d1⟩ := gi
      obtain ⟨oj, e2, _, d2⟩ := gj
      simp at hc
      rcases hc with rfl | rfl | rfl | rfl | rfl
      · exact lt gz
      · exact lt gT
      · exact lt gO
      · exact lt e1
      · exact lt e2
    refine Zp.nextItem D gz gT gO gi gj (show s.heap.IsTuple a its.toArray from pa) (show s.heap.IsTuple b jts.toArray from pb) (x := ux) (y := uy) (by simpa using ex) (by simpa using ey) fun h1 z1 O1 i1 j1 n1 r1 => ⟨_, rfl, ?_⟩
    have T1 := r1 _ _ D.TIz D.TITO D.TIi1 D.TIi2 gT
    refine wpAny_letOwnedTupleGo_zip z1 fun h2 z2 b2 => ?_
    have I2 : Inv X pins σ (upd H s.heap.objs.size (.tup [x, y])) { s with heap := h2 } := I.turnedNew (t' := s.toks) (fp := [z, T, O, i, j]) hf (fun c o hc e => ?_) (Nat.le_refl _) ?_
    · refine ⟨.ref s.heap.objs.size, _, I2, rfl, ⟨s.heap.objs.size, rfl, I.hok.fresh (Nat.le_refl _), fun xs' ys' x' y' q1 q2 q3 q4 => ?_⟩, ⟨z2, b2.extBut _ _ D.TIz T1, ⟨_, _, b2.extBut _ _ D.TOz O1⟩, i1.extBut b2.extBut D.i1z, j1.extBut b2.extBut D.i2z⟩, fun c hc => ?_⟩
      · rw [I.tuple_inj q1 qa] at q3
        rw [I.tuple_inj q2 qb] at q4
        rw [hx] at q3
        rw [hy] at q4
        cases q3
        cases q4
        rfl
      · rw [upd_ne (nfp c hc)]
        exact (hf c hc).1
    · simp at hc
      exact b2.extBut _ _ hc.1 (r1 c o hc.1 hc.2.2.1 hc.2.2.2.1 hc.2.2.2.2 e)
    · exact ⟨by show 2 ≤ sizeLine; decide, [ux, uy], .cons rx (.cons ry .nil), _, b2.extBut _ _ (fun e => nfp z (by simp) e.symm) n1, rfl, 0, rfl⟩
  done := by
    intro X hP hw hK hc n pins s σ H E I hf ⟨gz, gT, ⟨u, v, gO⟩, gi, gj⟩ hg
    subst hP hw hK
    obtain ⟨xs, qa, hx⟩ := hg
    obtain ⟨its, ra, pa, _⟩ := I.tuple qa
    have hl := ra.length
    refine Zp.nextStop D (I.ok.hd hc) gz gT gi (show s.heap.IsTuple a its.toArray from pa) (by simp; omega) fun h1 r1 => ⟨rfl, I.turnedL (t' := s.toks) (fp := [z, T, O, i, j]) hf fun c o hc e => ?_⟩
    simp at hc
    exact r1 c o hc.1 hc.2.2.1 hc.2.2.2.1 hc.2.2.2.2 e
  self := fun _ _ _ _ _ ⟨gz, _⟩ h => wpAny_pyIter_zip gz h
section
variable {X : Cx}
def iZip (K : PySem.W.Frag) (ta : TA) : TI := fun σ H R => ta σ H fun vs H1 => ∃ a b xs ys, vs = [.ref a, .ref b] ∧ SqT K H1 a xs ∧ SqT K H1 b ys ∧ R (Itz K a b) H1
theorem pi_zip {elts : List Expr} {x1 : Nat} {tp : Pos} {a b : Expr} {ta : TA} {p pos : Pos} (hg : Gl X "zip") (hm : X.mg "zip" = none) (ha : PA X [a, b] ta) (hs : starEach [a, b] X.env = [(false, eval a X.env), (false, eval b X.env)] := by rfl) (hs2 : starEach [b] X.env = [(false, eval b X.env)] := by rfl) :
    PI X (.Tuple elts x1 tp) (.Call (.Name "zip" p) [a, b] [] pos) (iZip X.K ta) := by
  intro pins s σ H R I h
  refine Call_ (ld_blt I hg hm (by rfl) (PyProof.Rows.callWith_type1 (thn (ha pos pins s σ H _ I h) fun us s1 ⟨vs, H1, I1, r1, q1⟩ => ?_) (by rw [hs, hs2]) (by rw [hs2]; rfl)))
  obtain ⟨x, y, xs, ys, e, qa, qb, q⟩ := q1
  subst e
  cases r1 with
  | cons r rr =>
    cases rr with
    | cons r' rr =>
      cases rr
      cases r
      cases r'
      obtain ⟨its, ra, pa, _⟩ := I1.tuple qa
      obtain ⟨jts, rb, pb, _⟩ := I1.tuple qb
      have pa : s1.heap.IsTuple x its.toArray := pa
      have pb : s1.heap.IsTuple y jts.toArray := pb
      have lx : x < s1.heap.objs.size := by obtain ⟨_, e, _⟩ := id pa; exact Heap.lt_size e
      have ly : y < s1.heap.objs.size := by obtain ⟨_, e, _⟩ := id pb; exact Heap.lt_size e
      refine Zp.callZ pa pb fun h' gz gT gO gi gj k => ?_
      refine wpAny_pyIter_zip gz ⟨_, _, _, _, H1, rfl, I1.kept (t' := s1.toks) k, turn_zip (PyProof.Rows.zipApart_new lx ly), ⟨gz, gT, ⟨_, _, gO⟩, gi, gj⟩, fun c hc => ?_, q⟩
      have hb : s1.heap.objs.size ≤ c := by
        simp only [List.mem_cons, List.not_mem_nil, or_false] at hc
        rcases hc with e | e | e | e | e <;> (rw [e]; first | exact Nat.le_refl _ | exact Nat.le_add_right _ _)
      exact I1.fpOk hb (I1.hok.fresh hb)
end
end L2

set_option Elab.async false
set_option linter.all false
set_option maxRecDepth 100000
set_option maxHeartbeats 1000000
namespace L2
open PySem PySem.Spec PyProof.Rows
section
variable {K : PySem.W.Frag} {a b D : Addr} {xs ys : List V} {g : TG} {σ : St} {H : Hp}
theorem comp_zip {tt : TT} {te : TE} {Q : VK} (Pv : Nat → St → Hp → Prop) (h0 : Pv 0 σ H) (el : xs.length = ys.length) (hl : ∀ i σ H, i ≤ xs.length → Pv i σ H → SqT K H a xs ∧ SqT K H b ys)
    (hs : ∀ i x y σ H p, xs[i]? = some x → ys[i]? = some y → Pv i σ H → H p = none → g (.ref p) σ (upd H p (.tup [x, y])) fun σ3 H3 => tt σ3 H3 fun ok H4 =>
        if ok = true then te σ3 H4 fun y H5 => ∃ xs, H5 D = some (.lst xs) ∧ xs.length < sizeLine ∧ Pv (i + 1) σ3 (upd H5 D (.lst (xs ++ [y]))) else Pv (i + 1) σ3 H4)
    (hd : ∀ σ H, Pv xs.length σ H → Q (.ref D) H) : CompW (Itz K a b) g tt te Q D σ H := by
  refine ⟨fun i m σ H => m = xs.length - i ∧ i ≤ xs.length ∧ Pv i σ H, ⟨xs.length, by simp, Nat.zero_le _, h0⟩, ?_⟩
  rintro i m σ H ⟨rfl, hi, p⟩
  obtain ⟨qa, qb⟩ := hl i σ H hi p
  by_cases hlt : i < xs.length
  · have hx : xs[i]? = some xs[i] := List.getElem?_eq_getElem hlt
    have hy : ys[i]? = some (ys[i]'(by omega)) := List.getElem?_eq_getElem (by omega)
    refine .inr ⟨⟨xs, ys, _, _, qa, qb, hx, hy⟩, Pv (i + 1), fun σ' H' p' => ⟨xs.length - (i + 1), by omega, rfl, hlt, p'⟩, fun v H' ⟨r, ev, er, q⟩ => ?_⟩
    rw [ev, q _ _ _ _ qa qb hx hy]
    exact hs i _ _ σ H r hx hy p er
  · have e : i = xs.length := by omega
    subst e
    exact .inl ⟨⟨xs, qa, Nat.le_refl _⟩, hd σ H p⟩
theorem for_zip {tb : TS} {D : Ends} (Pv : Nat → St → Hp → Prop) (h0 : Pv 0 σ H) (el : xs.length = ys.length) (hl : ∀ i σ H, i ≤ xs.length → Pv i σ H → SqT K H a xs ∧ SqT K H b ys)
    (hs : ∀ i x y σ H p, xs[i]? = some x → ys[i]? = some y → Pv i σ H → H p = none → g (.ref p) σ (upd H p (.tup [x, y])) fun σ2 H2 => tb { D with nx := Pv (i + 1), ct := Pv (i + 1), bk := D.nx } σ2 H2) (hd : ∀ σ H, Pv xs.length σ H → D.nx σ H) :
    ∃ W : Nat → Nat → St → Hp → Prop, (∃ m, W 0 m σ H) ∧ ∀ i m σ H, W i m σ H →
      ((Itz K a b).stop i H ∧ D.nx σ H) ∨ ((Itz K a b).go i H ∧ ∃ N : St → Hp → Prop, (∀ σ' H', N σ' H' → ∃ m', m' < m ∧ W (i + 1) m' σ' H') ∧ ∀ x H', (Itz K a b).yld i H x H' → g x σ H' fun σ2 H2 => tb { D with nx := N, ct := N, bk := D.nx } σ2 H2) := by
  refine ⟨fun i m σ H => m = xs.length - i ∧ i ≤ xs.length ∧ Pv i σ H, ⟨xs.length, by simp, Nat.zero_le _, h0⟩, ?_⟩
  rintro i m σ H ⟨rfl, hi, p⟩
  obtain ⟨qa, qb⟩ := hl i σ H hi p
  by_cases hlt : i < xs.length
  · have hx : xs[i]? = some xs[i] := List.getElem?_eq_getElem hlt
    have hy : ys[i]? = some (ys[i]'(by omega)) := List.getElem?_eq_getElem (by omega)
    refine .inr ⟨⟨xs, ys, _, _, qa, qb, hx, hy⟩, Pv (i + 1), fun σ' H' p' => ⟨xs.length - (i + 1), by omega, rfl, hlt, p'⟩, fun v H' ⟨r, ev, er, q⟩ => ?_⟩
    rw [ev, q _ _ _ _ qa qb hx hy]
    exact hs i _ _ σ H r hx hy p er
  · have e : i = xs.length := by omega
    subst e
    exact .inl ⟨⟨xs, qa, Nat.le_refl _⟩, hd σ H p⟩
end
end L2

set_option Elab.async false
set_option linter.all false
set_option maxRecDepth 100000
set_option maxHeartbeats 1000000
/-! sorted of at most three tuples whose first items are unlike texts: some order of them -/
namespace Zp
open PySem PySem.W PyProof.Rows
def leaves : KasT (Array Nat) → List (Array Nat)
  | .ret p => [p]
  | .ask _ _ k => leaves (k true) ++ leaves (k false)
def asksOk (n : Nat) : KasT (Array Nat) → Bool
  | .ret _ => true
  | .ask i j k => decide (i < n) && decide (j < n) && decide (i ≠ j) && asksOk n (k true) && asksOk n (k false)
theorem run_leaves {cmp : Nat → Nat → (Bool → Shared → Prop) → Shared → Prop} {Q : Array Nat → Shared → Prop} {s : Shared} {n : Nat} (hc : ∀ i j C, i < n → j < n → i ≠ j → (∀ b, C b s) → cmp i j C s) :
    ∀ t : KasT (Array Nat), asksOk n t = true → (∀ p ∈ leaves t, Q p s) → t.kasWp cmp Q s
  | .ret p, _, h => h p (by simp [leaves])
  | .ask i j k, ha, h => by
    simp only [asksOk, Bool.and_eq_true, decide_eq_true_eq] at ha
    obtain ⟨⟨⟨⟨h1, h2⟩, h3⟩, h4⟩, h5⟩ := ha
    refine hc i j _ h1 h2 h3 fun b => ?_
    cases b with
    | true => exact run_leaves hc (k true) h4 fun p hp => h p (by simp [leaves, hp])
    | false => exact run_leaves hc (k false) h5 fun p hp => h p (by simp [leaves, hp])
theorem sort_ok : ∀ n : Nat, n ≤ 3 → 2 ≤ n → asksOk n (kas_sort n) = true ∧ (leaves (kas_sort n)).all (fun p => p.toList.isPerm (List.range n)) = true := by
  intro n h3 h2
  have : n = 2 ∨ n = 3 := by omega
  rcases this with rfl | rfl
  · decide +kernel
  · decide +kernel
/-- tuples whose first items are these texts -/
inductive TupsAt (h : Heap) : List Value → List Str → Prop
  | nil : TupsAt h [] []
  | cons {a : Addr} {o : Obj} {xs : Array Value} {n : Nat} {x : Str} {t : Tok} {vs : List Value} {fs : List Str} : h.get? a = some o → o.cls = .type "tuple" → o.data = .seq xs n → xs[0]? = some (.str x t) → TupsAt h vs fs → TupsAt h (.ref a :: vs) (x :: fs)
theorem TupsAt.keep {h h' : Heap} (k : ∀ a o, h.get? a = some o → o.cls = .type "tuple" → h'.get? a = some o) : ∀ {vs : List Value} {fs : List Str}, TupsAt h vs fs → TupsAt h' vs fs
  | _, _, .nil => .nil
  | _, _, .cons e c d f r => .cons (k _ _ e c) c d f (r.keep k)
theorem TupsAt.len {h : Heap} : ∀ {vs : List Value} {fs : List Str}, TupsAt h vs fs → vs.length = fs.length
  | _, _, .nil => rfl
  | _, _, .cons _ _ _ _ r => congrArg (· + 1) r.len
theorem TupsAt.get {h : Heap} : ∀ {vs : List Value} {fs : List Str} {i : Nat}, TupsAt h vs fs → i < fs.length → ∃ a o xs n t, vs.getD i Value.none = .ref a ∧ h.get? a = some o ∧ o.data = .seq xs n ∧ xs[0]? = some (.str (fs.getD i "") t)
  | _, _, 0, .cons e c d f r, _ => ⟨_, _, _, _, _, rfl, e, d, f⟩
  | _, _, i + 1, .cons e c d f r, hi => by
    have := r.get (i := i) (by simpa using hi)
    simpa using this
  | _, _, _, .nil, hi => by simp at hi
theorem TupsAt.firsts {h : Heap} : ∀ {vs : List Value} {fs : List Str}, TupsAt h vs fs → ∃ gs : List Value, KatTups h vs gs ∧ gs.length = fs.length ∧ ∀ v ∈ gs, ∃ x t, v = .str x t
  | _, _, .nil => ⟨[], KatTups.nil, rfl, by simp⟩
  | _, _, .cons e c d f r => by
    obtain ⟨gs, k, l, m⟩ := r.firsts
    exact ⟨_ :: gs, KatTups.cons e c d f k, by simp [l], fun v hv => by
      rcases List.mem_cons.mp hv with z | z
      · exact ⟨_, _, z⟩
      · exact m v z⟩
section
variable {prog : Program} {w : World} {A : Around} {E : Value → Shared → Prop} {s : Shared}
theorem list_sort {a : Addr} {vs : List Value} {fs : List Str} {n : Nat} {P : PySem.Fin → Shared → Prop} (ho : s.heap.get? a = some (seqObj "list" vs.toArray n)) (h3 : vs.length ≤ 3) (ht : TupsAt s.heap vs fs) (hd : fs.Nodup)
    (q : ∀ out : Array Value, out.toList.Perm vs → P (.done (.ret .none)) { s with heap := sortedHeap s.heap a vs out }) : wpAny (model prog w) A (Builtin.«list.sort» ⟨[.ref a], []⟩) P E s := by
  rw [list_sort_plain]
  have ha : a < s.heap.objs.size := Heap.lt_size ho
  refine wpAny_bind (listItems_at ho rfl (wpAny_bind (listUpdate_at ho rfl ?_ (by rw [List.size_toArray, sizeLine_eq]; omega) (Nat.zero_le _))))
  obtain ⟨e1, ho1⟩ : ∃ e1, (s.heap.update a (Obj.mapSeq fun _ => #[])).get? a = some (seqObj "list" #[] e1) := ⟨_, get?_update_seq ho (fun _ => #[])⟩
  refine wpAny_bind (seqEpoch_at ho1 rfl (wpAny_bind (wpAny_newTuple ?_ (by show vs.length ≤ _; rw [sizeLine_eq]; omega))))
  refine wpAny_bind (wpAny_newList (wpAny_holding ?_) (Nat.zero_le _))
  have ho6 : (((s.heap.update a (Obj.mapSeq fun _ => #[])).push (seqObj "tuple" vs.toArray 0)).push (seqObj "list" #[] 0)).get? a = some (seqObj "list" #[] e1) := Heap.get?_push_of_some _ (Heap.get?_push_of_some _ ho1)
  have ht6 : TupsAt (((s.heap.update a (Obj.mapSeq fun _ => #[])).push (seqObj "tuple" vs.toArray 0)).push (seqObj "list" #[] 0)) vs fs := ht.keep fun b o e c => by
    have nb : b ≠ a := fun z => by rw [z, ho] at e; cases e; simp [seqObj] at c
    exact Heap.get?_push_of_some _ (Heap.get?_push_of_some _ (by rw [Heap.get?_update_ne _ _ _ _ nb]; exact e))
  refine (?_ : wpAny (model prog w) A _ P E { s with heap := ((s.heap.update a (Obj.mapSeq fun _ => #[])).push (seqObj "tuple" vs.toArray 0)).push (seqObj "list" #[] 0) })
  dsimp only
  by_cases h2 : vs.toArray.size < 2
  · rw [if_pos h2, if_pos h2]
    refine wpAny_bind (wpAny_pure ?_)
    rw [StateT.run_pure]
    refine wpAny_bind (wpAny_pure ?_)
    dsimp only
    have e2 : ((vs.toArray.zip vs.toArray).map (·.2)) = vs.toArray := by
      apply Array.toList_inj.mp
      simp
      exact List.map_snd_zip (Nat.le_refl _)
    refine wpAny_bind (seqEpoch_at ho6 rfl (wpAny_bind (listUpdate_at ho6 rfl ?_ (hsz2 := by
      refine Nat.le_trans (Nat.le_of_eq (congrArg Array.size e2)) ?_
      rw [List.size_toArray, sizeLine_eq]
      omega))))
    simp only [bne_self_eq_false, Bool.false_eq_true, if_false]
    refine wpAny_pure ?_
    have := q vs.toArray (by simp)
    rw [← e2] at this
    exact this
  · rw [if_neg h2, if_neg h2]
    have hn : 2 ≤ vs.length := by simpa using h2
    obtain ⟨gs, kt, lg, mg⟩ := ht6.firsts
    have lf := ht.len
    refine wpAny_bind (kat_kind (T := .type "str") kt (by omega) (fun v hv => ?_) rfl ?_)
    · obtain ⟨x, t, rfl⟩ := mg v hv
      exact .now
    obtain ⟨ok, perm⟩ := sort_ok vs.length h3 hn
    have est : SortSt.mk' (tuples' true) (vs.toArray.zip vs.toArray) #[] 7 none = kas_st (tuples' true) (pairsOf vs) (List.toArray (List.range vs.length)) := by
      have e := kas_range (pairsOf vs)
      rw [pairsOf_size] at e
      refine (?_ : SortSt.mk' (tuples' true) (pairsOf vs) #[] 7 none = SortSt.mk' (tuples' true) ((List.toArray (List.range vs.length)).map (kas_item (pairsOf vs))) #[] 7 none)
      rw [e]
    refine (?_ : wpAny (model prog w) A (StateT.run sortRuns' (SortSt.mk' (tuples' true) (vs.toArray.zip vs.toArray) #[] 7 none) >>= _) P E _)
    rw [est]
    have run := kas_runs (prog := prog) (w := w) (A := A) (E := E) (κ := tuples' true) (it := pairsOf vs) (n := vs.length)
      (s := { s with heap := ((s.heap.update a (Obj.mapSeq fun _ => #[])).push (seqObj "tuple" vs.toArray 0)).push (seqObj "list" #[] 0) })
      (G := fun p s' => p ∈ leaves (kas_sort vs.length) ∧ s' = { s with heap := ((s.heap.update a (Obj.mapSeq fun _ => #[])).push (seqObj "tuple" vs.toArray 0)).push (seqObj "list" #[] 0) })
      (Q := fun _ st' s' => s' = { s with heap := ((s.heap.update a (Obj.mapSeq fun _ => #[])).push (seqObj "tuple" vs.toArray 0)).push (seqObj "list" #[] 0) } ∧ failedOf st' = none ∧ ∃ p ∈ leaves (kas_sort vs.length), arrOf st' = p.map (kas_item (pairsOf vs)))
      hn (by omega) (fun p' st' s' a1 a2 a3 a4 => ⟨a4.2, a3, p', a4.1, a2⟩) (run_leaves (n := vs.length) (fun i j C hi hj hij hC => ?_) _ ok fun p hp => ⟨hp, rfl⟩)
    · refine wpAny_bind (wpAny_mono run ?_ fun _ _ e => e)
      rintro ⟨⟨⟩, st'⟩ s' ⟨rfl, hf, p, hp, har⟩
      dsimp only
      have hperm : p.toList.Perm (List.range vs.length) := by
        have := List.all_eq_true.mp perm p hp
        exact List.isPerm_iff.mp this
      have hout : (((arrOf st').map (·.2)).toList).Perm vs := by
        rw [har, Array.map_map, Array.toList_map]
        have e : (List.range vs.length).map (fun i => (kas_item (pairsOf vs) i).2) = vs := by
          apply List.ext_getElem
          · simp
          · intro i h1 h2
            simp only [List.getElem_map, List.getElem_range]
            rw [kas_item_eq]
            simp [h2]
        have := hperm.map (fun i => (kas_item (pairsOf vs) i).2)
        rw [e] at this
        exact this
      have hsz : ((arrOf st').map (·.2)).size = vs.length := by
        have := hout.length_eq
        simpa using this
      refine wpAny_bind (seqEpoch_at ho6 rfl (wpAny_bind (listUpdate_at ho6 rfl ?_ (hsz2 := by
        refine Nat.le_trans (Nat.le_of_eq hsz) ?_
        rw [sizeLine_eq]
        omega))))
      rw [hf]
      simp only [bne_self_eq_false, Bool.false_eq_true, if_false]
      exact wpAny_pure (q _ hout)
    · unfold kas_cmp
      rw [kas_item_eq, kas_item_eq]
      obtain ⟨x, ox, xs, nx, tx, ex, gx, dx, fx⟩ := ht6.get (i := i) (by omega)
      obtain ⟨y, oy, ys, ny, ty, ey, gy, dy, fy⟩ := ht6.get (i := j) (by omega)
      dsimp only
      rw [ex, ey]
      have hne : ¬ fs.getD i "" = fs.getD j "" := fun z => by
        have hi' : i < fs.length := by omega
        have hj' : j < fs.length := by omega
        rw [List.getD_eq_getElem?_getD, List.getD_eq_getElem?_getD, List.getElem?_eq_getElem hi', List.getElem?_eq_getElem hj'] at z
        have z' : fs[i] = fs[j] := z
        rcases Nat.lt_or_gt_of_ne hij with lt | lt
        · exact List.pairwise_iff_getElem.mp hd i j hi' hj' lt z'
        · exact List.pairwise_iff_getElem.mp hd j i hj' hi' lt z'.symm
      refine kat_lt gx dx gy dy ?_
      obtain ⟨xr, hxr⟩ : ∃ r, xs.toList = .str (fs.getD i "") tx :: r := by
        cases e : xs.toList with
        | nil => have := congrArg (·[0]?) e; simp [fx] at this
        | cons v r => have := congrArg (·[0]?) e; simp [fx] at this; exact ⟨r, by rw [List.getD_eq_getElem?_getD, this]⟩
      obtain ⟨yr, hyr⟩ : ∃ r, ys.toList = .str (fs.getD j "") ty :: r := by
        cases e : ys.toList with
        | nil => have := congrArg (·[0]?) e; simp [fy] at this
        | cons v r => have := congrArg (·[0]?) e; simp [fy] at this; exact ⟨r, by rw [List.getD_eq_getElem?_getD, this]⟩
      rw [hxr, hyr, List.zip_cons_cons]
      refine kat_cons (wpAny_eqBool_str ?_)
      rw [decide_eq_false hne]
      exact kat_no (oneLt_str (hC _))
theorem sorted_tups {l : Addr} {vs : List Value} {fs : List Str} {Q : Value → Shared → Prop} (hl : s.heap.IsList l vs.toArray) (h3 : vs.length ≤ 3) (ht : TupsAt s.heap vs fs) (hd : fs.Nodup)
    (q : ∀ out : Array Value, out.toList.Perm vs → Q (.ref (s.heap.objs.size + 1)) { s with heap := sortedAll s.heap vs out }) : wpAny (model prog w) A (call (.builtin "sorted") [.ref l]) Q E s := by
  refine Calls.call_function_entry kind_sorted plain_sorted entry_sorted (args_sorted1 _) ?_
  unfold Builtin.«sorted»
  refine wpAny_bind (m := checkCount "sorted" 1 1 _) (wpAny_pure (wpAny_bind (collect_list hl (wpAny_bind (wpAny_newList ?_ (by rw [sizeLine_eq]; omega))) (by rw [sizeLine_eq]; omega))))
  have sz : ((s.heap.push (seqObj "list" #[] 0)).update s.heap.objs.size (Obj.mapSeq (· ++ vs.toArray))).objs.size = s.heap.objs.size + 1 := by rw [Heap.size_update, size_push']
  have gl : (((s.heap.push (seqObj "list" #[] 0)).update s.heap.objs.size (Obj.mapSeq (· ++ vs.toArray))).push (seqObj "list" vs.toArray 0)).get? (s.heap.objs.size + 1) = some (seqObj "list" vs.toArray 0) := by
    rw [← sz]
    exact Heap.get?_push_size _ rfl
  have ht' : TupsAt (((s.heap.push (seqObj "list" #[] 0)).update s.heap.objs.size (Obj.mapSeq (· ++ vs.toArray))).push (seqObj "list" vs.toArray 0)) vs fs := ht.keep fun b o e _ => by
    have lt : b < s.heap.objs.size := Heap.lt_size e
    refine Heap.get?_push_of_some _ ?_
    rw [Heap.get?_update_ne _ _ _ _ (Nat.ne_of_lt lt)]
    exact Heap.get?_push_of_some _ e
  refine (?_ : wpAny _ _ _ _ _ { s with heap := ((s.heap.push (seqObj "list" #[] 0)).update s.heap.objs.size (Obj.mapSeq (· ++ vs.toArray))).push (seqObj "list" vs.toArray 0) })
  rw [sz]
  refine wpAny_bind (wpAny_holding (wpAny_call_entry slot_list_sort ⟨_, gl, rfl⟩ entry_list_sort (list_sort gl h3 ht' hd fun out hp => ⟨_, rfl, ?_⟩) (args_list_sort _)))
  exact wpAny_pure ⟨_, rfl, q out hp⟩
end
end Zp

set_option Elab.async false
set_option linter.all false
set_option maxRecDepth 100000
set_option maxHeartbeats 1000000
namespace L2
open PySem PySem.Spec PyProof.Rows
mutual
/-- a thing of plain data stands in the heap; its lists at places of N -/
inductive DtAt (N : Addr → Prop) (H : Hp) : PyData → V → Prop
  | non : DtAt N H .none .non
  | bl (b : Bool) : DtAt N H (.bool b) (.bl b)
  | int (i : Int) : DtAt N H (.int i) (.int i)
  | str (x : Str) : DtAt N H (.str x) (.str x)
  | tup {a : Addr} {us : List V} {xs : List PyData} : H a = some (.tup us) → DtsAt N H xs us → DtAt N H (.tuple xs) (.ref a)
  | lst {a : Addr} {us : List V} {xs : List PyData} : H a = some (.lst us) → N a → DtsAt N H xs us → DtAt N H (.list xs) (.ref a)
  | dct {a : Addr} : H a = some (.dK []) → DtAt N H (.dict []) (.ref a)
inductive DtsAt (N : Addr → Prop) (H : Hp) : List PyData → List V → Prop
  | nil : DtsAt N H [] []
  | cons {x : PyData} {u : V} {xs : List PyData} {us : List V} : DtAt N H x u → DtsAt N H xs us → DtsAt N H (x :: xs) (u :: us)
end
/-- what keeps things: tuples, dicts, and lists at places of N -/
def Kp (N : Addr → Prop) (H H' : Hp) : Prop := (∀ a us, H a = some (.tup us) → H' a = some (.tup us)) ∧ (∀ a us, N a → H a = some (.lst us) → H' a = some (.lst us)) ∧ ∀ a kvs, H a = some (.dK kvs) → H' a = some (.dK kvs)
theorem Kp.same {N : Addr → Prop} {H H' : Hp} (s : ∀ b o, H b = some o → H' b = some o) : Kp N H H' := ⟨fun a us h => s _ _ h, fun a us _ h => s _ _ h, fun a kvs h => s _ _ h⟩
mutual
theorem DtAt.kp {N : Addr → Prop} {H H' : Hp} (k : Kp N H H') : ∀ {d : PyData} {v : V}, DtAt N H d v → DtAt N H' d v
  | _, _, .non => .non
  | _, _, .bl b => .bl b
  | _, _, .int i => .int i
  | _, _, .str x => .str x
  | _, _, .tup h hs => .tup (k.1 _ _ h) (DtsAt.kp k hs)
  | _, _, .lst h n hs => .lst (k.2.1 _ _ n h) n (DtsAt.kp k hs)
  | _, _, .dct h => .dct (k.2.2 _ _ h)
theorem DtsAt.kp {N : Addr → Prop} {H H' : Hp} (k : Kp N H H') : ∀ {xs : List PyData} {us : List V}, DtsAt N H xs us → DtsAt N H' xs us
  | _, _, .nil => .nil
  | _, _, .cons h hs => .cons (DtAt.kp k h) (DtsAt.kp k hs)
end
theorem DtsAt.length {N : Addr → Prop} {H : Hp} : ∀ {xs : List PyData} {us : List V}, DtsAt N H xs us → xs.length = us.length
  | _, _, .nil => rfl
  | _, _, .cons _ hs => congrArg (· + 1) hs.length
theorem DtsAt.get {N : Addr → Prop} {H : Hp} : ∀ {xs : List PyData} {us : List V} {i : Nat} {u : V}, DtsAt N H xs us → us[i]? = some u → ∃ d, xs[i]? = some d ∧ DtAt N H d u
  | _, _, 0, _, .cons h _, e => by cases e; exact ⟨_, rfl, h⟩
  | _, _, i + 1, _, .cons _ hs, e => hs.get (i := i) (by simpa using e)
  | _, _, _, _, .nil, e => by simp at e
theorem DtsAt.append {N : Addr → Prop} {H : Hp} : ∀ {xs ys : List PyData} {us vs : List V}, DtsAt N H xs us → DtsAt N H ys vs → DtsAt N H (xs ++ ys) (us ++ vs)
  | _, _, _, _, .nil, h => h
  | _, _, _, _, .cons h hs, h' => .cons h (hs.append h')
section
variable {X : Cx}
end
end L2

set_option Elab.async false
set_option linter.all false
set_option maxRecDepth 100000
set_option maxHeartbeats 1000000
namespace L2
open PySem PySem.Spec PyProof.Rows
section
variable {X : Cx}
theorem op_mulG : OpR X (binaryOp .Mult) (rI IntMulOk fun i j => .int (i * j)) := opI fun _ _ _ _ _ _ _ hc q => mul_int q hc
/-- tuples with these texts first -/
inductive FstAt (H : Hp) : List Addr → List Str → Prop
  | nil : FstAt H [] []
  | cons {a : Addr} {x : Str} {us : List V} {rs : List Addr} {ss : List Str} : H a = some (.tup (.str x :: us)) → FstAt H rs ss → FstAt H (a :: rs) (x :: ss)
theorem fst_tups {pins : List (Addr × Obj)} {σ : St} {H : Hp} {s : Shared} (I : Inv X pins σ H s) : ∀ {rs : List Addr} {ss : List Str}, FstAt H rs ss → Zp.TupsAt s.heap (rs.map Value.ref) ss
  | _, _, .nil => .nil
  | _, _, .cons (a := a) h r => by
    obtain ⟨its, rv, ⟨o, h1, h2, n, h3⟩, hz⟩ := I.tuple (SqT.of h)
    cases rv with
    | cons r0 rr =>
      obtain ⟨t, rfl⟩ := r0
      exact .cons (t := t) h1 h2 h3 (by simp) (fst_tups I r)
theorem vals_refs : ∀ {rs : List Addr} {us : List Value}, Vals (rs.map V.ref) us → us = rs.map Value.ref
  | [], _, r => by cases r; rfl
  | a :: rs, _, r => by
    cases r with
    | cons h t =>
      cases h
      rw [vals_refs t]
      rfl
theorem refs_vals2 : ∀ (rs : List Addr), Vals (rs.map V.ref) (rs.map Value.ref)
  | [] => .nil
  | a :: rs => .cons rfl (refs_vals2 rs)
/-- sorted(l), l a list of at most three tuples, their first items unlike texts -/
def rSortT (K : PySem.W.Frag) : List V → Hp → VK → Prop := fun xs H Q => ∃ (a : Addr) (rs : List Addr) (ss : List Str), xs = [.ref a] ∧ SqL K H a (rs.map V.ref) ∧ rs.length ≤ 3 ∧ FstAt H rs ss ∧ ss.Nodup ∧ ∀ (l : Addr) (out : List Addr), H l = none → out.Perm rs → Q (.ref l) (upd H l (.lst (out.map V.ref)))
theorem call_sortedT : CallR X (.builtin "sorted") (rSortT X.K) := by
  intro pins s σ H xs us Q I r h
  obtain ⟨a, rs, ss, rfl, ha, h3, hF, hd, q⟩ := h
  obtain ⟨u, rfl, rx⟩ := vals1 r
  cases (show u = Value.ref a from rx)
  obtain ⟨its, rv, pl, hz⟩ := I.list ha
  cases vals_refs rv
  have big : s.heap.objs.size ≤ s.heap.objs.size + 1 := Nat.le_succ _
  refine Zp.sorted_tups pl.isList (by simpa using h3) (fst_tups I hF) hd fun out hp => ?_
  have mem : ∀ v ∈ out.toList, ∃ b, v = Value.ref b := fun v hv => by
    obtain ⟨b, _, e⟩ := List.mem_map.mp (hp.mem_iff.mp hv)
    exact ⟨b, e.symm⟩
  let g : Value → Addr := fun v => match v with | .ref b => b | _ => 0
  have e1 : (out.toList.map g).map Value.ref = out.toList := by
    rw [List.map_map]
    conv => rhs; rw [← List.map_id out.toList]
    refine List.map_congr_left fun v hv => ?_
    obtain ⟨b, rfl⟩ := mem v hv
    rfl
  have e2 : (out.toList.map g).Perm rs := by
    have := hp.map g
    rw [List.map_map] at this
    have e : rs.map (g ∘ Value.ref) = rs := by
      conv => rhs; rw [← List.map_id rs]
      exact List.map_congr_left fun v _ => rfl
    rw [e] at this
    exact this
  obtain ⟨e, he⟩ := sortedAll_at s.heap (rs.map Value.ref) out
  refine ⟨.ref (s.heap.objs.size + 1), _, I.laid (a := s.heap.objs.size + 1) (o := .lst ((out.toList.map g).map V.ref)) (h' := sortedAll s.heap (rs.map Value.ref) out) (t' := s.toks) (fun b o hb => sortedAll_old hb) big ⟨?_, out.toList, e, ?_, ?_⟩, rfl, q _ _ (I.hok.fresh big) e2⟩
  · rw [List.length_map, e2.length_eq]
    exact Nat.le_trans h3 (by decide)
  · have := refs_vals2 (out.toList.map g)
    rw [e1] at this
    exact this
  · simpa using he
end
end L2
namespace L2
open PySem PySem.Spec PyProof.Rows
/-- x, y = a pair -/
def gTwo (K : PySem.W.Frag) (i j : Nat) : TG := fun v σ H Q => ∃ a u w, v = .ref a ∧ SqT K H a [u, w] ∧ Q ((σ.set i (some u)).set j (some w)) H
theorem pg_two {X : Cx} {K : PySem.W.Frag} {i j k : Nat} {x y : Str} {px py pos : Pos} (hK : X.K = K) (hc : X.calm = true) (hN : X.N.Nodup) (hi : X.N[i]? = some x) (hj : X.N[j]? = some y) (hx : L2.Loc X.env.scope x) (hy : L2.Loc X.env.scope y)
    (hf : X.fn x = true ∨ X.env.scope.names.lookup x = some .local) (hg : X.fn y = true ∨ X.env.scope.names.lookup y = some .local) : PG X (.Tuple [.Name x px, .Name y py] k pos) (gTwo K i j) := fun pins s σ H v u Q I r ⟨a, u1, w1, e, ha, q⟩ => by
  subst hK
  exact pg_tup hc (pgs_cons (pg_name hN hi hx hf) (pgs_cons (pg_name hN hj hy hg) pgs_nil)) (by rfl) (by rfl) pins s σ H v u Q I r ⟨a, [u1, w1], e, ha, rfl, u1, [w1], rfl, w1, [], rfl, rfl, q⟩
end L2

set_option Elab.async false
set_option linter.all false
set_option maxRecDepth 100000
set_option maxHeartbeats 1000000
namespace L2
open PySem PySem.Spec PyProof.Rows
/-! rules whose reading names the known part of the heap by a name that no comprehension's block hides -/
section
variable {X : Cx} {K : PySem.W.Frag}
theorem ix_tupK (hK : X.K = K) : IxR X (rIxT K) := by subst hK; exact ix_tup
theorem ix_listK (hK : X.K = K) : IxR X (rIxL K) := by subst hK; exact ix_list
def rLenS (K : PySem.W.Frag) : List V → Hp → VK → Prop := fun xs H Q => ∃ p ys, xs = [.ref p] ∧ (SqL K H p ys ∨ SqT K H p ys) ∧ Q (.int ys.length) H
theorem call_lenK (hK : X.K = K) : CallR X (.builtin "len") (rLenS K) := by subst hK; exact call_len_seq
end
end L2
namespace L2
open PySem PySem.Spec PyProof.Rows
section
variable {X : Cx}
/-- xs[k], k not negative, as += asks it -/
theorem get_list : PGet X (fun x y H Q => ∃ p xs k v, x = .ref p ∧ y = .int ((k : Nat) : Int) ∧ SqL X.K H p xs ∧ xs[k]? = some v ∧ Q v H) := by
  intro pins s σ H x y v u Q I rx ry h
  obtain ⟨p, xs, k, z, rfl, rfl, hq, he, q⟩ := h
  cases rx
  obtain ⟨t, rfl⟩ := ry
  obtain ⟨its, r, pl, hz⟩ := I.list hq
  obtain ⟨w', ew, rw'⟩ := r.get he
  have hk : k < xs.length := (List.getElem?_eq_some_iff.mp he).1
  have hn := line63
  exact wpAny_getItem_list pl.isList (x := w') (Int.natCast_nonneg k) (by omega) (by simpa using ew) ⟨z, H, I, rw', q⟩
end
end L2
namespace L2
open PySem PySem.Spec PyProof.Rows
section
variable {X : Cx} {K : PySem.W.Frag} {o e : Expr} {es : List Expr} {to : TE} {t : TA} {name : Str} {apos cpos : Pos} {T id : String} {r : V → List V → Hp → VK → Prop}
theorem pe_bmK {c : Expr} (hK : X.K = K) (h : PE X c (tBM X.K T r to t)) : PE X c (tBM K T r to t) := by subst hK; exact h
end
end L2
namespace L2
open PySem PySem.Spec PyProof.Rows
section
variable {X : Cx}
/-- a list != [], whatever is in it -/
def rNeNil (K : PySem.W.Frag) : R2 := fun x y H Q => ∃ a b xs, x = .ref a ∧ y = .ref b ∧ SqL K H a xs ∧ SqL K H b [] ∧ Q (.bl (!xs.isEmpty)) H
theorem op_neNil (hu : X.A.units < cLine) : OpR X (compareOp .NotEq) (rNeNil X.K) := by
  intro pins s σ H x y v u Q I rx ry h
  obtain ⟨a, b, xs, rfl, rfl, ha, hb, q⟩ := h
  cases xs with
  | nil => exact op_neL hu pins s σ H _ _ v u Q I rx ry ⟨a, b, [], [], rfl, rfl, ha, hb, rfl, rfl, q⟩
  | cons z zs =>
    cases rx
    cases ry
    obtain ⟨its, r, pl, hz⟩ := I.list ha
    obtain ⟨jts, r', pl', hz'⟩ := I.list hb
    have l1 := r.length
    have l2 := r'.length
    exact SeqAt.RcNeAt.lists_lengths pl.isList pl'.isList (by simp [← l1, ← l2]) hu _ _ _ _ ⟨.bl true, H, I, rfl, q⟩
end
end L2

set_option Elab.async false
set_option linter.all false
set_option maxRecDepth 100000
set_option maxHeartbeats 4000000
namespace HT
open PySem PySem.Spec PyProof.Rows
section
variable {prog : Program} {w : World} {A : Around} {E : Value → Shared → Prop} {s : Shared}
theorem sliceApplied_back {sl : Addr} {t : Tok} {n : Nat} {Q : Int × Int × Nat → Shared → Prop} (hs : s.heap.IsSliceOf sl .none .none (.int (-1) t))
    (h : Q ((n : Int) - 1, -1, n) s) : wpAny (model prog w) A (Builtin.Slice.sliceApplied (.ref sl) (pure (n : Int))) Q E s := by
  obtain ⟨os, hos, hcs, hds⟩ := id hs
  unfold Builtin.Slice.sliceApplied Builtin.Slice.sliceFields
  refine wpAny_bind (wpAny_bind (wpAny_field hos hds (x := .none) rfl (wpAny_bind (wpAny_field hos hds (x := .none) rfl (wpAny_bind (wpAny_field hos hds (x := .int (-1) t) rfl (wpAny_pure ?_)))))))
  refine wpAny_bind (slicePart_int ?_)
  show wpAny _ _ (if ((-1 : Int) == 0) = true then _ else _) _ _ s
  rw [if_neg (by decide)]
  refine wpAny_bind (slicePart_none (wpAny_bind (slicePart_none (wpAny_bind (wpAny_pure ?_)))))
  have e : Builtin.Slice.slicePlaces ((n : Int) - 1) (-1) (-1) = n := by
    unfold Builtin.Slice.slicePlaces
    rw [if_neg (by decide)]
    split
    · rw [show (- -1 : Int) = 1 by decide, Int.ediv_one]; omega
    · omega
  show wpAny _ _ (pure ((n : Int) - 1, (-1 : Int), Builtin.Slice.slicePlaces ((n : Int) - 1) (-1) (-1))) _ _ s
  rw [e]
  exact wpAny_pure h
theorem pick_back (its : List Value) : ((List.range its.length).filterMap fun (k : Nat) => its.toArray[((its.length : Int) - 1 + (k : Int) * (-1)).toNat]?).toArray = its.reverse.toArray := by
  have e3 : ((List.range its.length).filterMap fun (k : Nat) => its.toArray[((its.length : Int) - 1 + (k : Int) * (-1)).toNat]?) = (List.range its.length).filterMap (fun k => its.reverse[k]?) := by
    refine L2.fm_congr fun k hk => ?_
    have hk' : k < its.length := List.mem_range.mp hk
    have : ((its.length : Int) - 1 + (k : Int) * (-1)).toNat = its.length - 1 - k := by omega
    rw [this, List.getElem?_reverse hk']
    simp
  rw [e3]
  have e4 : ∀ l : List Value, (List.range l.length).filterMap (fun k => l[k]?) = l := by
    intro l
    have : (List.range l.length).filterMap (fun k => l[k]?) = (List.range l.length).filterMap (some ∘ fun k => l.getD k .none) := by
      refine L2.fm_congr fun k hk => ?_
      have hk' : k < l.length := List.mem_range.mp hk
      simp [List.getD_eq_getElem?_getD, List.getElem?_eq_getElem hk']
    rw [this, List.filterMap_eq_map]
    refine List.ext_getElem (by simp) fun i h1 h2 => ?_
    simp [List.getD_eq_getElem?_getD, List.getElem?_eq_getElem h2]
  have := e4 its.reverse
  rw [List.length_reverse] at this
  rw [this]
theorem getItem_tuple_back {t sl : Addr} {its : List Value} {tk : Tok} {Q : Value → Shared → Prop} (ht : IsTup s.heap t its.toArray) (hs : s.heap.IsSliceOf sl .none .none (.int (-1) tk))
    (h : Q (.ref s.heap.objs.size) { s with heap := s.heap.push { cls := .type "tuple", data := .seq its.reverse.toArray } })
    (hsz : its.length ≤ sizeLine) : wpAny (model prog w) A (getItem (.ref t) (.ref sl)) Q E s := by
  have htake : sizeOk (.seq its.reverse.toArray) := by
    show its.reverse.toArray.size ≤ sizeLine
    rw [List.size_toArray, List.length_reverse]
    exact hsz
  obtain ⟨os, hos, hcs, hds⟩ := id hs
  have hTs : s.TypeIs (.ref sl) "slice" := ⟨os, hos, hcs⟩
  unfold getItem
  try with_reducible refine wpAny_holding ?_
  first | refine wpAny_bind (wpAny_pure ?_) | skip
  refine wpAny_bind (wpAny_sequenceKey ht.typeIs (by decide) ?_)
  refine wpAny_bind (wpAny_callSpecial?_slot (name := Str.ofString "__getitem__") ht.typeIs PyProof.Rows.slot_tuple_getitem
    (wpAny_call_entry PyProof.Rows.slot_tuple_getitem ht.typeIs entry_tuple_getitem ?_ (args_tuple_getitem _ _)))
  show wpAny _ _ (Builtin.Tuple.tupleItemsOf (.ref t) >>= _) _ _ s
  refine wpAny_bind (tupleItemsOf_ ht ?_)
  refine wpAny_bind (wpAny_typeOf hTs ?_)
  rw [if_pos (by decide)]
  refine wpAny_bind (sliceApplied_back (n := its.length) hs ?_)
  have hno : ¬ ((((its.length : Int) - 1) == 0 && (-1 : Int) == 1 && its.length == its.toArray.size) = true) := by
    intro q
    rw [Bool.and_eq_true, Bool.and_eq_true] at q
    exact absurd (eq_of_beq q.1.2) (by decide)
  show wpAny _ _ (if (((its.length : Int) - 1) == 0 && (-1 : Int) == 1 && its.length == its.toArray.size) = true then _ else _) _ _ s
  rw [if_neg hno, pick_back]
  first
    | exact wpAny_bind (m := Builtin.Tuple.tupleExact _) (wpAny_newObj_type (wpAny_pure ⟨_, rfl, wpAny_pure h⟩) htake)
    | exact wpAny_bind (m := Builtin.Tuple.tupleExact _) (wpAny_newObj_type (wpAny_bind (wpAny_pure (wpAny_pure ⟨_, rfl, wpAny_pure h⟩))) htake)
    | exact wpAny_bind (wpAny_bind (m := Builtin.Tuple.tupleExact _) (wpAny_newObj_type (wpAny_pure (wpAny_pure ⟨_, rfl, wpAny_pure h⟩)) htake))
    | exact wpAny_bind (wpAny_bind (m := Builtin.Tuple.tupleExact _) (wpAny_newObj_type (wpAny_pure ⟨_, rfl, wpAny_pure h⟩) htake))
theorem getItem_tuple_whole {t sl : Addr} {items : Array Value} {vl vu : Value} {lo hi : Option Int} {Q : Value → Shared → Prop} (ht : IsTup s.heap t items) (hs : s.heap.IsSliceOf sl vl vu .none) (pl : IsPart vl lo) (pu : IsPart vu hi)
    (hw : sIx items.size 0 lo = 0 ∧ sIx items.size items.size hi = items.size) (h : Q (.ref t) s) : wpAny (model prog w) A (getItem (.ref t) (.ref sl)) Q E s := by
  obtain ⟨os, hos, hcs, hds⟩ := id hs
  have hTs : s.TypeIs (.ref sl) "slice" := ⟨os, hos, hcs⟩
  unfold getItem
  try with_reducible refine wpAny_holding ?_
  first | refine wpAny_bind (wpAny_pure ?_) | skip
  refine wpAny_bind (wpAny_sequenceKey ht.typeIs (by decide) ?_)
  refine wpAny_bind (wpAny_callSpecial?_slot (name := Str.ofString "__getitem__") ht.typeIs PyProof.Rows.slot_tuple_getitem
    (wpAny_call_entry PyProof.Rows.slot_tuple_getitem ht.typeIs entry_tuple_getitem ?_ (args_tuple_getitem _ _)))
  show wpAny _ _ (Builtin.Tuple.tupleItemsOf (.ref t) >>= _) _ _ s
  refine wpAny_bind (tupleItemsOf_ ht ?_)
  refine wpAny_bind (wpAny_typeOf hTs ?_)
  rw [if_pos (by decide)]
  refine wpAny_bind (sliceApplied_gen hs pl pu ?_)
  have hyes : (((sIx items.size 0 lo : Nat) : Int) == 0 && (1 : Int) == 1 && (sIx items.size items.size hi - sIx items.size 0 lo) == items.size) = true := by
    rw [hw.1, hw.2]
    simp
  show wpAny _ _ (if (((sIx items.size 0 lo : Nat) : Int) == 0 && (1 : Int) == 1 && (sIx items.size items.size hi - sIx items.size 0 lo) == items.size) = true then _ else _) _ _ s
  rw [if_pos hyes]
  have ex : ∀ {A : Around} {E : Value → Shared → Prop} {R : Bool → Shared → Prop}, R true s → wpAny (model prog w) A (Builtin.Tuple.tupleIsExact (.ref t)) R E s := fun {A E R} h => by
    unfold Builtin.Tuple.tupleIsExact
    exact wpAny_bind (wpAny_typeOf ht.typeIs (wpAny_pure h))
  refine wpAny_bind (m := Builtin.Tuple.tupleIsExact _) (ex ?_)
  rw [if_pos rfl]
  refine wpAny_bind (wpAny_rule ?_)
  exact wpAny_pure ⟨_, rfl, wpAny_pure h⟩
end
end HT
namespace L2
open PySem PySem.Spec PyProof.Rows
/-- t[lo:hi] of a tuple, the whole of it or not -/
def rSlA (K : PySem.W.Frag) : V → Option Int → Option Int → Hp → VK → Prop := fun x lo hi H Q => ∃ a xs, x = .ref a ∧ SqT K H a xs ∧
  (HT.sIx xs.length 0 lo = 0 ∧ HT.sIx xs.length xs.length hi = xs.length → Q (.ref a) H) ∧ (¬ (HT.sIx xs.length 0 lo = 0 ∧ HT.sIx xs.length xs.length hi = xs.length) → ∀ p, H p = none → Q (.ref p) (upd H p (.tup (cutV xs lo hi))))
theorem sl_tupA {X : Cx} : SlR X (rSlA X.K) := by
  intro pins s σ H x v vl vu lo hi sl Q I rx hs pl pu h
  obtain ⟨a, xs, rfl, hx, q1, q2⟩ := h
  by_cases hw : HT.sIx xs.length 0 lo = 0 ∧ HT.sIx xs.length xs.length hi = xs.length
  · cases rx
    obtain ⟨its, r, ht, hz⟩ := I.tuple hx
    have hlen : its.toArray.size = xs.length := by rw [List.size_toArray]; exact r.length.symm
    refine ⟨"tuple", _, PyProof.Rows.slot_tuple_getitem.lookup, ht.typeIs, ?_⟩
    exact HT.getItem_tuple_whole ht hs pl pu (by rw [hlen]; exact hw) ⟨.ref a, H, I, rfl, q1 hw⟩
  · exact sl_tup pins s σ H _ v vl vu lo hi sl Q I rx hs pl pu ⟨a, xs, rfl, hx, hw, q2 hw⟩
def tRevT (K : PySem.W.Frag) (te ts : TE) : TE := fun σ H Q => te σ H fun x H1 => ts σ H1 fun y H2 => y = .int (-1) ∧ ∃ a xs, x = .ref a ∧ SqT K H2 a xs ∧ ∀ p, H2 p = none → Q (.ref p) (upd H2 p (.tup xs.reverse))
theorem pe_revT {X : Cx} {e st : Expr} {te ts : TE} {p2 pos : Pos} (he : PE X e te) (hs : PE X st ts) : PE X (.Subscript e (.Slice none none (some st) p2) pos) (tRevT X.K te ts) := by
  intro pins s σ H Q I h
  refine Subscript_ (thn (he pins s σ H _ I h) fun v s1 ⟨x, H1, I1, r1, q1⟩ => ?_)
  refine wpAny_Slice ?_
  rw [evalPart_none, evalPart_some]
  refine wpAny_pure (wpAny_pure (thn (hs pins s1 σ H1 _ I1 q1) fun vs s3 ⟨y, H3, I3, ry, ey, a, xs, ex, hx, q⟩ => ?_))
  subst ey ex
  cases (show v = Value.ref a from r1)
  obtain ⟨t, rfl⟩ := (show ∃ t, vs = Value.int (-1) t from ry)
  have I4 : Inv X pins σ H3 { s3 with heap := s3.heap.push { cls := .type "slice", data := .fields #[.none, .none, .int (-1) t] } } := I3.kept (t' := s3.toks) fun b ob q => Heap.get?_push_of_some _ q
  obtain ⟨its, r, ht, hz⟩ := I4.tuple hx
  show wpAny (model X.prog X.w) X.A (subscriptTail e (.Slice none none (some st) p2) (.ref a) (.ref s3.heap.objs.size)) (EP X pins σ Q) X.xe { s3 with heap := s3.heap.push { cls := .type "slice", data := .fields #[.none, .none, .int (-1) t] } }
  refine tail_any (ops := [.ref a, .ref s3.heap.objs.size]) ht.typeIs PyProof.Rows.slot_tuple_getitem.lookup (HT.getItem_tuple_back ht (Heap.IsSliceOf.new ..) ?_ (by have := r.length; omega)) (by with_unfolding_all rfl)
  refine ⟨.ref _, _, I4.laid (t' := s3.toks) (o := .tup xs.reverse) (fun b ob q => Heap.get?_push_of_some _ q) (Nat.le_refl _) ?_, rfl, q _ I4.fresh⟩
  exact ⟨by rw [List.length_reverse]; exact hz, _, r.reverse, IsTup.new _ _⟩
end L2

set_option Elab.async false
set_option linter.all false
set_option maxRecDepth 100000
set_option maxHeartbeats 4000000
namespace Kx
open PySem L2
/-! ### sums as trees -/
inductive Tr where
  | num (i : Int) | wd (x : Str) | waits (x : Str) | neg (a : Tr) | two (f : Str) (a b : Tr)
end Kx
namespace Kx
open PySem L2
end Kx
namespace Kx
open PySem L2
end Kx
namespace Kx
open PySem L2
theorem free_upd {H : Hp} {a b : Addr} {o : HO} (e : upd H a o b = none) : H b = none := by
  by_cases z : b = a
  · rw [z, upd_same] at e; cases e
  · rw [upd_ne z] at e; exact e
theorem same_upd {H : Hp} {p : Addr} (h : H p = none) (o : HO) : Same H (upd H p o) := fun b u q => by rw [upd_ne (ne_of_none q h)]; exact q
end Kx

set_option Elab.async false
set_option linter.all false
set_option maxRecDepth 100000
set_option maxHeartbeats 4000000
namespace K14
open PySem L2 PyProof.Rows
open Kx (same_upd free_upd)
def top (i : Nat) : Stmt := PySem.Challenge.pw_calledroom_k14_all_out_at_first.main.body.getD i (.Pass ⟨0, 0, 0, 0⟩)
abbrev sVals : Stmt := top 3
abbrev sBegun : Stmt := top 4
abbrev sBRoom : Stmt := top 5
/-! what a world is, as far as its first scene asks -/
def PairR (H : Hp) (u : V) (v : Int) : Prop := ∃ r w, u = .ref r ∧ H r = some (.tup [w, .int v])
def Two (H : Hp) (bs : List V) : Prop := ∀ v ∈ bs, ∃ a x y, v = .ref a ∧ H a = some (.tup [x, y])
structure RoomD where
  vals : List Int
  nb : Nat
def RoomR (H : Hp) (u : V) (d : RoomD) : Prop := ∃ a n m t b e us bs, u = .ref a ∧ H a = some (.tup [.str n, m, .ref t, .ref b, e]) ∧ H t = some (.tup us) ∧ Paired (PairR H) us d.vals ∧ H b = some (.tup bs) ∧ bs.length = d.nb ∧ d.vals.length ≤ 1000 ∧ d.nb ≤ 1000 ∧ Two H bs
def HandR (H : Hp) (u : V) (d : List Int) : Prop := ∃ a t p us, u = .ref a ∧ H a = some (.tup [.ref t, .ref p]) ∧ H t = some (.tup us) ∧ Paired (PairR H) us d ∧ d.length ≤ 1000 ∧ ∃ pr, H p = some (.tup pr) ∧ 0 < pr.length
structure WorldD where
  rooms : List RoomD
  passes : List Int
  shared : List Int
  hands : List (List Int)
structure WorldAt (H : Hp) (w : Addr) (d : WorldD) : Prop where
  at_ : ∃ r p s h rs ps ss hs, H w = some (.tup [.ref r, .ref p, .ref s, .ref h]) ∧ H r = some (.tup rs) ∧ Paired (RoomR H) rs d.rooms ∧ H p = some (.tup ps) ∧ Paired (PairR H) ps d.passes ∧ H s = some (.tup ss) ∧ Paired (PairR H) ss d.shared ∧ H h = some (.tup hs) ∧ Paired (HandR H) hs d.hands
  l1 : d.rooms.length ≤ 1000
  l2 : d.passes.length ≤ 1000
  l3 : d.shared.length ≤ 1000
  l4 : d.hands.length ≤ 1000
/-- tuples stay -/
def Tk (H H' : Hp) : Prop := ∀ a us, H a = some (.tup us) → H' a = some (.tup us)
theorem Tk.same {H H' : Hp} (s : Same H H') : Tk H H' := fun a us h => s _ _ h
theorem Tk.trans {H H1 H2 : Hp} (a : Tk H H1) (b : Tk H1 H2) : Tk H H2 := fun c us h => b _ _ (a _ _ h)
theorem PairR.tk {H H' : Hp} (k : Tk H H') {u : V} {v : Int} : PairR H u v → PairR H' u v := fun ⟨r, w, e, h⟩ => ⟨r, w, e, k _ _ h⟩
theorem pairs_tk {H H' : Hp} (k : Tk H H') {us : List V} {vs : List Int} (h : Paired (PairR H) us vs) : Paired (PairR H') us vs := L2.Paired.mapP h fun _ _ z => z.tk k
theorem Two.tk {H H' : Hp} {bs : List V} (h : Two H bs) (k : Tk H H') : Two H' bs := fun v hv => by
  obtain ⟨a, x, y, e, z⟩ := h v hv
  exact ⟨a, x, y, e, k _ _ z⟩
theorem RoomR.tk {H H' : Hp} (k : Tk H H') {u : V} {d : RoomD} : RoomR H u d → RoomR H' u d := fun ⟨a, n, m, t, b, e, us, bs, e1, h1, h2, h3, h4, h5, h6, h7, h8⟩ => ⟨a, n, m, t, b, e, us, bs, e1, k _ _ h1, k _ _ h2, pairs_tk k h3, k _ _ h4, h5, h6, h7, h8.tk k⟩
theorem HandR.tk {H H' : Hp} (k : Tk H H') {u : V} {d : List Int} : HandR H u d → HandR H' u d := fun ⟨a, t, p, us, e1, h1, h2, h3, h4, pr, h5, h6⟩ => ⟨a, t, p, us, e1, k _ _ h1, k _ _ h2, pairs_tk k h3, h4, pr, k _ _ h5, h6⟩
theorem WorldAt.tk {H H' : Hp} {w : Addr} {d : WorldD} (h : WorldAt H w d) (k : Tk H H') : WorldAt H' w d := by
  obtain ⟨⟨r, p, s, h, rs, ps, ss, hs, h0, h1, h2, h3, h4, h5, h6, h7, h8⟩, l1, l2, l3, l4⟩ := h
  exact ⟨⟨r, p, s, h, rs, ps, ss, hs, k _ _ h0, k _ _ h1, L2.Paired.mapP h2 fun _ _ z => z.tk k, k _ _ h3, pairs_tk k h4, k _ _ h5, pairs_tk k h6, k _ _ h7, L2.Paired.mapP h8 fun _ _ z => z.tk k⟩, l1, l2, l3, l4⟩
theorem paired_len {α β : Type} {F : α → β → Prop} : ∀ {l : List α} {m : List β}, Paired F l m → l.length = m.length
  | _, _, .nil => rfl
  | _, _, .cons _ t => congrArg (· + 1) (paired_len t)
theorem paired_get {α β : Type} {F : α → β → Prop} : ∀ {l : List α} {m : List β} {i : Nat} {a : α}, Paired F l m → l[i]? = some a → ∃ b, m[i]? = some b ∧ F a b
  | _, _, 0, _, .cons h _, e => by cases e; exact ⟨_, rfl, h⟩
  | _, _, i + 1, _, .cons _ t, e => paired_get (i := i) t (by simpa using e)
  | _, _, _, _, .nil, e => by simp at e
/-! the scene -/
def N0 : Addr → Prop := fun _ => False
def intsD (vs : List Int) : PyData := .tuple (vs.map .int)
def ownD : PyData := .tuple [.int (-1), .int (-1), .int 0, .int 0, .int 0]
def roomD (d : RoomD) : PyData := .tuple [intsD d.vals, .int (-1), .tuple [], .tuple [], .tuple (List.replicate d.nb (.tuple []))]
def passD (v : Int) : PyData := .tuple [.int v, .tuple []]
def handD (vs : List Int) : PyData := .tuple [intsD vs, .tuple [ownD]]
def sceneD (d : WorldD) : PyData := .tuple [.tuple (d.rooms.map roomD), .tuple (d.passes.map passD), intsD d.shared, .tuple (d.hands.map handD)]
theorem ints_dts {H : Hp} : ∀ vs : List Int, DtsAt N0 H (vs.map .int) (vs.map V.int)
  | [] => .nil
  | v :: vs => .cons (.int v) (ints_dts vs)
theorem s1000 {n : Nat} (h : n ≤ 1000) : n < sizeLine := small1000 h
section
variable {P : Program} {w : World} {K : PySem.W.Frag} {mg : Str → Option Value} {base : Heap} {f g : Addr} {fd gd : FuncData}
def spVals : Sp := fun vs H Q _ => ∃ (a : Addr) (us : List V) (xs : List Int), vs = [.ref a] ∧ H a = some (.tup us) ∧ Paired (PairR H) us xs ∧ xs.length ≤ 1000 ∧ ∀ b H', H' b = some (.tup (xs.map V.int)) → Same H H' → (∀ b, H' b = none → H b = none) → Q (.ref b) H'
theorem scVals : FnScope ["things"] ["things"] (defScope sVals) := ⟨rfl, rfl, rfl, by decide +kernel, rfl, by decide +kernel, by decide +kernel⟩
theorem ok_vals (F : Fun K "values_of" "values_of" sVals f fd) (ht : mg "tuple" = none) : FnOk P w K mg base CX0 1 f fd ["things"] spVals := by
  refine F.ok scVals (fun vs H Q E h => ?_) (fun cdv A outer s H vs Q E hr h => ?_)
  · obtain ⟨a, us, xs, rfl, _⟩ := h
    rfl
  obtain ⟨a, us, xs, rfl, ha, hp, hl, q⟩ := h
  have ndc : (["word", "value"] : List Str).Nodup := by decide +kernel
  refine ⟨_, pss_one (ps_ret (pe_callTy call_tuple_of rfl ht PyProof.Rows.boot_tuple (pa_cons (pe_comp (N := ["word", "value"]) (CompScope.plain rfl (by decide +kernel) (by decide +kernel) (by decide +kernel)) rfl (pi_tup (pv 0))
    (fun C s H fp => pg_two (K := K) (i := 0) (j := 1) rfl rfl ndc rfl rfl (Or.inl rfl) (Or.inl rfl) (Or.inr rfl) (Or.inr rfl)) (fun C s H fp => pf_nil) (fun C s H fp => pv 1)) pa_nil))), ?_⟩
  have hlen := paired_len hp
  refine ⟨_, rfl, a, rfl, ⟨_, SqT.of ha⟩, fun D hD => ?_⟩
  refine comp_tup (K := K) (a := a) (xs := us) (fun i σ' H' => ∃ v0 v1 : Option V, σ' = [v0, v1] ∧ H' = upd H D (.lst ((xs.take i).map V.int))) ⟨none, none, rfl, rfl⟩ ?_ ?_ ?_
  · rintro i σ' H' _ ⟨v0, v1, rfl, rfl⟩
    exact SqT.of (same_upd hD _ _ _ ha)
  · rintro i u σ' H' hi ⟨v0, v1, rfl, rfl⟩
    obtain ⟨x, hx, r, wd, rfl, hr⟩ := paired_get hp hi
    refine ⟨r, _, _, rfl, SqT.of (same_upd hD _ _ _ hr), _, rfl, _, upd_same, ?_, _, _, rfl, ?_⟩
    · rw [List.length_map, List.length_take]
      exact s1000 (by omega)
    · rw [upd_upd, List.take_add_one, hx, List.map_append]
      rfl
  · rintro σ' H' ⟨v0, v1, rfl, rfl⟩
    refine ⟨D, _, rfl, .inl ⟨SqL.of upd_same, fun l hl => ?_⟩⟩
    have e : xs.take us.length = xs := List.take_of_length_le (by omega)
    rw [e]
    rw [e] at hl
    exact q l _ upd_same (fun b o z => same_upd hl _ _ _ (same_upd hD _ _ _ z)) fun b z => free_upd (free_upd z)
end
end K14

set_option Elab.async false
set_option linter.all false
set_option maxRecDepth 100000
set_option maxHeartbeats 4000000
namespace K14
open PySem L2 PyProof.Rows
open Kx (same_upd free_upd)
section
variable {P : Program} {w : World} {K : PySem.W.Frag} {mg : Str → Option Value} {base : Heap} {f gV gR : Addr} {fd dV dR : FuncData}
def spBRoom : Sp := fun vs H Q _ => ∃ (u : V) (d : RoomD), vs = [u] ∧ RoomR H u d ∧ ∀ v H', DtAt N0 H' (roomD d) v → Same H H' → (∀ b, H' b = none → H b = none) → Q v H'
theorem scBRoom : FnScope ["room", "name", "manner", "things", "bells", "deeds"] ["room"] (defScope sBRoom) := ⟨rfl, rfl, rfl, by decide +kernel, rfl, by decide +kernel, by decide +kernel⟩
theorem ok_broom {tN : Tok} (F : Fun K "begun_room" "begun_room" sBRoom f fd) (ht : mg "tuple" = none) (hN : mg "NOBODY" = some (.int (-1) tN))
    (GV : FnOk P w K mg base CX0 1 gV dV ["things"] spVals) (bV : Binds K dV ["things"] []) (kV : PySem.W.keepIn K (.ref gV) = true) (mV : mg "values_of" = some (.ref gV)) : FnOk P w K mg base CX0 2 f fd ["room"] spBRoom := by
  refine F.ok scBRoom (fun vs H Q E h => ?_) (fun cdv A outer s H vs Q E hr h => ?_)
  · obtain ⟨u, d, rfl, _⟩ := h
    rfl
  obtain ⟨u, d, rfl, hR, q⟩ := h
  have nd := scBRoom.nd
  have ndc : (["bell"] : List Str).Nodup := by decide +kernel
  refine ⟨_, pss_cons (ps_asg (pv 0) (pg_tup rfl (pgs_cons (pg_name (i := 1) nd rfl (Or.inl rfl)) (pgs_cons (pg_name (i := 2) nd rfl (Or.inl rfl)) (pgs_cons (pg_name (i := 3) nd rfl (Or.inl rfl)) (pgs_cons (pg_name (i := 4) nd rfl (Or.inl rfl)) (pgs_cons (pg_name (i := 5) nd rfl (Or.inl rfl)) pgs_nil)))))))
    (pss_one (ps_ret (pe_tup (pa_cons (pe_call GV hr rfl mV kV bV .nil pass0 (pa_cons (pv 3) pa_nil)) (pa_cons (pe_glob (v := .int (-1)) rfl hN ⟨_, rfl⟩) (pa_cons (pe_tup pa_nil) (pa_cons (pe_tup pa_nil)
      (pa_cons (pe_callTy call_tuple_of rfl ht PyProof.Rows.boot_tuple (pa_cons (pe_comp (N := ["bell"]) (CompScope.plain rfl (by decide +kernel) (by decide +kernel) (by decide +kernel)) rfl (pi_tup (pv 4)) (fun C s H fp => pg_name (i := 0) ndc rfl (Or.inl rfl)) (fun C s H fp => pf_nil) (fun C s H fp => pe_tup pa_nil)) pa_nil)) pa_nil)))))))), ?_⟩
  obtain ⟨a, n, m, t, b, e, us, bs, rfl, h1, h2, h3, h4, h5, h6, h7, _⟩ := hR
  refine ⟨_, rfl, a, _, rfl, SqT.of h1, rfl, _, _, rfl, _, _, rfl, _, _, rfl, _, _, rfl, _, _, rfl, rfl, ?_⟩
  refine ⟨_, rfl, t, us, d.vals, rfl, h2, h3, h6, fun c1 H1 e1 s1 f1 => ?_⟩
  refine ⟨Nat.zero_le _, fun c2 k2 => ⟨Nat.zero_le _, fun c3 k3 => ?_⟩⟩
  have sA : Same H1 (upd (upd H1 c2 (.tup [])) c3 (.tup [])) := fun x o z => same_upd k3 _ _ _ (same_upd k2 _ _ _ z)
  have e2 : upd (upd H1 c2 (.tup [])) c3 (.tup []) c2 = some (.tup []) := same_upd k3 _ _ _ upd_same
  have e3 : upd (upd H1 c2 (.tup [])) c3 (.tup []) c3 = some (.tup []) := upd_same
  have f2 : ∀ x, upd (upd H1 c2 (.tup [])) c3 (.tup []) x = none → H1 x = none := fun x z => free_upd (free_upd z)
  generalize upd (upd H1 c2 (.tup [])) c3 (.tup []) = H2 at sA e2 e3 f2 ⊢
  have h4' := sA _ _ (s1 _ _ h4)
  refine ⟨_, rfl, b, rfl, ⟨_, SqT.of h4'⟩, fun D hD => ?_⟩
  refine comp_tup (K := K) (a := b) (xs := bs) (fun i σ' H' => ∃ (v0 : Option V) (cs : List V), σ' = [v0] ∧ H' D = some (.lst cs) ∧ DtsAt N0 H' (List.replicate i (.tuple [])) cs ∧ (∀ x o, H2 x = some o → H' x = some o) ∧ ∀ x, H' x = none → H2 x = none)
    ⟨none, [], rfl, upd_same, .nil, same_upd hD _, fun x z => free_upd z⟩ (fun i σ' H' _ ⟨_, _, _, _, _, k, _⟩ => SqT.of (k _ _ h4')) ?_ ?_
  · rintro i u σ' H' hi ⟨v0, cs, rfl, gD, hc, kk, fk⟩
    have hil : i < bs.length := (List.getElem?_eq_some_iff.mp hi).1
    have hcl := hc.length
    refine ⟨Nat.zero_le _, fun r hr => ⟨_, same_upd hr _ _ _ gD, ?_, _, _, rfl, upd_same, ?_, fun x o z => ?_, fun x z => fk x (free_upd (free_upd z))⟩⟩
    · rw [← hcl, List.length_replicate]
      exact s1000 (by omega)
    · have nr : r ≠ D := fun z => by rw [z, gD] at hr; cases hr
      rw [List.replicate_succ']
      have kp : Kp N0 H' (upd (upd H' r (.tup [])) D (.lst (cs ++ [.ref r]))) := by
        have aux : ∀ x o, x ≠ D → H' x = some o → upd (upd H' r (.tup [])) D (.lst (cs ++ [.ref r])) x = some o := fun x o hx z => by
          rw [upd_ne hx]
          exact same_upd hr _ _ _ z
        refine ⟨fun x us z => aux x _ (fun y => by rw [y, gD] at z; cases z) z, fun x us n z => n.elim, fun x us z => aux x _ (fun y => by rw [y, gD] at z; cases z) z⟩
      refine (hc.kp kp).append (.cons (.tup ?_ .nil) .nil)
      rw [upd_ne nr]
      exact upd_same
    · rw [upd_ne (ne_of_none z hD)]
      exact same_upd hr _ _ _ (kk _ _ z)
  · rintro σ' H' ⟨v0, cs, rfl, gD, hc, kk, fk⟩
    refine ⟨D, _, rfl, .inl ⟨SqL.of gD, fun l hl => ⟨(by show 5 ≤ sizeLine; decide), fun z hz => ?_⟩⟩⟩
    have sl := same_upd hl (.tup cs)
    have sz := same_upd hz (.tup [.ref c1, .int (-1), .ref c2, .ref c3, .ref l])
    have S : Same H2 _ := fun x o y => sz _ _ (sl _ _ (kk _ _ y))
    have S' : Same H' _ := fun x o y => sz _ _ (sl _ _ y)
    rw [show bs.length = d.nb from h5] at hc
    refine q (.ref z) _ (.tup upd_same (.cons (.tup (S _ _ (sA _ _ e1)) (ints_dts _)) (.cons (.int _) (.cons (.tup (S _ _ e2) .nil) (.cons (.tup (S _ _ e3) .nil) (.cons (.tup (sz _ _ upd_same) (hc.kp (Kp.same S'))) .nil)))))) (fun x o y => S _ _ (sA _ _ (s1 _ _ y))) fun x y => f1 x (f2 x (fk x (free_upd (free_upd y))))
end
end K14

set_option Elab.async false
set_option linter.all false
set_option maxRecDepth 100000
set_option maxHeartbeats 4000000
namespace K14
open PySem L2 PyProof.Rows
open Kx (same_upd free_upd)
theorem kp_acc {H' : Hp} {D : Addr} {cs : List V} {H5 : Hp} {o : HO} (gD : H' D = some (.lst cs)) (s : Same H' H5) : Kp N0 H' (upd H5 D o) := by
  have aux : ∀ x u, x ≠ D → H' x = some u → upd H5 D o x = some u := fun x u hx z => by
    rw [upd_ne hx]
    exact s _ _ z
  exact ⟨fun x us z => aux x _ (fun y => by rw [y, gD] at z; cases z) z, fun x us n z => n.elim, fun x us z => aux x _ (fun y => by rw [y, gD] at z; cases z) z⟩
theorem dt_acc {H5 : Hp} {D : Addr} {cs : List V} {o : HO} {d : PyData} {v : V} (gD : H5 D = some (.lst cs)) (h : DtAt N0 H5 d v) : DtAt N0 (upd H5 D o) d v := h.kp (kp_acc gD (Same.refl _))
/-- a comprehension over a tuple of known things that makes data of each -/
theorem comp_data {α : Type} {R : Hp → V → α → Prop} {Fd : α → PyData} (rk : ∀ {H H' : Hp} {u : V} {d : α}, Same H H' → R H u d → R H' u d) {K : PySem.W.Frag} {H2 : Hp} {a D : Addr} {us : List V} {ds : List α} {g : TG} {te : TE} {Q : VK} {σ0 : L2.St} (S : L2.St → Prop) (h0 : S σ0)
    (ha : H2 a = some (.tup us)) (hp : Paired (R H2) us ds) (hl : ds.length ≤ 1000) (hD : H2 D = none)
    (hs : ∀ (u : V) (d : α) (σ' : L2.St) (H' : Hp) (k : L2.St → V → Hp → Prop), S σ' → R H' u d → Same H2 H' → (∀ σ3 y H5, S σ3 → DtAt N0 H5 (Fd d) y → Same H' H5 → (∀ b, H5 b = none → H' b = none) → k σ3 y H5) → g u σ' H' fun σ3 H3 => te σ3 H3 fun y H5 => k σ3 y H5)
    (hd : ∀ cs H', DtsAt N0 H' (ds.map Fd) cs → H' D = some (.lst cs) → (∀ x o, H2 x = some o → H' x = some o) → (∀ x, H' x = none → H2 x = none) → Q (.ref D) H') : CompW (Itt K a) g (fun _ H Q => Q true H) te Q D σ0 (upd H2 D (.lst [])) := by
  have hlen := paired_len hp
  refine comp_tup (K := K) (a := a) (xs := us) (fun i σ' H' => ∃ cs : List V, S σ' ∧ H' D = some (.lst cs) ∧ DtsAt N0 H' ((ds.take i).map Fd) cs ∧ (∀ x o, H2 x = some o → H' x = some o) ∧ ∀ x, H' x = none → H2 x = none)
    ⟨[], h0, upd_same, .nil, same_upd hD _, fun x z => free_upd z⟩ (fun i σ' H' _ ⟨_, _, _, _, k, _⟩ => SqT.of (k _ _ ha)) ?_ ?_
  · rintro i u σ' H' hi ⟨cs, hS, gD, hc, kk, fk⟩
    have hil : i < us.length := (List.getElem?_eq_some_iff.mp hi).1
    have hcl := hc.length
    obtain ⟨d, hdi, hR⟩ := paired_get hp hi
    refine hs u d σ' H' (fun σ3 y H5 => ∃ xs, H5 D = some (.lst xs) ∧ xs.length < sizeLine ∧ ∃ cs : List V, S σ3 ∧ upd H5 D (.lst (xs ++ [y])) D = some (.lst cs) ∧ DtsAt N0 (upd H5 D (.lst (xs ++ [y]))) ((ds.take (i + 1)).map Fd) cs ∧ (∀ x o, H2 x = some o → upd H5 D (.lst (xs ++ [y])) x = some o) ∧ ∀ x, upd H5 D (.lst (xs ++ [y])) x = none → H2 x = none) hS (rk kk hR) kk fun σ3 y H5 hS3 hy s5 f5 => ?_
    refine ⟨cs, s5 _ _ gD, ?_, _, hS3, upd_same, ?_, fun x o z => ?_, fun x z => fk x (f5 x (free_upd z))⟩
    · rw [← hcl, List.length_map, List.length_take]
      exact s1000 (by omega)
    · rw [List.take_add_one, hdi, List.map_append]
      exact (hc.kp (kp_acc gD s5)).append (.cons (dt_acc (s5 _ _ gD) hy) .nil)
    · rw [upd_ne (ne_of_none z hD)]
      exact s5 _ _ (kk _ _ z)
  · rintro σ' H' ⟨cs, hS, gD, hc, kk, fk⟩
    rw [show ds.take us.length = ds from List.take_of_length_le (by omega)] at hc
    exact hd cs H' hc gD kk fk
section
variable {P : Program} {w : World} {K : PySem.W.Frag} {mg : Str → Option Value} {base : Heap} {f gV gR : Addr} {fd dV dR : FuncData}
def spBegun : Sp := fun vs H Q _ => ∃ (a : Addr) (d : WorldD), vs = [.ref a] ∧ WorldAt H a d ∧ ∀ v H', DtAt N0 H' (sceneD d) v → Same H H' → (∀ b, H' b = none → H b = none) → Q v H'
theorem scBegun : FnScope ["world", "rooms", "passes", "shared", "hands", "own"] ["world"] (defScope sBegun) := ⟨rfl, rfl, rfl, by decide +kernel, rfl, by decide +kernel, by decide +kernel⟩
theorem caughtBegun {cdv : Value} {A : Around} {outer : List Env} {s : Shared} {H : Hp} {E : XK} :
    CompScope (cxOf CX0 P w K mg base ["world", "rooms", "passes", "shared", "hands", "own"] "begun" (defScope sBegun) f cdv A outer s H E).nox ["things", "program", "own"] [none, none, some 5]
      { kind := .function, names := [(".0", .local), ("things", .local), ("program", .local), ("values_of", .globalImplicit), ("own", .free)], isGenerator := false, isCoroutine := false, more := [] } [("own", s.heap.objs.size + 1)] where
  kind := rfl
  nocell := by decide +kernel
  names := by decide +kernel
  clos := rfl
  sub := fun x c h => h
  has := fun x h => by
    have h' : List.lookup x ([(".0", NameKind.local), ("things", .local), ("program", .local), ("values_of", .globalImplicit), ("own", .cell)] : List (Str × NameKind)) = some .cell ∨ List.lookup x ([(".0", NameKind.local), ("things", .local), ("program", .local), ("values_of", .globalImplicit), ("own", .cell)] : List (Str × NameKind)) = some .free := h
    have e : x = "own" := by
      rcases h' with h' | h'
      · have := PySem.mem_of_lookup h'
        simpa using this
      · have := PySem.mem_of_lookup h'
        simp at this
    subst e
    exact ⟨_, rfl⟩
  cap := fun k j x h1 h2 => by
    match k, h1, h2 with
    | 0, h1, _ => cases h1
    | 1, h1, _ => cases h1
    | 2, h1, h2 =>
      cases h1
      cases h2
      exact ⟨rfl, .inl rfl, .inl rfl⟩
    | k + 3, h1, _ => cases h1
  len := rfl
theorem ok_begun {tN : Tok} (F : Fun K "begun" "begun" sBegun f fd) (ht : mg "tuple" = none) (hO : mg "OWN" = some (.int (-1) tN))
    (GV : FnOk P w K mg base CX0 1 gV dV ["things"] spVals) (bV : Binds K dV ["things"] []) (kV : PySem.W.keepIn K (.ref gV) = true) (mV : mg "values_of" = some (.ref gV))
    (GR : FnOk P w K mg base CX0 2 gR dR ["room"] spBRoom) (bR : Binds K dR ["room"] []) (kR : PySem.W.keepIn K (.ref gR) = true) (mR : mg "begun_room" = some (.ref gR)) : FnOk P w K mg base CX0 3 f fd ["world"] spBegun := by
  refine F.ok scBegun (fun vs H Q E h => ?_) (fun cdv A outer s H vs Q E hr h => ?_)
  · obtain ⟨a, d, rfl, _⟩ := h
    rfl
  obtain ⟨a, d, rfl, hW, q⟩ := h
  have nd := scBegun.nd
  have hr1 : Room 1 _ := hr.mono (by decide)
  have n1 : (["room"] : List Str).Nodup := by decide +kernel
  have n2 : (["name", "value"] : List Str).Nodup := by decide +kernel
  have n3 : (["things", "program", "own"] : List Str).Nodup := by decide +kernel
  refine ⟨_, pss_cons (ps_asg (pv 0) (pg_tup rfl (pgs_cons (pg_name (i := 1) nd rfl (Or.inl rfl)) (pgs_cons (pg_name (i := 2) nd rfl (Or.inl rfl)) (pgs_cons (pg_name (i := 3) nd rfl (Or.inl rfl)) (pgs_cons (pg_name (i := 4) nd rfl (Or.inl rfl)) pgs_nil))))))
    (pss_cons (ps_set (i := 5) nd rfl (Or.inr rfl) (pe_tup (pa_cons (pe_glob (v := .int (-1)) rfl hO ⟨_, rfl⟩) (pa_cons (pe_glob (v := .int (-1)) rfl hO ⟨_, rfl⟩) (pa_cons pe_int (pa_cons pe_int (pa_cons pe_int pa_nil)))))))
    (pss_one (ps_ret (pe_tup (pa_cons (pe_callTy call_tuple_of rfl ht PyProof.Rows.boot_tuple (pa_cons (pe_comp (N := ["room"]) (CompScope.plain rfl (by decide +kernel) (by decide +kernel) (by decide +kernel)) rfl (pi_tup (pv 1)) (fun C s H fp => pg_name (i := 0) n1 rfl (Or.inl rfl)) (fun C s H fp => pf_nil) (fun C s H fp => pe_call GR hr rfl mR kR bR .nil pass0 (pa_cons (pv 0) pa_nil))) pa_nil))
      (pa_cons (pe_callTy call_tuple_of rfl ht PyProof.Rows.boot_tuple (pa_cons (pe_comp (N := ["name", "value"]) (CompScope.plain rfl (by decide +kernel) (by decide +kernel) (by decide +kernel)) rfl (pi_tup (pv 2)) (fun C s H fp => pg_two (K := K) (i := 0) (j := 1) rfl rfl n2 rfl rfl (Or.inl rfl) (Or.inl rfl) (Or.inr rfl) (Or.inr rfl)) (fun C s H fp => pf_nil) (fun C s H fp => pe_tup (pa_cons (pv 1) (pa_cons (pe_tup pa_nil) pa_nil)))) pa_nil))
      (pa_cons (pe_call GV hr1 rfl mV kV bV .nil pass0 (pa_cons (pv 3) pa_nil))
      (pa_cons (pe_callTy call_tuple_of rfl ht PyProof.Rows.boot_tuple (pa_cons (pe_comp (N := ["things", "program", "own"]) caughtBegun rfl (pi_tup (pv 4)) (fun C s H fp => pg_two (K := K) (i := 0) (j := 1) rfl rfl n3 rfl rfl (Or.inl rfl) (Or.inl rfl) (Or.inr rfl) (Or.inr rfl)) (fun C s H fp => pf_nil) (fun C s H fp => pe_tup (pa_cons (pe_call GV hr1 rfl mV kV bV .nil pass0 (pa_cons (pv 0) pa_nil)) (pa_cons (pe_tup (pa_cons (pv 2) pa_nil)) pa_nil)))) pa_nil)) pa_nil)))))))), ?_⟩
  obtain ⟨⟨r, p, sh, hh, rs, ps, ss, hs, h0, h1, h2, h3, h4, h5, h6, h7, h8⟩, l1, l2, l3, l4⟩ := hW
  refine ⟨_, rfl, a, _, rfl, SqT.of h0, rfl, _, _, rfl, _, _, rfl, _, _, rfl, _, _, rfl, rfl, ?_⟩
  refine ⟨(by show 5 ≤ sizeLine; decide), fun o ho => ?_⟩
  have sA := same_upd ho (.tup [.int (-1), .int (-1), .int 0, .int 0, .int 0])
  have eo : upd H o (.tup [.int (-1), .int (-1), .int 0, .int 0, .int 0]) o = some (.tup [.int (-1), .int (-1), .int 0, .int 0, .int 0]) := upd_same
  have fA : ∀ x, upd H o (.tup [.int (-1), .int (-1), .int 0, .int 0, .int 0]) x = none → H x = none := fun x z => free_upd z
  generalize upd H o (.tup [.int (-1), .int (-1), .int 0, .int 0, .int 0]) = HA at sA eo fA ⊢
  have kA := Tk.same sA
  refine ⟨_, rfl, r, rfl, ⟨_, SqT.of (sA _ _ h1)⟩, fun D1 hD1 => comp_data (R := RoomR) (Fd := roomD) (fun s h => h.tk (Tk.same s)) (fun σ => ∃ v0 : Option V, σ = [v0]) ⟨none, rfl⟩ (sA _ _ h1) (L2.Paired.mapP h2 fun _ _ z => z.tk kA) l1 hD1 ?_ ?_⟩
  · rintro u d σ' H' k ⟨v0, rfl⟩ hR sH hk
    exact ⟨_, rfl, u, d, rfl, hR, fun v H5 hv s5 f5 => hk _ v H5 ⟨_, rfl⟩ hv s5 f5⟩
  intro cs1 H1 c1 g1 k1 f1
  refine ⟨D1, cs1, rfl, .inl ⟨SqL.of g1, fun t1 ht1 => ?_⟩⟩
  have zB := same_upd ht1 (.tup cs1)
  have aB : Same H (upd H1 t1 (.tup cs1)) := fun x o z => zB _ _ (k1 _ _ (sA _ _ z))
  have kB := Tk.same aB
  refine ⟨_, rfl, p, rfl, ⟨_, SqT.of (aB _ _ h3)⟩, fun D2 hD2 => comp_data (R := PairR) (Fd := passD) (fun s h => h.tk (Tk.same s)) (fun σ => ∃ v0 v1 : Option V, σ = [v0, v1]) ⟨none, none, rfl⟩ (aB _ _ h3) (pairs_tk kB h4) l2 hD2 ?_ ?_⟩
  · rintro u v σ' H' k ⟨v0, v1, rfl⟩ ⟨rr, wd, rfl, hr⟩ sH hk
    refine ⟨rr, _, _, rfl, SqT.of hr, _, rfl, Nat.zero_le _, fun b hb => ⟨(by show 2 ≤ sizeLine; decide), fun c hc => ?_⟩⟩
    exact hk _ _ _ ⟨_, _, rfl⟩ (.tup upd_same (.cons (.int _) (.cons (.tup (same_upd hc _ _ _ upd_same) .nil) .nil))) (fun x o z => same_upd hc _ _ _ (same_upd hb _ _ _ z)) fun x z => free_upd (free_upd z)
  intro cs2 H2 c2 g2 k2 f2
  refine ⟨D2, cs2, rfl, .inl ⟨SqL.of g2, fun t2 ht2 => ?_⟩⟩
  have zC := same_upd ht2 (.tup cs2)
  have aC : Same H (upd H2 t2 (.tup cs2)) := fun x o z => zC _ _ (k2 _ _ (aB _ _ z))
  refine ⟨_, rfl, sh, ss, d.shared, rfl, aC _ _ h5, pairs_tk (Tk.same aC) h6, l3, fun t3 H3 e3 s3 f3 => ?_⟩
  have a3 : Same H H3 := fun x o z => s3 _ _ (aC _ _ z)
  have o3 : H3 o = some (.tup [.int (-1), .int (-1), .int 0, .int 0, .int 0]) := s3 _ _ (zC _ _ (k2 _ _ (zB _ _ (k1 _ _ eo))))
  refine ⟨_, rfl, hh, rfl, ⟨_, SqT.of (a3 _ _ h7)⟩, fun D4 hD4 => comp_data (R := HandR) (Fd := handD) (fun s h => h.tk (Tk.same s)) (fun σ => ∃ v0 v1 : Option V, σ = [v0, v1, some (.ref o)]) ⟨none, none, rfl⟩ (a3 _ _ h7) (L2.Paired.mapP h8 fun _ _ z => z.tk (Tk.same a3)) l4 hD4 ?_ ?_⟩
  · rintro u xs σ' H' k ⟨v0, v1, rfl⟩ ⟨ha, ht, hp, hus, rfl, q1, q2, q3, q4, _⟩ sH hk
    refine ⟨ha, _, _, rfl, SqT.of q1, _, rfl, ht, hus, xs, rfl, q2, q3, q4, fun b5 H5 e5 s5 f5 => ⟨_, rfl, (by show 1 ≤ sizeLine; decide), fun b6 k6 => ⟨(by show 2 ≤ sizeLine; decide), fun b7 k7 => ?_⟩⟩⟩
    have y7 : Same H5 _ := fun x u z => same_upd k7 (.tup [.ref b5, .ref b6]) _ _ (same_upd k6 (.tup [.ref o]) _ _ z)
    exact hk _ _ _ ⟨_, _, rfl⟩ (.tup upd_same (.cons (.tup (y7 _ _ e5) (ints_dts _)) (.cons (.tup (same_upd k7 _ _ _ upd_same) (.cons (.tup (y7 _ _ (s5 _ _ (sH _ _ o3))) (.cons (.int _) (.cons (.int _) (.cons (.int _) (.cons (.int _) (.cons (.int _) .nil)))))) .nil)) .nil))) (fun x u z => y7 _ _ (s5 _ _ z)) fun x z => f5 x (free_upd (free_upd z))
  intro cs4 H4 c4 g4 k4 f4
  refine ⟨D4, cs4, rfl, .inl ⟨SqL.of g4, fun t4 ht4 => ⟨(by show 4 ≤ sizeLine; decide), fun z hz => ?_⟩⟩⟩
  have w5 := same_upd hz (.tup [.ref t1, .ref t2, .ref t3, .ref t4])
  have w4 : Same H4 _ := fun x o y => w5 _ _ (same_upd ht4 (.tup cs4) _ _ y)
  have w3 : Same H3 _ := fun x o y => w4 _ _ (k4 _ _ y)
  have wC : Same (upd H2 t2 (.tup cs2)) _ := fun x o y => w3 _ _ (s3 _ _ y)
  have w2 : Same H2 _ := fun x o y => wC _ _ (zC _ _ y)
  have wB : Same (upd H1 t1 (.tup cs1)) _ := fun x o y => w2 _ _ (k2 _ _ y)
  have w1 : Same H1 _ := fun x o y => wB _ _ (zB _ _ y)
  have w0 : Same H _ := fun x o y => w1 _ _ (k1 _ _ (sA _ _ y))
  refine q (.ref z) _ (.tup upd_same (.cons (.tup (wB _ _ upd_same) (c1.kp (Kp.same w1))) (.cons (.tup (wC _ _ upd_same) (c2.kp (Kp.same w2))) (.cons (.tup (w3 _ _ e3) (ints_dts _)) (.cons (.tup (w5 _ _ upd_same) (c4.kp (Kp.same w4))) .nil))))) w0 fun x y => fA x (f1 x (free_upd (f2 x (free_upd (f3 x (f4 x (free_upd (free_upd y))))))))
end
end K14

set_option Elab.async false
set_option linter.all false
set_option maxRecDepth 100000
set_option maxHeartbeats 4000000
namespace K14
open PySem L2 PyProof.Rows
open Kx (same_upd free_upd)
abbrev sSame : Stmt := top 25
/-- ints and tuples alone, less than n deep -/
inductive TI : Nat → PyData → Prop
  | int {n : Nat} {i : Int} : TI n (.int i)
  | str {n : Nat} {i : Str} : TI n (.str i)
  | tup {n : Nat} {xs : List PyData} : (∀ x ∈ xs, TI n x) → xs.length ≤ 1000 → TI (n + 1) (.tuple xs)
structure Bs (mg : Str → Option Value) : Prop where
  len : mg "len" = none
  isi : mg "isinstance" = none
  int : mg "int" = none
  bool : mg "bool" = none
  str : mg "str" = none
  tuple : mg "tuple" = none
  all : mg "all" = none
  zip : mg "zip" = none
section
variable {P : Program} {w : World} {K : PySem.W.Frag} {mg : Str → Option Value} {base : Heap} {f : Addr} {fd : FuncData}
def spSame (m : Nat) : Sp := fun vs H Q _ => ∃ (u v : V) (d : PyData) (n : Nat), vs = [u, v] ∧ m = n + 1 ∧ DtAt N0 H d u ∧ DtAt N0 H d v ∧ TI n d ∧ ∀ H', Same H H' → (∀ b, H' b = none → H b = none) → Q (.bl true) H'
theorem scSame : FnScope ["_law_found", "_law_due"] ["_law_found", "_law_due"] (defScope sSame) := ⟨rfl, rfl, rfl, by decide +kernel, rfl, by decide +kernel, by decide +kernel⟩
theorem ok_same0 (F : Fun K "_law_same" "_law_same" sSame f fd) : FnOk P w K mg base CX0 1 f fd ["_law_found", "_law_due"] (spSame 0) := by
  refine F.ok (k := 0) scSame (fun vs H Q E h => ?_) (fun cdv A outer s H vs Q E hr h => ?_)
  · obtain ⟨u, v, d, n, rfl, _⟩ := h
    rfl
  obtain ⟨u, v, d, n, rfl, e, _⟩ := h
  cases e
theorem ok_same {m : Nat} (F : Fun K "_law_same" "_law_same" sSame f fd) (B : Bs mg) (G : FnOk P w K mg base CX0 (m + 1) f fd ["_law_found", "_law_due"] (spSame m)) (b : Binds K fd ["_law_found", "_law_due"] []) (mS : mg "_law_same" = some (.ref f)) :
    FnOk P w K mg base CX0 (m + 2) f fd ["_law_found", "_law_due"] (spSame (m + 1)) := by
  refine F.ok scSame (fun vs H Q E h => ?_) (fun cdv A outer s H vs Q E hr h => ?_)
  · obtain ⟨u, v, d, n, rfl, _⟩ := h
    rfl
  obtain ⟨u, v, d, n, rfl, em, hu, hv, hT, q⟩ := h
  obtain rfl : m = n := by omega
  have ndc : (["_law_one", "_law_other"] : List Str).Nodup := by decide +kernel
  refine ⟨_, pss_cons (ps_if (pt_val (pe_callB call_isi rfl B.isi boot_isinstance (pa_cons (pv 1) (pa_cons (pe_bltn (v := .ty "tuple") rfl B.tuple PyProof.Rows.boot_tuple rfl) pa_nil))))
      (pss_cons (ps_if (PW.pt (pw_or (pt_not (pt_val (pe_callB call_isi rfl B.isi boot_isinstance (pa_cons (pv 0) (pa_cons (pe_bltn (v := .ty "tuple") rfl B.tuple PyProof.Rows.boot_tuple rfl) pa_nil))))) (pw_or1 (pt_cmpR op_ne (pe_callB call_len_seq rfl B.len PySem.boot_len (pa_cons (pv 0) pa_nil)) (pe_callB call_len_seq rfl B.len PySem.boot_len (pa_cons (pv 1) pa_nil)) (nomark _))))) (pss_one (ps_ret pe_bl)) pss_nil)
      (pss_one (ps_ret (pe_callB (call_allL rfl) rfl B.all boot_all (pa_cons (pe_comp (N := ["_law_one", "_law_other"]) (CompScope.plain rfl (by decide +kernel) (by decide +kernel) (by decide +kernel)) rfl (pi_zip rfl B.zip (pa_cons (pv 0) (pa_cons (pv 1) pa_nil))) (fun C s H fp => pg_two (K := K) (i := 0) (j := 1) rfl rfl ndc rfl rfl (Or.inl rfl) (Or.inl rfl) (Or.inr rfl) (Or.inr rfl)) (fun C s H fp => pf_nil) (fun C s H fp => pe_call G hr rfl mS F.kp b .nil pass0 (pa_cons (pv 0) (pa_cons (pv 1) pa_nil)))) pa_nil))))) pss_nil)
    (pss_cons (ps_if (PW.pt (pw_or (pt_val (pe_callB call_isi rfl B.isi boot_isinstance (pa_cons (pv 1) (pa_cons (pe_bltn (v := .ty "str") rfl B.str PyProof.Rows.boot_str rfl) pa_nil)))) (pw_or1 (pt_cmpR op_isN (pv 1) pe_non (nomark _))))) (pss_one (ps_ret (pe_and (pe_cmpR op_eq (pe_callB call_isi rfl B.isi boot_isinstance (pa_cons (pv 0) (pa_cons (pe_bltn (v := .ty "str") rfl B.str PyProof.Rows.boot_str rfl) pa_nil))) (pe_callB call_isi rfl B.isi boot_isinstance (pa_cons (pv 1) (pa_cons (pe_bltn (v := .ty "str") rfl B.str PyProof.Rows.boot_str rfl) pa_nil))) (nomark _)) (pe_one (pe_cmpR op_eq (pv 0) (pv 1) (nomark _)))))) pss_nil)
    (pss_one (ps_ret (pe_and (pe_callB call_isi rfl B.isi boot_isinstance (pa_cons (pv 0) (pa_cons (pe_bltn (v := .ty "int") rfl B.int PyProof.Rows.boot_int rfl) pa_nil))) (pe_and (pe_not (pe_callB call_isi rfl B.isi boot_isinstance (pa_cons (pv 0) (pa_cons (pe_bltn (v := .ty "bool") rfl B.bool PyProof.Rows.boot_bool rfl) pa_nil)))) (pe_one (pe_cmpR op_eq (pv 0) (pv 1) (nomark _)))))))), ?_⟩
  cases hT with
  | str =>
    cases hu
    cases hv
    rename_i i
    refine ⟨_, rfl, _, _, _, _, rfl, .str i, rfl, _, rfl, iteF ?_⟩
    refine ⟨_, rfl, _, _, _, _, rfl, .str i, rfl, _, rfl, iteT ?_⟩
    refine ⟨_, rfl, _, _, _, _, rfl, .str i, rfl, _, rfl, _, _, _, _, rfl, .str i, rfl, rfl, _, rfl, iteT ⟨_, rfl, _, rfl, rfl, ?_⟩⟩
    have e : decide (V.str i = V.str i) = true := decide_eq_true rfl
    rw [e]
    exact q H (Same.refl _) fun _ h => h
  | int =>
    cases hu
    cases hv
    rename_i i
    refine ⟨_, rfl, _, _, _, _, rfl, .int i, rfl, _, rfl, iteF ?_⟩
    refine ⟨_, rfl, _, _, _, _, rfl, .int i, rfl, _, rfl, iteF ?_⟩
    refine ⟨_, rfl, rfl, _, rfl, ite2 (fun c => absurd (of_decide_eq_true c) (by simp)) (fun _ => ?_)⟩
    refine ⟨_, rfl, _, _, _, _, rfl, .int i, rfl, _, rfl, iteT ⟨_, rfl, _, _, _, _, rfl, .int i, rfl, _, rfl, _, rfl, iteT ⟨_, rfl, _, rfl, rfl, ?_⟩⟩⟩
    have e : decide (V.int i = V.int i) = true := decide_eq_true rfl
    rw [e]
    exact q H (Same.refl _) fun _ h => h
  | @tup n xs hx hl =>
    cases hu with
    | @tup a us _ ha hsu =>
    cases hv with
    | @tup b' vs _ hb hsv =>
    have lu := hsu.length
    have lv := hsv.length
    refine ⟨_, rfl, _, _, _, _, rfl, .tup hb, rfl, _, rfl, iteT ?_⟩
    refine ⟨_, rfl, _, _, _, _, rfl, .tup ha, rfl, _, rfl, iteF ?_⟩
    refine ⟨_, rfl, a, _, rfl, .inr (SqT.of ha), _, rfl, b', _, rfl, .inr (SqT.of hb), rfl, _, rfl, ite2 (fun c => ?_) (fun _ => ?_)⟩
    · exfalso
      rw [← lu, ← lv] at c
      simp at c
    refine ⟨_, rfl, _, rfl, a, b', us, vs, rfl, SqT.of ha, SqT.of hb, fun D hD => ?_⟩
    refine comp_zip (K := K) (a := a) (b := b') (xs := us) (ys := vs) (fun i σ' H' => ∃ (v0 v1 : Option V), σ' = [v0, v1] ∧ H' D = some (.lst ((List.replicate i true).map V.bl)) ∧ Same H H' ∧ ∀ x, H' x = none → H x = none)
      ⟨none, none, rfl, upd_same, same_upd hD _, fun x z => free_upd z⟩ (by omega) (fun i σ' H' _ ⟨_, _, _, _, k, _⟩ => ⟨SqT.of (k _ _ ha), SqT.of (k _ _ hb)⟩) ?_ ?_
    · rintro i x y σ' H' p hxi hyi ⟨v0, v1, rfl, gD, kk, fk⟩ hp
      have hil : i < us.length := (List.getElem?_eq_some_iff.mp hxi).1
      obtain ⟨d1, e1, hd1⟩ := hsu.get hxi
      obtain ⟨d2, e2, hd2⟩ := hsv.get hyi
      rw [e1] at e2
      cases e2
      have sp := same_upd hp (.tup [x, y])
      have kp : Kp N0 H (upd H' p (.tup [x, y])) := Kp.same fun b o z => sp _ _ (kk _ _ z)
      refine ⟨p, _, _, rfl, SqT.of upd_same, _, rfl, _, rfl, x, y, d1, n, rfl, rfl, hd1.kp kp, hd2.kp kp, hx d1 (List.mem_of_getElem? e1), fun H5 s5 f5 => ⟨_, s5 _ _ (sp _ _ gD), ?_, _, _, rfl, ?_, fun b o z => ?_, fun b z => fk b (free_upd (f5 b (free_upd z)))⟩⟩
      · rw [List.length_map, List.length_replicate]
        exact s1000 (by omega)
      · rw [upd_same, List.replicate_succ', List.map_append]
        rfl
      · rw [upd_ne (ne_of_none z hD)]
        exact s5 _ _ (sp _ _ (kk _ _ z))
    · rintro σ' H' ⟨v0, v1, rfl, gD, kk, fk⟩
      refine ⟨D, _, rfl, SqL.of gD, ?_⟩
      refine (?_ : Q (V.bl ((List.replicate us.length true).all id)) H')
      have e : (List.replicate us.length true).all id = true := by simp
      rw [e]
      exact q H' kk fk
theorem all_same (F : Fun K "_law_same" "_law_same" sSame f fd) (B : Bs mg) (b : Binds K fd ["_law_found", "_law_due"] []) (mS : mg "_law_same" = some (.ref f)) :
    ∀ m : Nat, FnOk P w K mg base CX0 (m + 1) f fd ["_law_found", "_law_due"] (spSame m)
  | 0 => ok_same0 F
  | m + 1 => ok_same F B (all_same F B b mS m) b mS
end
end K14

set_option Elab.async false
set_option linter.all false
set_option maxRecDepth 100000
set_option maxHeartbeats 4000000
namespace K14
open PySem L2 PyProof.Rows
open Kx (same_upd free_upd)
abbrev sPot : Stmt := top 12
abbrev sTake : Stmt := top 13
abbrev sPick : Stmt := top 14
/-- the pot: three whole numbers -/
def PotW (H : Hp) (p : Addr) : Prop := ∃ d s c : Int, H p = some (.lst [.int d, .int s, .int c])
/-- all but the pot stays, nothing goes -/
structure Ex (p : Addr) (H H' : Hp) : Prop where
  keep : ∀ b o, b ≠ p → H b = some o → H' b = some o
  free : ∀ b, H' b = none → H b = none
theorem Ex.refl {p : Addr} {H : Hp} : Ex p H H := ⟨fun _ _ _ h => h, fun _ h => h⟩
theorem Ex.trans {p : Addr} {H H1 H2 : Hp} (a : Ex p H H1) (b : Ex p H1 H2) : Ex p H H2 := ⟨fun c o n h => b.keep c o n (a.keep c o n h), fun c h => a.free c (b.free c h)⟩
theorem Ex.same {p : Addr} {H H' : Hp} (s : Same H H') (f : ∀ b, H' b = none → H b = none) : Ex p H H' := ⟨fun b o _ h => s b o h, f⟩
theorem Ex.new {p r : Addr} {H : Hp} {o : HO} (h : H r = none) : Ex p H (upd H r o) := .same (same_upd h _) fun b z => free_upd z
theorem Ex.pot {p : Addr} {H : Hp} {o : HO} : Ex p H (upd H p o) := ⟨fun b u n h => by rw [upd_ne n]; exact h, fun b z => free_upd z⟩
theorem PotW.ne {H : Hp} {p r : Addr} (h : PotW H p) (hr : H r = none) : r ≠ p := fun e => by
  obtain ⟨d, s, c, h⟩ := h
  rw [← e, hr] at h
  cases h
theorem PotW.same {H H' : Hp} {p : Addr} (h : PotW H p) (s : Same H H') : PotW H' p := by
  obtain ⟨d, s', c, h⟩ := h
  exact ⟨d, s', c, s _ _ h⟩
theorem PotW.new {H : Hp} {p r : Addr} {o : HO} (h : PotW H p) (hr : H r = none) : PotW (upd H r o) p := h.same (same_upd hr _)
theorem Ex.tk {p : Addr} {H H' : Hp} (h : PotW H p) (e : Ex p H H') : Tk H H' := fun a us z => e.keep a _ (fun y => by
  obtain ⟨d, s, c, h⟩ := h
  rw [y, h] at z
  cases z) z
theorem seq_asg {te : TE} {i : Nat} {u : TS} {D : Ends} {σ : L2.St} {H : Hp} (h : te σ H fun x H1 => u D (σ.set i (some x)) H1) : tSeq (tAsg te (gName i)) u D σ H := h
structure Bg (mg : Str → Option Value) : Prop where
  len : mg "len" = none
  abs : mg "abs" = none
  int : mg "int" = none
  tuple : mg "tuple" = none
  range : mg "range" = none
  sorted : mg "sorted" = none
section
variable {P : Program} {w : World} {K : PySem.W.Frag} {mg : Str → Option Value} {base : Heap} {f gK : Addr} {fd dK : FuncData}
def spPot (K : PySem.W.Frag) : Sp := fun vs H Q _ => ∃ (a : Addr) (ns : List Int) (k : Nat), vs = [.ref a, .int k] ∧ SqL K H a (ns.map V.int) ∧ ∀ p H', PotW H' p → H p = none → Same H H' → (∀ b, H' b = none → H b = none) → Q (.ref p) H'
theorem scPot : FnScope ["_law_script", "_law_k", "_law_cell", "_law_digits"] ["_law_script", "_law_k"] (defScope sPot) := ⟨rfl, rfl, rfl, by decide +kernel, rfl, by decide +kernel, by decide +kernel⟩
theorem ok_pot (F : Fun K "_law_pot" "_law_pot" sPot f fd) (B : Bg mg) : FnOk P w K mg base CX0 1 f fd ["_law_script", "_law_k"] (spPot K) := by
  refine F.ok scPot (fun vs H Q E h => ?_) (fun cdv A outer s H vs Q E hr h => ?_)
  · obtain ⟨a, ns, k, rfl, _⟩ := h
    rfl
  obtain ⟨a, ns, k, rfl, hS, q⟩ := h
  have nd := scPot.nd
  refine ⟨_, pss_cons (ps_set (i := 2) nd rfl (Or.inl rfl) pe_int)
    (pss_cons (ps_if (pt_cmpR op_lt (pv 1) (pe_callB call_len_seq rfl B.len PySem.boot_len (pa_cons (pv 0) pa_nil)) (nomark _)) (pss_one (ps_set (i := 2) nd rfl (Or.inl rfl) (pe_callB call_abs rfl B.abs boot_abs (pa_cons (pe_ix ix_list (pv 0) (pv 1) (fun _ _ => rfl)) pa_nil)))) pss_nil)
    (pss_cons (ps_set (i := 3) nd rfl (Or.inl rfl) (pe_op op_mul (pe_op op_mod (pv 2) (pe_op op_mulG (pe_op op_pow pe_int pe_int) (pe_op op_pow pe_int pe_int))) (pe_callTy call_int1 rfl B.int PyProof.Rows.boot_int (pa_cons (pe_cmpR op_ge (pv 2) (pe_op op_pow pe_int pe_int) (nomark _)) pa_nil))))
    (pss_one (ps_ret (pe_lst (pa_cons (pv 3) (pa_cons (pe_op op_mod (pe_op op_add (pe_op op_add (pv 2) (pe_op op_mul pe_int (pv 1))) pe_int) pe_int) (pa_cons pe_int pa_nil)))))))), ?_⟩
  refine seq_asg ?_
  refine (?h : ∀ R : TS, (∀ c : Int, R ?D [some (.ref a), some (.int k), some (.int c), none] H) → tSeq ?c R ?D ?σ H) _ ?k
  case h =>
    intro R hR
    refine ⟨_, rfl, _, rfl, a, _, rfl, .inl hS, _, _, rfl, rfl, _, rfl, ite2 (fun c => ?_) (fun c => hR 0)⟩
    have c' : k < ns.length := by
      have := of_decide_eq_true c
      rw [List.length_map] at this
      omega
    exact ⟨_, rfl, _, rfl, a, _, (k : Int), .int ns[k], rfl, rfl, hS, atI_nat (by rw [List.getElem?_map, List.getElem?_eq_getElem c']; rfl), _, rfl, hR _⟩
  case k =>
    intro c
    refine seq_asg ⟨_, rfl, 10, 60, rfl, rfl, ⟨by decide, by decide, by decide⟩, 10, 60, rfl, rfl, ⟨by decide, by decide, by decide⟩, _, _, rfl, rfl, IntMulOk.of_bits (by decide +kernel) (by decide +kernel), _, _, rfl, rfl, (show (0 : Int) < 10 ^ (60 : Int).toNat * 10 ^ (60 : Int).toNat by decide +kernel), _, rfl, 10, 18, rfl, rfl, ⟨by decide, by decide, by decide⟩, _, _, rfl, rfl, .inr ⟨_, rfl, _, _, rfl, rfl, .inr ⟨?_, ?_⟩, ?_⟩⟩
    · split <;> decide
    · split <;> decide
    refine ⟨_, rfl, _, rfl, _, rfl, _, _, rfl, rfl, .inl ⟨by decide, by decide⟩, _, _, rfl, rfl, _, _, rfl, rfl, _, _, rfl, rfl, (by show (0 : Int) < 2305843009213693951; decide), (by show 3 ≤ sizeLine; decide), fun p hp => ?_⟩
    exact q p _ ⟨_, _, _, upd_same⟩ hp (same_upd hp _) fun b z => free_upd z
def spTake : Sp := fun vs H Q _ => ∃ (p : Addr) (m : Int), vs = [.ref p, .int m] ∧ PotW H p ∧ 0 < m ∧ m < 1000000 ∧ ∀ (d : Int) (H' : Hp), 0 ≤ d → d < m → PotW H' p → Ex p H H' → Q (.int d) H'
theorem scTake : FnScope ["_law_pot_here", "_law_many", "_law_digit", "_law_mixed"] ["_law_pot_here", "_law_many"] (defScope sTake) := ⟨rfl, rfl, rfl, by decide +kernel, rfl, by decide +kernel, by decide +kernel⟩
theorem ok_take (F : Fun K "_law_take" "_law_take" sTake f fd) : FnOk P w K mg base CX0 1 f fd ["_law_pot_here", "_law_many"] spTake := by
  refine F.ok scTake (fun vs H Q E h => ?_) (fun cdv A outer s H vs Q E hr h => ?_)
  · obtain ⟨p, m, rfl, _⟩ := h
    rfl
  obtain ⟨p, m, rfl, hp, m0, m1, k⟩ := h
  have nd := scTake.nd
  refine ⟨_, pss_cons (ps_if (pt_cmpR op_gt (pe_ix ix_list (pv 0) pe_int (fun _ _ => rfl)) pe_int (nomark _))
      (pss_cons (ps_set (i := 2) nd rfl (Or.inl rfl) (pe_op op_mod (pe_ix ix_list (pv 0) pe_int (fun _ _ => rfl)) (pv 1)))
      (pss_cons (ps_asg (pe_op op_fdiv (pe_ix ix_list (pv 0) pe_int (fun _ _ => rfl)) (pv 1)) (pg_sub (pv 0) pe_int set_list))
      (pss_one (ps_ret (pv 2))))) pss_nil)
    (pss_cons (ps_augS (pv 0) pe_int get_list pe_int ip_add set_list)
    (pss_cons (ps_set (i := 3) nd rfl (Or.inl rfl) (pe_op op_mod (pe_op op_add (pe_op op_add (pe_op op_mul (pe_ix ix_list (pv 0) pe_int (fun _ _ => rfl)) pe_int) (pe_op op_mul pe_int (pe_ix ix_list (pv 0) pe_int (fun _ _ => rfl)))) pe_int) pe_int))
    (pss_cons (ps_asg (pe_op op_mod (pe_op op_mul (pv 3) (pe_op op_add (pe_op op_add (pe_op op_mod (pv 3) pe_int) (pe_op op_mul pe_int (pe_ix ix_list (pv 0) pe_int (fun _ _ => rfl)))) pe_int)) pe_int) (pg_sub (pv 0) pe_int set_list))
    (pss_one (ps_ret (pe_op op_mod (pe_op op_fdiv (pe_ix ix_list (pv 0) pe_int (fun _ _ => rfl)) pe_int) (pv 1))))))), ?_⟩
  obtain ⟨d0, s0, c0, h0⟩ := hp
  refine ⟨_, rfl, p, _, _, _, rfl, rfl, SqL.of h0, rfl, _, _, rfl, rfl, _, rfl, ite2 (fun c => ?_) (fun c => ?_)⟩
  · refine seq_asg ⟨_, rfl, p, _, _, _, rfl, rfl, SqL.of h0, rfl, _, rfl, _, _, rfl, rfl, m0, ?_⟩
    refine ⟨_, rfl, p, _, _, _, rfl, rfl, SqL.of h0, rfl, _, rfl, _, _, rfl, rfl, ⟨m0, by omega⟩, _, rfl, p, _, _, _, rfl, rfl, h0, rfl, ?_⟩
    exact ⟨_, rfl, k _ _ (Int.emod_nonneg _ (by omega)) (Int.emod_lt_of_pos _ m0) ⟨_, _, _, upd_same⟩ Ex.pot⟩
  refine ⟨_, rfl, p, _, 2, _, rfl, rfl, SqL.of h0, rfl, _, _, rfl, rfl, p, _, _, _, rfl, rfl, h0, rfl, ?_⟩
  have l1 : upd H p (HO.lst [.int d0, .int s0, .int (c0 + 1)]) p = some (.lst [.int d0, .int s0, .int (c0 + 1)]) := upd_same
  have ex : Ex p H (upd H p (HO.lst [.int d0, .int s0, .int (c0 + 1)])) := Ex.pot
  dsimp only
  rw [show ([V.int d0, V.int s0, V.int c0].set (Int.toNat 2) (V.int (c0 + 1))) = [.int d0, .int s0, .int (c0 + 1)] from rfl]
  generalize upd H p (HO.lst [.int d0, .int s0, .int (c0 + 1)]) = H1 at l1 ex ⊢
  refine seq_asg ?_
  refine ⟨_, rfl, p, _, _, _, rfl, rfl, SqL.of l1, rfl, _, _, rfl, rfl, .inr ⟨by decide, by decide⟩, _, rfl, p, _, _, _, rfl, rfl, SqL.of l1, rfl, _, _, rfl, rfl, .inl ⟨by decide, by decide⟩, _, _, rfl, rfl, _, _, rfl, rfl, _, _, rfl, rfl, (by show (0 : Int) < 2305843009213693921; decide), ?_⟩
  dsimp only
  generalize hmx : (s0 * 69069 + 9973 * (c0 + 1) + 5) % 2305843009213693921 = mx
  have b0 : 0 ≤ mx := by rw [← hmx]; exact Int.emod_nonneg _ (by decide)
  have b1 : mx < 2305843009213693921 := by rw [← hmx]; exact Int.emod_lt_of_pos _ (by decide)
  refine ⟨_, rfl, _, rfl, _, _, rfl, rfl, (by show (0 : Int) < 999983; decide), _, rfl, p, _, _, _, rfl, rfl, SqL.of l1, rfl, _, _, rfl, rfl, .inl ⟨by decide, by decide⟩, _, _, rfl, rfl, _, _, rfl, rfl, _, _, rfl, rfl, .inl ⟨by omega, by omega⟩, _, _, rfl, rfl, (by show (0 : Int) < 2305843009213693907; decide), _, rfl, p, _, _, _, rfl, rfl, l1, rfl, ?_⟩
  refine ⟨_, rfl, p, _, _, _, rfl, rfl, SqL.of upd_same, rfl, _, _, rfl, rfl, ⟨by decide, by decide⟩, _, rfl, _, _, rfl, rfl, m0, ?_⟩
  exact k _ _ (Int.emod_nonneg _ (by omega)) (Int.emod_lt_of_pos _ m0) ⟨_, _, _, upd_same⟩ (ex.trans Ex.pot)
def spPick (K : PySem.W.Frag) : Sp := fun vs H Q _ => ∃ (p a : Addr) (xs : List V), vs = [.ref p, .ref a] ∧ PotW H p ∧ SqL K H a xs ∧ a ≠ p ∧ 0 < xs.length ∧ xs.length < 1000000 ∧ ∀ (v : V) (H' : Hp), v ∈ xs → PotW H' p → Ex p H H' → Q v H'
theorem scPick : FnScope ["_law_pot_here", "_law_some"] ["_law_pot_here", "_law_some"] (defScope sPick) := ⟨rfl, rfl, rfl, by decide +kernel, rfl, by decide +kernel, by decide +kernel⟩
theorem ok_pick (F : Fun K "_law_pick" "_law_pick" sPick f fd) (B : Bg mg)
    (GK : FnOk P w K mg base CX0 1 gK dK ["_law_pot_here", "_law_many"] spTake) (bK : Binds K dK ["_law_pot_here", "_law_many"] []) (kK : PySem.W.keepIn K (.ref gK) = true) (mK : mg "_law_take" = some (.ref gK)) : FnOk P w K mg base CX0 2 f fd ["_law_pot_here", "_law_some"] (spPick K) := by
  refine F.ok scPick (fun vs H Q E h => ?_) (fun cdv A outer s H vs Q E hr h => ?_)
  · obtain ⟨p, a, xs, rfl, _⟩ := h
    rfl
  obtain ⟨p, a, xs, rfl, hp, ha, hne, h0, h1, k⟩ := h
  refine ⟨_, pss_one (ps_ret (pe_ix ix_list (pv 1) (pe_call GK hr rfl mK kK bK .nil pass0 (pa_cons (pv 0) (pa_cons (pe_callB call_len_seq rfl B.len PySem.boot_len (pa_cons (pv 1) pa_nil)) pa_nil))) (fun _ _ => rfl))), ?_⟩
  refine ⟨_, rfl, _, rfl, _, rfl, a, _, rfl, .inl ha, p, (xs.length : Int), rfl, hp, by omega, by omega, fun d H1 d0 d1 hp1 ex => ?_⟩
  have ha1 : SqL K H1 a xs := by
    rcases ha with (h | ⟨o, h⟩) | h
    · exact .inl (.inl (ex.keep _ _ hne h))
    · exact .inl (.inr ⟨o, ex.keep _ _ hne h⟩)
    · exact .inr h
  obtain ⟨j, rfl⟩ : ∃ j : Nat, d = j := ⟨d.toNat, by omega⟩
  have hj : j < xs.length := by omega
  exact ⟨a, xs, j, xs[j], rfl, rfl, ha1, atI_nat (List.getElem?_eq_getElem hj), k _ H1 (List.getElem_mem hj) hp1 ex⟩
end
end K14

set_option Elab.async false
set_option linter.all false
set_option maxRecDepth 100000
set_option maxHeartbeats 4000000
namespace K14
open PySem L2 PyProof.Rows
open Kx (same_upd free_upd)
abbrev sWords : Stmt := top 15
section
variable {P : Program} {w : World} {K : PySem.W.Frag} {mg : Str → Option Value} {base : Heap} {f gK : Addr} {fd dK : FuncData}
def spWords : Sp := fun vs H Q _ => ∃ (p : Addr) (stem : Str) (m : Int), vs = [.ref p, .str stem, .int m] ∧ PotW H p ∧ stem.length ≤ 100 ∧ 0 ≤ m ∧ m ≤ 6 ∧
  ∀ (r : Addr) (ws : List Str) (H' : Hp), H' r = some (.lst (ws.map V.str)) → ws.length = m.toNat → ws.Nodup → H r = none → PotW H' p → Ex p H H' → Q (.ref r) H'
theorem scWords : FnScope ["_law_pot_here", "_law_stem", "_law_many", "_law_left"] ["_law_pot_here", "_law_stem", "_law_many"] (defScope sWords) := ⟨rfl, rfl, rfl, by decide +kernel, rfl, by decide +kernel, by decide +kernel⟩
theorem caughtW1 {cdv : Value} {A : Around} {outer : List Env} {s : Shared} {H : Hp} {E : XK} :
    CompScope (cxOf CX0 P w K mg base ["_law_pot_here", "_law_stem", "_law_many", "_law_left"] "_law_words" (defScope sWords) f cdv A outer s H E).nox ["_law_one", "_law_stem"] [none, some 1]
      { kind := .function, names := [(".0", .local), ("_law_one", .local), ("_law_stem", .free)], isGenerator := false, isCoroutine := false, more := [] } [("_law_stem", s.heap.objs.size + 2)] where
  kind := rfl
  nocell := by decide +kernel
  names := by decide +kernel
  clos := rfl
  sub := fun x c h => by
    have h' := PySem.mem_of_lookup h
    cases List.mem_singleton.mp h'
    rfl
  has := fun x h => by
    have h' : List.lookup x ([(".0", NameKind.local), ("_law_one", .local), ("_law_stem", .cell)] : List (Str × NameKind)) = some .cell ∨ List.lookup x ([(".0", NameKind.local), ("_law_one", .local), ("_law_stem", .cell)] : List (Str × NameKind)) = some .free := h
    have e : x = "_law_stem" := by
      rcases h' with h' | h'
      · have := PySem.mem_of_lookup h'
        simpa using this
      · have := PySem.mem_of_lookup h'
        simp at this
    subst e
    exact ⟨_, rfl⟩
  cap := fun k j x h1 h2 => by
    match k, h1, h2 with
    | 0, h1, _ => cases h1
    | 1, h1, h2 =>
      cases h1
      cases h2
      exact ⟨rfl, .inl rfl, .inl rfl⟩
    | k + 2, h1, _ => cases h1
  len := rfl
theorem caughtW2 {cdv : Value} {A : Around} {outer : List Env} {s : Shared} {H : Hp} {E : XK} :
    CompScope (cxOf CX0 P w K mg base ["_law_pot_here", "_law_stem", "_law_many", "_law_left"] "_law_words" (defScope sWords) f cdv A outer s H E).nox ["_law_k", "_law_left", "_law_pot_here"] [none, some 3, some 0]
      { kind := .function, names := [(".0", .local), ("_law_k", .local), ("_law_take", .globalImplicit), ("len", .globalImplicit), ("_law_left", .free), ("_law_pot_here", .free)], isGenerator := false, isCoroutine := false, more := [] } [("_law_pot_here", s.heap.objs.size + 1), ("_law_left", s.heap.objs.size + 3)] where
  kind := rfl
  nocell := by decide +kernel
  names := by decide +kernel
  clos := rfl
  sub := fun x c h => by
    have h' := PySem.mem_of_lookup h
    rcases List.mem_cons.mp h' with e | e
    · cases e; rfl
    · cases List.mem_singleton.mp e; rfl
  has := fun x h => by
    have h' : List.lookup x ([(".0", NameKind.local), ("_law_k", .local), ("_law_take", .globalImplicit), ("len", .globalImplicit), ("_law_left", .cell), ("_law_pot_here", .cell)] : List (Str × NameKind)) = some .cell ∨ List.lookup x ([(".0", NameKind.local), ("_law_k", .local), ("_law_take", .globalImplicit), ("len", .globalImplicit), ("_law_left", .cell), ("_law_pot_here", .cell)] : List (Str × NameKind)) = some .free := h
    have e : x = "_law_left" ∨ x = "_law_pot_here" := by
      rcases h' with h' | h'
      · have := PySem.mem_of_lookup h'
        simpa using this
      · have := PySem.mem_of_lookup h'
        simp at this
    rcases e with e | e <;> (subst e; exact ⟨_, rfl⟩)
  cap := fun k j x h1 h2 => by
    match k, h1, h2 with
    | 0, h1, _ => cases h1
    | 1, h1, h2 =>
      cases h1
      cases h2
      exact ⟨rfl, .inl rfl, .inl rfl⟩
    | 2, h1, h2 =>
      cases h1
      cases h2
      exact ⟨rfl, .inl rfl, .inl rfl⟩
    | k + 3, h1, _ => cases h1
  len := rfl

theorem str_cancel {x a b : Str} (h : x ++ a = x ++ b) : a = b := by
  have h1 : (x.cps ++ a.cps) = (x.cps ++ b.cps) := congrArg Str.cps h
  have h2 : x.cps.toList ++ a.cps.toList = x.cps.toList ++ b.cps.toList := by
    have := congrArg Array.toList h1
    simpa using this
  have h3 := List.append_cancel_left h2
  have h4 : a.cps = b.cps := Array.toList_inj.mp h3
  cases a
  cases b
  cases h4
  rfl
theorem map_erase {α β : Type} (g : α → β) : ∀ (l : List α) (k : Nat), (l.map g).eraseIdx k = (l.eraseIdx k).map g
  | [], _ => rfl
  | _ :: _, 0 => rfl
  | x :: l, k + 1 => congrArg (g x :: ·) (map_erase g l k)
def sixW : List Str := ["a", "b", "c", "d", "e", "zz"]
theorem ok_words (F : Fun K "_law_words" "_law_words" sWords f fd) (B : Bg mg)
    (GK : FnOk P w K mg base CX0 1 gK dK ["_law_pot_here", "_law_many"] spTake) (bK : Binds K dK ["_law_pot_here", "_law_many"] []) (kK : PySem.W.keepIn K (.ref gK) = true) (mK : mg "_law_take" = some (.ref gK)) : FnOk P w K mg base CX0 2 f fd ["_law_pot_here", "_law_stem", "_law_many"] spWords := by
  refine F.ok scWords (fun vs H Q E h => ?_) (fun cdv A outer s H vs Q E hr h => ?_)
  · obtain ⟨p, stem, m, rfl, _⟩ := h
    rfl
  obtain ⟨p, stem, m, rfl, hp, hst, m0, m6, q⟩ := h
  have nd := scWords.nd
  have n1 : (["_law_one", "_law_stem"] : List Str).Nodup := by decide +kernel
  have n2 : (["_law_k", "_law_left", "_law_pot_here"] : List Str).Nodup := by decide +kernel
  refine ⟨_, pss_cons (ps_set (i := 3) nd rfl (Or.inr rfl) (pe_comp (N := ["_law_one", "_law_stem"]) caughtW1 rfl (pi_list (pe_lst (pa_cons pe_str (pa_cons pe_str (pa_cons pe_str (pa_cons pe_str (pa_cons pe_str (pa_cons pe_str pa_nil)))))))) (fun C s H fp => pg_name (i := 0) n1 rfl (Or.inl rfl)) (fun C s H fp => pf_nil) (fun C s H fp => pe_op op_add_str (pv 1) (pv 0))))
    (pss_one (ps_ret (pe_callB call_sortedL rfl B.sorted boot_sorted (pa_cons (pe_comp (N := ["_law_k", "_law_left", "_law_pot_here"]) caughtW2 rfl (pi_range1 rfl B.range (pa_cons (pv 2) pa_nil)) (fun C s H fp => pg_name (i := 0) n2 rfl (Or.inl rfl)) (fun C s H fp => pf_nil)
      (fun C s H fp => pe_bmK (K := K) rfl (pe_bm PySem.F.plainAttrs_list PySem.F.slot_list_pop PySem.F.type_list_pop mt_popAt (pv 1) (pa_cons (pe_call GK hr rfl mK kK bK .nil pass0 (pa_cons (pv 2) (pa_cons (pe_callB (call_lenK (K := K) rfl) rfl B.len PySem.boot_len (pa_cons (pv 1) pa_nil)) pa_nil))) pa_nil)))) pa_nil)))), ?_⟩
  refine seq_asg ⟨(by show 6 ≤ sizeLine; decide), fun l0 hl0 => ⟨l0, rfl, ⟨_, SqL.of upd_same⟩, fun D hD => ?_⟩⟩
  have sA := same_upd hl0 (.lst (sixW.map V.str))
  have six6 : ∀ x ∈ sixW, x.length ≤ 2 := by decide +kernel
  refine comp_list (K := K) (a := l0) (xs := sixW.map V.str) (fun i σ' H' => ∃ (v0 : Option V), σ' = [v0, some (.str stem)] ∧ H' D = some (.lst (((sixW.take i).map (stem ++ ·)).map V.str)) ∧ (∀ x o, upd H l0 (.lst (sixW.map V.str)) x = some o → H' x = some o) ∧ ∀ x, H' x = none → H x = none)
    ⟨none, rfl, upd_same, same_upd hD _, fun x z => free_upd (free_upd z)⟩ (fun i σ' H' _ ⟨_, _, _, k, _⟩ => SqL.of (k _ _ upd_same)) ?_ ?_
  · rintro i u σ' H' hi ⟨v0, rfl, gD, kk, fk⟩
    rw [List.getElem?_map] at hi
    obtain ⟨x, hx, rfl⟩ : ∃ x, sixW[i]? = some x ∧ V.str x = u := by
      cases h : sixW[i]? with
      | none => rw [h] at hi; cases hi
      | some x => rw [h] at hi; exact ⟨x, rfl, Option.some.inj hi⟩
    have hil : i < sixW.length := (List.getElem?_eq_some_iff.mp hx).1
    have h6 : sixW.length = 6 := rfl
    refine ⟨_, rfl, _, rfl, stem, x, rfl, rfl, ?_, _, gD, ?_, _, rfl, ?_, fun b o z => ?_, fun b z => fk b (free_upd z)⟩
    · have := six6 x (List.mem_of_getElem? hx)
      exact Nat.le_of_lt (s1000 (by omega))
    · rw [List.length_map, List.length_map, List.length_take]
      exact s1000 (by omega)
    · rw [upd_same, List.take_add_one, hx, List.map_append, List.map_append]
      rfl
    · rw [upd_ne (ne_of_none z hD)]
      exact kk _ _ z
  rintro σ' H1 ⟨v0, rfl, gD, kk, fk⟩
  have eL : ((sixW.take (sixW.map V.str).length).map (stem ++ ·)) = sixW.map (stem ++ ·) := rfl
  rw [eL] at gD
  obtain ⟨lw, elw⟩ : ∃ lw, lw = sixW.map (stem ++ ·) := ⟨_, rfl⟩
  rw [← elw] at gD
  have nlw : lw.Nodup := by
    rw [elw]
    have ns : sixW.Nodup := by decide +kernel
    exact List.pairwise_map.mpr (ns.imp fun h e => h (str_cancel e))
  have llw : lw.length = 6 := by rw [elw]; rfl
  have kH : Same H H1 := fun x o z => kk _ _ (sA _ _ z)
  have hp1 := hp.same kH
  have nD : H D = none := free_upd hD
  have npD : D ≠ p := hp.ne nD
  refine ⟨_, rfl, m, rfl, by omega, by omega, fun D2 hD2 => ?_⟩
  have nDD : D ≠ D2 := fun e => by rw [e, hD2] at gD; cases gD
  have npD2 : D2 ≠ p := hp1.ne hD2
  have nD2 : H D2 = none := fk _ hD2
  refine comp_range (lo := 0) (n := m.toNat) (fun i σ' H' => ∃ (v0 : Option V) (left acc : List Str), σ' = [v0, some (.ref D), some (.ref p)] ∧ H' D = some (.lst (left.map V.str)) ∧ H' D2 = some (.lst (acc.map V.str)) ∧ (acc ++ left).Perm lw ∧ acc.length = i ∧ PotW H' p ∧ Ex p H H')
    ⟨none, lw, [], rfl, same_upd hD2 _ _ _ gD, upd_same, List.Perm.refl _, rfl, hp1.new hD2, (Ex.same kH fk).trans (Ex.new hD2)⟩ ?_ ?_
  · rintro i σ' H' hi ⟨v0, left, acc, rfl, g1, g2, pm, la, hpp, ex⟩
    have ll : left.length + i = 6 := by
      have := pm.length_eq
      rw [List.length_append] at this
      omega
    refine ⟨_, rfl, .inl ⟨rfl, _, SqL.of g1⟩, _, rfl, _, rfl, D, _, rfl, .inl (SqL.of g1), p, _, rfl, hpp, ?_, ?_, fun d H2 d0 d1 hp2 ex2 => ?_⟩
    · rw [List.length_map]
      omega
    · rw [List.length_map]
      omega
    rw [List.length_map] at d1
    have hk : d.toNat < left.length := by omega
    have g1' := ex2.keep _ _ npD g1
    have g2' := ex2.keep _ _ npD2 g2
    refine ⟨D, _, d, d.toNat, .str left[d.toNat], rfl, rfl, g1', by omega, by omega, seqIndex_of d0 (by rw [List.length_map]; exact d1), (by rw [List.getElem?_map, List.getElem?_eq_getElem hk]; rfl), ?_⟩
    rw [map_erase]
    refine ⟨_, (by rw [upd_ne nDD.symm]; exact g2'), ?_, _, left.eraseIdx d.toNat, acc ++ [left[d.toNat]], rfl, (by rw [upd_ne nDD]; exact upd_same), (by rw [upd_same, List.map_append]; rfl), ?_, (by rw [List.length_append, la]; rfl), ?_, ?_⟩
    · rw [List.length_map]
      exact s1000 (by omega)
    · rw [List.append_assoc]
      exact ((Dk.erase_perm hk).append_left acc).trans pm
    · obtain ⟨a1, a2, a3, a4⟩ := hp2
      exact ⟨a1, a2, a3, by rw [upd_ne npD2.symm, upd_ne npD.symm]; exact a4⟩
    · refine ⟨fun b o nb z => ?_, fun b z => ex.free b (ex2.free b (free_upd (free_upd z)))⟩
      rw [upd_ne (ne_of_none z nD2), upd_ne (ne_of_none z nD)]
      exact ex2.keep _ _ nb (ex.keep _ _ nb z)
  · rintro σ' H' ⟨v0, left, acc, rfl, g1, g2, pm, la, hpp, ex⟩
    refine ⟨D2, acc, rfl, SqL.of g2, by omega, fun r out hr srt pr => ?_⟩
    have na : acc.Nodup := ((List.nodup_append.mp (pm.nodup_iff.mpr nlw))).1
    exact q r out _ upd_same (by rw [pr.length_eq, la]) (pr.nodup_iff.mpr na) (ex.free _ hr) (hpp.new hr) (ex.trans (Ex.new hr))
end
end K14

set_option Elab.async false
set_option linter.all false
set_option maxRecDepth 100000
set_option maxHeartbeats 4000000
namespace K14
open PySem L2 PyProof.Rows
open Kx (same_upd free_upd)
abbrev sSum : Stmt := top 16
/-- a list of anything, not the pot -/
structure Lst (H : Hp) (p a : Addr) (xs : List V) : Prop where
  at_ : H a = some (.lst xs)
  ne : a ≠ p
  len : xs.length < 1000
theorem Lst.ex {H H' : Hp} {p a : Addr} {xs : List V} (h : Lst H p a xs) (e : Ex p H H') : Lst H' p a xs := ⟨e.keep _ _ h.ne h.at_, h.ne, h.len⟩
/-- a test that answers c and leaves the heap -/
def Says (t : TT) (σ : L2.St) (H : Hp) (c : Bool) : Prop := ∀ Q : Bool → Hp → Prop, Q c H → t σ H Q
theorem says_lt {i : Nat} {d x : Int} {σ : L2.St} {H : Hp} (hi : σ[i]? = some (some (.int d))) : Says (tTest (tOp (rI0 fun i j => V.bl (decide (i < j))) (tVar i) (tC (.int x)))) σ H (decide (d < x)) := fun Q q => ⟨_, hi, _, _, rfl, rfl, _, rfl, q⟩
theorem says_eq {i : Nat} {d x : Int} {σ : L2.St} {H : Hp} (hi : σ[i]? = some (some (.int d))) : Says (tTest (tOp rEq (tVar i) (tC (.int x)))) σ H (decide (V.int d = V.int x)) := fun Q q => ⟨_, hi, rfl, _, rfl, q⟩
theorem if_or {A B : TT} {t u : TS} {D : Ends} {σ : L2.St} {H : Hp} {c e : Bool} (hA : Says A σ H c) (hB : Says B σ H e) (h1 : t D σ H) (h2 : c = false → u D σ H) : tIfS (tOr A B) t u D σ H := by
  refine hA _ ?_
  cases c with
  | true => exact iteT (iteT h1)
  | false =>
    refine iteF (hB _ ?_)
    cases e with
    | true => exact iteT h1
    | false => exact iteF (h2 rfl)
theorem if_one {A : TT} {t u : TS} {D : Ends} {σ : L2.St} {H : Hp} {c : Bool} (hA : Says A σ H c) (h1 : c = true → t D σ H) (h2 : c = false → u D σ H) : tIfS A t u D σ H := by
  refine hA _ ?_
  cases c with
  | true => exact iteT (h1 rfl)
  | false => exact iteF (h2 rfl)
/-- A and xs != [] -/
theorem if_ne {K : PySem.W.Frag} {A : TT} {t u : TS} {D : Ends} {σ : L2.St} {H : Hp} {c : Bool} {j : Nat} {a : Addr} {xs : List V} (hA : Says A σ H c) (hj : σ[j]? = some (some (.ref a))) (ha : H a = some (.lst xs))
    (h1 : ∀ r, H r = none → 0 < xs.length → t D σ (upd H r (.lst []))) (h2 : u D σ H) (h3 : ∀ r, H r = none → u D σ (upd H r (.lst []))) : tIfS (tAnd A (tTest (tOp (rNeNil K) (tVar j) (tLst tNil)))) t u D σ H := by
  refine hA _ ?_
  cases c with
  | false => exact iteF (iteF h2)
  | true =>
    refine iteT ⟨_, hj, Nat.zero_le _, fun r hr => ⟨a, r, xs, rfl, rfl, SqL.of (same_upd hr _ _ _ ha), SqL.of upd_same, _, rfl, ?_⟩⟩
    cases xs with
    | nil => exact iteF (h3 r hr)
    | cons x xs => exact iteT (h1 r hr (by simp))
section
variable {P : Program} {w : World} {K : PySem.W.Frag} {mg : Str → Option Value} {base : Heap} {f gK gP : Addr} {fd dK dP : FuncData}
def spSumW (m : Nat) : Sp := fun vs H Q _ => ∃ (p a b : Addr) (d : Int) (xs ys : List V), vs = [.ref p, .ref a, .ref b, .int d] ∧ d.toNat < m ∧ PotW H p ∧ Lst H p a xs ∧ Lst H p b ys ∧ ∀ (v : V) (H' : Hp), PotW H' p → Ex p H H' → Q v H'
theorem scSum : FnScope ["_law_pot_here", "_law_words_here", "_law_bells", "_law_deep", "_law_way", "_law_word"] ["_law_pot_here", "_law_words_here", "_law_bells", "_law_deep"] (defScope sSum) := ⟨rfl, rfl, rfl, by decide +kernel, rfl, by decide +kernel, by decide +kernel⟩
theorem ok_sum {m : Nat} (F : Fun K "_law_sum" "_law_sum" sSum f fd) (B : Bg mg) (G : FnOk P w K mg base CX0 (m + 3) f fd ["_law_pot_here", "_law_words_here", "_law_bells", "_law_deep"] (spSumW m)) (b0 : Binds K fd ["_law_pot_here", "_law_words_here", "_law_bells", "_law_deep"] []) (m0 : mg "_law_sum" = some (.ref f))
    (GK : FnOk P w K mg base CX0 1 gK dK ["_law_pot_here", "_law_many"] spTake) (bK : Binds K dK ["_law_pot_here", "_law_many"] []) (kK : PySem.W.keepIn K (.ref gK) = true) (mK : mg "_law_take" = some (.ref gK))
    (GP : FnOk P w K mg base CX0 2 gP dP ["_law_pot_here", "_law_some"] (spPick K)) (bP : Binds K dP ["_law_pot_here", "_law_some"] []) (kP : PySem.W.keepIn K (.ref gP) = true) (mP : mg "_law_pick" = some (.ref gP)) :
    FnOk P w K mg base CX0 (m + 4) f fd ["_law_pot_here", "_law_words_here", "_law_bells", "_law_deep"] (spSumW (m + 1)) := by
  refine F.ok scSum (fun vs H Q E h => ?_) (fun cdv A outer s H vs Q E hr h => ?_)
  · obtain ⟨p, a, b, d, xs, ys, rfl, _⟩ := h
    rfl
  obtain ⟨p, a, b, d, xs, ys, rfl, hd, hp, ha, hb, k⟩ := h
  have nd := scSum.nd
  have hu := hr.units0
  have hr1 : Room 1 _ := hr.mono (by omega)
  have hr2 : Room 2 _ := hr.mono (by omega)
  refine ⟨_, pss_cons (ps_set (i := 4) nd rfl (Or.inl rfl) (pe_call GK hr1 rfl mK kK bK .nil pass0 (pa_cons (pv 0) (pa_cons pe_int pa_nil))))
    (pss_cons (ps_if (PW.pt (pw_or (pt_cmpR op_lt (pv 3) pe_int (nomark _)) (pw_or1 (pt_cmpR op_lt (pv 4) pe_int (nomark _)))))
      (pss_cons (ps_if (PW.pt (pw_and (pt_cmpR (op_neNil hu) (pv 1) (pe_lst pa_nil) (nomark _)) (pw_and1 (pt_cmpR op_gt (pe_call GK hr1 rfl mK kK bK .nil pass0 (pa_cons (pv 0) (pa_cons pe_int pa_nil))) pe_int (nomark _))))) (pss_one (ps_ret (pe_call GP hr2 rfl mP kP bP .nil pass0 (pa_cons (pv 0) (pa_cons (pv 1) pa_nil))))) pss_nil)
      (pss_one (ps_ret (pe_call GK hr1 rfl mK kK bK .nil pass0 (pa_cons (pv 0) (pa_cons (pe_ix ix_list (pe_lst (pa_cons pe_int (pa_cons pe_int pa_nil))) (pe_callTy call_int1 rfl B.int PyProof.Rows.boot_int (pa_cons (pe_cmpR op_eq (pe_call GK hr1 rfl mK kK bK .nil pass0 (pa_cons (pv 0) (pa_cons pe_int pa_nil))) pe_int (nomark _)) pa_nil)) (fun _ _ => rfl)) pa_nil)))))) pss_nil)
    (pss_cons (ps_if (PW.pt (pw_and (pt_cmpR op_eq (pv 4) pe_int (nomark _)) (pw_and1 (pt_cmpR (op_neNil hu) (pv 2) (pe_lst pa_nil) (nomark _))))) (pss_one (ps_ret (pe_tup (pa_cons pe_str (pa_cons (pe_call GP hr2 rfl mP kP bP .nil pass0 (pa_cons (pv 0) (pa_cons (pv 2) pa_nil))) pa_nil))))) pss_nil)
    (pss_cons (ps_if (pt_cmpR op_eq (pv 4) pe_int (nomark _)) (pss_one (ps_ret (pe_tup (pa_cons pe_str (pa_cons (pe_call G hr rfl m0 F.kp b0 .nil pass0 (pa_cons (pv 0) (pa_cons (pv 1) (pa_cons (pv 2) (pa_cons (pe_op op_sub (pv 3) pe_int) pa_nil))))) pa_nil))))) pss_nil)
    (pss_cons (ps_set (i := 5) nd rfl (Or.inl rfl) (pe_ix ix_list (pe_lst (pa_cons pe_str (pa_cons pe_str (pa_cons pe_str (pa_cons pe_str (pa_cons pe_str pa_nil)))))) (pe_call GK hr1 rfl mK kK bK .nil pass0 (pa_cons (pv 0) (pa_cons pe_int pa_nil))) (fun _ _ => rfl)))
    (pss_one (ps_ret (pe_tup (pa_cons (pv 5) (pa_cons (pe_call G hr rfl m0 F.kp b0 .nil pass0 (pa_cons (pv 0) (pa_cons (pv 1) (pa_cons (pv 2) (pa_cons (pe_op op_sub (pv 3) pe_int) pa_nil))))) (pa_cons (pe_call G hr rfl m0 F.kp b0 .nil pass0 (pa_cons (pv 0) (pa_cons (pv 1) (pa_cons (pv 2) (pa_cons (pe_op op_sub (pv 3) pe_int) pa_nil))))) pa_nil)))))))))), ?_⟩
  refine seq_asg ⟨_, rfl, p, 9, rfl, hp, by decide, by decide, fun e H1 e0 e1 hp1 ex1 => ?_⟩
  have ha1 := ha.ex ex1
  have hb1 := hb.ex ex1
  refine (?h : ∀ R : TS, (¬ d < 1 → R ?D ?σ H1) → tSeq ?c R ?D ?σ H1) _ ?k
  case h =>
    intro R hR
    refine if_or (says_lt rfl) (says_lt rfl) ?_ (fun c => hR (of_decide_eq_false c))
    refine (?h1 : ∀ R : TS, (∀ H2, PotW H2 p → Ex p H1 H2 → R ?D1 ?σ1 H2) → tSeq ?c1 R ?D1 ?σ1 H1) _ ?k1
    case h1 =>
      intro R hR
      refine ⟨_, rfl, Nat.zero_le _, fun r hr => ⟨a, r, xs, rfl, rfl, SqL.of (same_upd hr _ _ _ ha1.at_), SqL.of upd_same, _, rfl, ite2 (fun c => ?_) (fun c => iteF (hR _ (hp1.new hr) (Ex.new hr)))⟩⟩
      refine ⟨_, rfl, p, 3, rfl, hp1.new hr, by decide, by decide, fun g H2 g0 g1 hp2 ex2 => ⟨_, _, rfl, rfl, _, rfl, ite2 (fun c2 => ?_) (fun c2 => hR _ hp2 ((Ex.new hr).trans ex2))⟩⟩
      have ha2 := (ha1.ex (Ex.new (o := .lst []) hr)).ex ex2
      have hne : 0 < xs.length := by
        cases xs with
        | nil => cases c
        | cons _ _ => simp
      exact ⟨_, rfl, _, rfl, p, a, xs, rfl, hp2, SqL.of ha2.at_, ha2.ne, hne, by have := ha2.len; omega, fun v H3 _ hp3 ex3 => k v H3 hp3 (ex1.trans ((Ex.new hr).trans (ex2.trans ex3)))⟩
    case k1 =>
      intro H2 hp2 ex2
      refine ⟨_, rfl, (by show 2 ≤ sizeLine; decide), fun l hl => ⟨_, rfl, p, 5, rfl, hp2.new hl, by decide, by decide, fun g H3 g0 g1 hp3 ex3 => ⟨rfl, .inr ⟨_, rfl, ?_⟩⟩⟩⟩
      have hl3 : H3 l = some (.lst [.int 3, .int 10]) := ex3.keep _ _ (hp2.ne hl) upd_same
      have fin : ∀ H4, PotW H4 p → Ex p H3 H4 → ∀ v, Q v H4 := fun H4 hp4 ex4 v => k v H4 hp4 (ex1.trans (ex2.trans ((Ex.new hl).trans (ex3.trans ex4))))
      generalize decide (V.int g = V.int 0) = c
      cases c with
      | true => exact ⟨l, _, 1, .int 10, rfl, rfl, SqL.of hl3, rfl, p, 10, rfl, hp3, by decide, by decide, fun d H4 _ _ hp4 ex4 => fin H4 hp4 ex4 _⟩
      | false => exact ⟨l, _, 0, .int 3, rfl, rfl, SqL.of hl3, rfl, p, 3, rfl, hp3, by decide, by decide, fun d H4 _ _ hp4 ex4 => fin H4 hp4 ex4 _⟩
  case k =>
    intro hd1
    have hd2 : (d - 1).toNat < m := by omega
    refine (?h2 : ∀ R : TS, (∀ H2, PotW H2 p → Ex p H1 H2 → R ?D2 ?σ2 H2) → tSeq ?c2 R ?D2 ?σ2 H1) _ ?k2
    case h2 =>
      intro R hR
      refine if_ne (says_eq rfl) rfl hb1.at_ (fun r hr hne => ?_) (hR H1 hp1 Ex.refl) (fun r hr => hR _ (hp1.new hr) (Ex.new hr))
      have hb2 := hb1.ex (Ex.new (o := .lst []) hr)
      refine ⟨_, rfl, _, rfl, p, b, ys, rfl, hp1.new hr, SqL.of hb2.at_, hb2.ne, hne, by have := hb2.len; omega, fun v H3 _ hp3 ex3 => ⟨(by show 2 ≤ sizeLine; decide), fun t ht => ?_⟩⟩
      exact k _ _ (hp3.new ht) (ex1.trans ((Ex.new hr).trans (ex3.trans (Ex.new ht))))
    case k2 =>
      intro H2 hp2 ex2
      have ha2 := ha1.ex ex2
      have hb2 := hb1.ex ex2
      refine (?h3 : ∀ R : TS, R ?D3 ?σ3 H2 → tSeq ?c3 R ?D3 ?σ3 H2) _ ?k3
      case h3 =>
        intro R hR
        refine if_one (says_eq rfl) (fun _ => ?_) (fun _ => hR)
        refine ⟨_, rfl, _, rfl, _, rfl, _, rfl, _, _, rfl, rfl, p, a, b, d - 1, xs, ys, rfl, hd2, hp2, ha2, hb2, fun v H3 hp3 ex3 => ⟨(by show 2 ≤ sizeLine; decide), fun t ht => ?_⟩⟩
        exact k _ _ (hp3.new ht) (ex1.trans (ex2.trans (ex3.trans (Ex.new ht))))
      case k3 =>
        refine seq_asg ⟨(by show 5 ≤ sizeLine; decide), fun l hl => ⟨_, rfl, p, 5, rfl, hp2.new hl, by decide, by decide, fun g H3 g0 g1 hp3 ex3 => ?_⟩⟩
        have hl3 : H3 l = some (.lst [.str "plus", .str "minus", .str "less", .str "same", .str "both"]) := ex3.keep _ _ (hp2.ne hl) upd_same
        have ex23 := (Ex.new (o := .lst [.str "plus", .str "minus", .str "less", .str "same", .str "both"]) hl).trans ex3
        have ha3 := ha2.ex ex23
        have hb3 := hb2.ex ex23
        obtain ⟨j, rfl⟩ : ∃ j : Nat, g = j := ⟨g.toNat, by omega⟩
        have hj : j < ([V.str "plus", .str "minus", .str "less", .str "same", .str "both"] : List V).length := by
          show j < 5
          omega
        refine ⟨l, _, j, _, rfl, rfl, SqL.of hl3, atI_nat (List.getElem?_eq_getElem hj), ?_⟩
        refine ⟨_, rfl, _, rfl, _, rfl, _, rfl, _, rfl, _, _, rfl, rfl, p, a, b, d - 1, xs, ys, rfl, hd2, hp3, ha3, hb3, fun v H4 hp4 ex4 => ?_⟩
        refine ⟨_, rfl, _, rfl, _, rfl, _, rfl, _, _, rfl, rfl, p, a, b, d - 1, xs, ys, rfl, hd2, hp4, ha3.ex ex4, hb3.ex ex4, fun v' H5 hp5 ex5 => ⟨(by show 3 ≤ sizeLine; decide), fun t ht => ?_⟩⟩
        exact k _ _ (hp5.new ht) (ex1.trans (ex2.trans (ex23.trans (ex4.trans (ex5.trans (Ex.new ht))))))
theorem ok_sum0 (F : Fun K "_law_sum" "_law_sum" sSum f fd) : FnOk P w K mg base CX0 3 f fd ["_law_pot_here", "_law_words_here", "_law_bells", "_law_deep"] (spSumW 0) := by
  refine F.ok (k := 2) scSum (fun vs H Q E h => ?_) (fun cdv A outer s H vs Q E hr h => ?_)
  · obtain ⟨p, a, b, d, xs, ys, rfl, _⟩ := h
    rfl
  obtain ⟨p, a, b, d, xs, ys, rfl, hd, _⟩ := h
  exact absurd hd (Nat.not_lt_zero _)
theorem all_sum (F : Fun K "_law_sum" "_law_sum" sSum f fd) (B : Bg mg) (b0 : Binds K fd ["_law_pot_here", "_law_words_here", "_law_bells", "_law_deep"] []) (m0 : mg "_law_sum" = some (.ref f))
    (GK : FnOk P w K mg base CX0 1 gK dK ["_law_pot_here", "_law_many"] spTake) (bK : Binds K dK ["_law_pot_here", "_law_many"] []) (kK : PySem.W.keepIn K (.ref gK) = true) (mK : mg "_law_take" = some (.ref gK))
    (GP : FnOk P w K mg base CX0 2 gP dP ["_law_pot_here", "_law_some"] (spPick K)) (bP : Binds K dP ["_law_pot_here", "_law_some"] []) (kP : PySem.W.keepIn K (.ref gP) = true) (mP : mg "_law_pick" = some (.ref gP)) :
    ∀ m : Nat, FnOk P w K mg base CX0 (m + 3) f fd ["_law_pot_here", "_law_words_here", "_law_bells", "_law_deep"] (spSumW m)
  | 0 => ok_sum0 F
  | m + 1 => ok_sum F B (all_sum F B b0 m0 GK bK kK mK GP bP kP mP m) b0 m0 GK bK kK mK GP bP kP mP
end
end K14

set_option Elab.async false
set_option linter.all false
set_option maxRecDepth 100000
set_option maxHeartbeats 4000000
namespace K14
open PySem L2 PyProof.Rows
open Kx (same_upd free_upd)
abbrev sWaits : Stmt := top 17
abbrev sDo : Stmt := top 18
def Goals (H : Hp) (gs : List V) : Prop := ∀ v ∈ gs, ∃ a x y, v = .ref a ∧ H a = some (.tup [x, y])
theorem Goals.tk {H H' : Hp} {gs : List V} (h : Goals H gs) (k : Tk H H') : Goals H' gs := fun v hv => by
  obtain ⟨a, x, y, e, z⟩ := h v hv
  exact ⟨a, x, y, e, k _ _ z⟩
section
variable {P : Program} {w : World} {K : PySem.W.Frag} {mg : Str → Option Value} {base : Heap} {f gK gP gS : Addr} {fd dK dP dS : FuncData}
def spWaits : Sp := fun vs H Q _ => ∃ (p a b : Addr) (n : Int) (xs ys : List V), vs = [.ref p, .ref a, .ref b, .int n] ∧ PotW H p ∧ Lst H p a xs ∧ Lst H p b ys ∧ 0 < ys.length ∧
  ∀ (r : Addr) (zs : List V) (H' : Hp), H' r = some (.lst zs) → 0 < zs.length → zs.length ≤ 3 → H r = none → PotW H' p → Ex p H H' → Q (.ref r) H'
theorem scWaits : FnScope ["_law_pot_here", "_law_words_here", "_law_bells", "_law_at", "_law_turn", "_law_row", "_law_way", "_law_test"] ["_law_pot_here", "_law_words_here", "_law_bells", "_law_at"] (defScope sWaits) := ⟨rfl, rfl, rfl, by decide +kernel, rfl, by decide +kernel, by decide +kernel⟩
theorem ok_waits (F : Fun K "_law_waits" "_law_waits" sWaits f fd)
    (GS : FnOk P w K mg base CX0 6 gS dS ["_law_pot_here", "_law_words_here", "_law_bells", "_law_deep"] (spSumW 3)) (bS : Binds K dS ["_law_pot_here", "_law_words_here", "_law_bells", "_law_deep"] []) (kS : PySem.W.keepIn K (.ref gS) = true) (mS : mg "_law_sum" = some (.ref gS))
    (GK : FnOk P w K mg base CX0 1 gK dK ["_law_pot_here", "_law_many"] spTake) (bK : Binds K dK ["_law_pot_here", "_law_many"] []) (kK : PySem.W.keepIn K (.ref gK) = true) (mK : mg "_law_take" = some (.ref gK))
    (GP : FnOk P w K mg base CX0 2 gP dP ["_law_pot_here", "_law_some"] (spPick K)) (bP : Binds K dP ["_law_pot_here", "_law_some"] []) (kP : PySem.W.keepIn K (.ref gP) = true) (mP : mg "_law_pick" = some (.ref gP)) :
    FnOk P w K mg base CX0 7 f fd ["_law_pot_here", "_law_words_here", "_law_bells", "_law_at"] spWaits := by
  refine F.ok scWaits (fun vs H Q E h => ?_) (fun cdv A outer s H vs Q E hr h => ?_)
  · obtain ⟨p, a, b, n, xs, ys, rfl, _⟩ := h
    rfl
  obtain ⟨p, a, b, n, xs, ys, rfl, hp, ha, hb, hne, q⟩ := h
  have nd := scWaits.nd
  have hr1 : Room 1 _ := hr.mono (by decide)
  have hr2 : Room 2 _ := hr.mono (by decide)
  refine ⟨_, pss_cons (ps_set (i := 4) nd rfl (Or.inl rfl) (pe_ix ix_list (pe_lst (pa_cons pe_int (pa_cons pe_str (pa_cons (pe_call GS hr rfl mS kS bS .nil pass0 (pa_cons (pv 0) (pa_cons (pv 1) (pa_cons (pv 2) (pa_cons pe_int pa_nil))))) pa_nil)))) (pe_call GK hr1 rfl mK kK bK .nil pass0 (pa_cons (pv 0) (pa_cons pe_int pa_nil))) (fun _ _ => rfl)))
    (pss_cons (ps_set (i := 5) nd rfl (Or.inl rfl) (pe_tup (pa_cons pe_str (pa_cons (pe_call GP hr2 rfl mP kP bP .nil pass0 (pa_cons (pv 0) (pa_cons (pv 2) pa_nil))) (pa_cons (pv 4) pa_nil)))))
    (pss_cons (ps_set (i := 6) nd rfl (Or.inl rfl) (pe_call GK hr1 rfl mK kK bK .nil pass0 (pa_cons (pv 0) (pa_cons pe_int pa_nil))))
    (pss_cons (ps_if (pt_cmpR op_eq (pv 6) pe_int (nomark _)) (pss_one (ps_ret (pe_lst (pa_cons (pv 5) pa_nil)))) pss_nil)
    (pss_cons (ps_set (i := 7) nd rfl (Or.inl rfl) (pe_tup (pa_cons pe_str (pa_cons (pe_call GS hr rfl mS kS bS .nil pass0 (pa_cons (pv 0) (pa_cons (pv 1) (pa_cons (pv 2) (pa_cons pe_int pa_nil))))) pa_nil))))
    (pss_one (ps_ret (pe_lst (pa_cons (pe_tup (pa_cons pe_str (pa_cons (pv 7) (pa_cons (pe_op op_add (pv 3) pe_int) pa_nil)))) (pa_cons (pv 5) (pa_cons (pe_tup (pa_cons pe_str (pa_cons (pe_ix ix_list (pe_lst (pa_cons (pv 3) (pa_cons (pe_op op_add (pv 3) pe_int) pa_nil))) (pe_op op_sub (pv 6) pe_int) (fun _ _ => rfl)) pa_nil))) pa_nil)))))))))), ?_⟩
  refine seq_asg ⟨_, rfl, _, rfl, _, rfl, p, a, b, 1, xs, ys, rfl, by decide, hp, ha, hb, fun v1 H1 hp1 ex1 => ⟨(by show 3 ≤ sizeLine; decide), fun l hl => ⟨_, rfl, p, 3, rfl, hp1.new hl, by decide, by decide, fun g H2 g0 g1 hp2 ex2 => ?_⟩⟩⟩
  have hl2 : H2 l = some (.lst [.int 0, .str "given", v1]) := ex2.keep _ _ (hp1.ne hl) upd_same
  obtain ⟨j, rfl⟩ : ∃ j : Nat, g = j := ⟨g.toNat, by omega⟩
  have hj : j < ([V.int 0, .str "given", v1] : List V).length := by
    show j < 3
    omega
  have exA := ex1.trans ((Ex.new (o := .lst [.int 0, .str "given", v1]) hl).trans ex2)
  refine ⟨l, _, j, _, rfl, rfl, SqL.of hl2, atI_nat (List.getElem?_eq_getElem hj), ?_⟩
  generalize ([V.int 0, .str "given", v1] : List V)[j] = vt
  have ha2 := ha.ex exA
  have hb2 := hb.ex exA
  refine seq_asg ⟨_, rfl, _, rfl, p, b, ys, rfl, hp2, SqL.of hb2.at_, hb2.ne, hne, by have := hb2.len; omega, fun v2 H3 _ hp3 ex3 => ⟨_, rfl, (by show 3 ≤ sizeLine; decide), fun t1 ht1 => ?_⟩⟩
  have exB := exA.trans (ex3.trans (Ex.new (o := .tup [.str "wait", v2, vt]) ht1))
  refine seq_asg ⟨_, rfl, p, 3, rfl, hp3.new ht1, by decide, by decide, fun g H4 g0 g1 hp4 ex4 => ?_⟩
  have exC := exB.trans ex4
  refine (?h : ∀ R : TS, (¬ V.int g = V.int 0 → R ?D ?σ H4) → tSeq ?c R ?D ?σ H4) _ ?k
  case h =>
    intro R hR
    refine if_one (says_eq rfl) (fun _ => ?_) (fun c => hR (of_decide_eq_false c))
    exact ⟨_, rfl, (by show 1 ≤ sizeLine; decide), fun r hr => q r _ _ upd_same (by simp) (by simp) (exC.free _ hr) (hp4.new hr) (exC.trans (Ex.new hr))⟩
  case k =>
    intro hg
    have hg' : g = 1 ∨ g = 2 := by
      have : g ≠ 0 := fun z => hg (by rw [z])
      omega
    refine seq_asg ⟨_, rfl, _, rfl, _, rfl, p, a, b, 2, xs, ys, rfl, by decide, hp4, ha.ex exC, hb.ex exC, fun v5 H5 hp5 ex5 => ⟨(by show 2 ≤ sizeLine; decide), fun t2 ht2 => ?_⟩⟩
    have exD := exC.trans (ex5.trans (Ex.new (o := .tup [.str "not", v5]) ht2))
    refine ⟨_, rfl, _, rfl, _, _, rfl, rfl, (by show 3 ≤ sizeLine; decide), fun t3 ht3 => ⟨_, rfl, _, rfl, _, rfl, _, _, rfl, rfl, (by show 2 ≤ sizeLine; decide), fun l5 hl5 => ⟨_, rfl, _, _, rfl, rfl, ?_⟩⟩⟩
    have exE := exD.trans ((Ex.new (o := .tup [.str "unless", .ref t2, .int (n + 3)]) ht3).trans (Ex.new (o := .lst [.int n, .int (n + 3)]) hl5))
    have hp6 := ((hp5.new (o := .tup [.str "not", v5]) ht2).new (o := .tup [.str "unless", .ref t2, .int (n + 3)]) ht3).new (o := .lst [.int n, .int (n + 3)]) hl5
    have fin : ∀ v, ([V.str "go", v]).length ≤ sizeLine ∧ ∀ t4, upd (upd (upd H5 t2 (.tup [.str "not", v5])) t3 (.tup [.str "unless", .ref t2, .int (n + 3)])) l5 (.lst [.int n, .int (n + 3)]) t4 = none → ([V.ref t3, .ref t1, .ref t4] : List V).length ≤ sizeLine ∧ ∀ r, upd (upd (upd (upd H5 t2 (.tup [.str "not", v5])) t3 (.tup [.str "unless", .ref t2, .int (n + 3)])) l5 (.lst [.int n, .int (n + 3)])) t4 (.tup [.str "go", v]) r = none → Q (.ref r) (upd (upd (upd (upd (upd H5 t2 (.tup [.str "not", v5])) t3 (.tup [.str "unless", .ref t2, .int (n + 3)])) l5 (.lst [.int n, .int (n + 3)])) t4 (.tup [.str "go", v])) r (.lst [.ref t3, .ref t1, .ref t4])) := fun v =>
      ⟨(by show 2 ≤ sizeLine; decide), fun t4 ht4 => ⟨(by show 3 ≤ sizeLine; decide), fun r hr => q r _ _ upd_same (by simp) (by simp) (exE.free _ (free_upd hr)) ((hp6.new ht4).new hr) (exE.trans ((Ex.new ht4).trans (Ex.new hr)))⟩⟩
    rcases hg' with rfl | rfl
    · exact ⟨l5, _, 0, .int n, rfl, rfl, SqL.of upd_same, rfl, fin _⟩
    · exact ⟨l5, _, 1, .int (n + 3), rfl, rfl, SqL.of upd_same, rfl, fin _⟩
def spDo : Sp := fun vs H Q _ => ∃ (p g a b : Addr) (gs xs ys : List V), vs = [.ref p, .ref g, .ref a, .ref b] ∧ PotW H p ∧ Lst H p g gs ∧ 0 < gs.length ∧ Goals H gs ∧ Lst H p a xs ∧ Lst H p b ys ∧ ∀ (v : V) (H' : Hp), PotW H' p → Ex p H H' → Q v H'
theorem scDo : FnScope ["_law_pot_here", "_law_goals", "_law_things", "_law_words_here", "_law_room_here", "_law_deed_here", "_law_goal"] ["_law_pot_here", "_law_goals", "_law_things", "_law_words_here"] (defScope sDo) := ⟨rfl, rfl, rfl, by decide +kernel, rfl, by decide +kernel, by decide +kernel⟩
theorem ok_do (F : Fun K "_law_do" "_law_do" sDo f fd)
    (GS : FnOk P w K mg base CX0 6 gS dS ["_law_pot_here", "_law_words_here", "_law_bells", "_law_deep"] (spSumW 3)) (bS : Binds K dS ["_law_pot_here", "_law_words_here", "_law_bells", "_law_deep"] []) (kS : PySem.W.keepIn K (.ref gS) = true) (mS : mg "_law_sum" = some (.ref gS))
    (GP : FnOk P w K mg base CX0 2 gP dP ["_law_pot_here", "_law_some"] (spPick K)) (bP : Binds K dP ["_law_pot_here", "_law_some"] []) (kP : PySem.W.keepIn K (.ref gP) = true) (mP : mg "_law_pick" = some (.ref gP)) :
    FnOk P w K mg base CX0 7 f fd ["_law_pot_here", "_law_goals", "_law_things", "_law_words_here"] spDo := by
  refine F.ok scDo (fun vs H Q E h => ?_) (fun cdv A outer s H vs Q E hr h => ?_)
  · obtain ⟨p, g, a, b, gs, xs, ys, rfl, _⟩ := h
    rfl
  obtain ⟨p, g, a, b, gs, xs, ys, rfl, hp, hg, hne, hG, ha, hb, k⟩ := h
  have nd := scDo.nd
  have hr2 : Room 2 _ := hr.mono (by decide)
  refine ⟨_, pss_cons (ps_asg (pe_call GP hr2 rfl mP kP bP .nil pass0 (pa_cons (pv 0) (pa_cons (pv 1) pa_nil))) (pg_two (K := K) (i := 4) (j := 5) rfl rfl nd rfl rfl (Or.inl rfl) (Or.inl rfl) (Or.inl rfl) (Or.inl rfl)))
    (pss_cons (ps_set (i := 6) nd rfl (Or.inl rfl) (pe_call GP hr2 rfl mP kP bP .nil pass0 (pa_cons (pv 0) (pa_cons (pe_op op_cat (pe_lst (pa_cons pe_non pa_nil)) (pv 2)) pa_nil))))
    (pss_one (ps_ret (pe_tup (pa_cons pe_str (pa_cons (pv 6) (pa_cons (pv 4) (pa_cons (pv 5) (pa_cons (pe_call GS hr rfl mS kS bS .nil pass0 (pa_cons (pv 0) (pa_cons (pv 3) (pa_cons (pe_lst pa_nil) (pa_cons pe_int pa_nil))))) pa_nil))))))))), ?_⟩
  refine ⟨_, rfl, _, rfl, p, g, gs, rfl, hp, SqL.of hg.at_, hg.ne, hne, by have := hg.len; omega, fun v H1 hv hp1 ex1 => ?_⟩
  obtain ⟨t, x, y, rfl, ht⟩ := hG v hv
  refine ⟨t, x, y, rfl, SqT.of (ex1.tk hp _ _ ht), ?_⟩
  have ha1 := ha.ex ex1
  dsimp only
  refine seq_asg ?_
  refine ⟨_, rfl, (by show 1 ≤ sizeLine; decide), fun l1 hl1 => ⟨_, rfl, l1, a, _, _, rfl, rfl, upd_same, same_upd hl1 _ _ _ ha1.at_, ?_, fun l2 hl2 => ?_⟩⟩
  · have := ha1.len
    exact Nat.le_of_lt (s1000 (by simp; omega))
  have ex2 := (Ex.new (p := p) (o := .lst [.non]) hl1).trans (Ex.new (o := .lst ([.non] ++ xs)) hl2)
  have hp2 := (hp1.new (o := .lst [.non]) hl1).new (o := .lst ([.non] ++ xs)) hl2
  refine ⟨p, l2, _, rfl, hp2, SqL.of upd_same, (hp1.new (o := .lst [.non]) hl1).ne hl2, by simp, (by have := ha1.len; simp; omega), fun v2 H3 _ hp3 ex3 => ?_⟩
  have exA := ex1.trans (ex2.trans ex3)
  refine ⟨_, rfl, _, rfl, _, rfl, _, rfl, _, rfl, Nat.zero_le _, fun l4 hl4 => ⟨p, b, l4, 1, ys, [], rfl, by decide, hp3.new hl4, (hb.ex exA).ex (Ex.new hl4), ⟨upd_same, hp3.ne hl4, by simp⟩, fun v5 H5 hp5 ex5 => ⟨(by show 5 ≤ sizeLine; decide), fun t6 ht6 => ?_⟩⟩⟩
  exact k _ _ (hp5.new ht6) (exA.trans ((Ex.new hl4).trans (ex5.trans (Ex.new ht6))))
end
end K14

set_option Elab.async false
set_option linter.all false
set_option maxRecDepth 100000
set_option maxHeartbeats 4000000
namespace K14
open PySem L2 PyProof.Rows
open Kx (same_upd free_upd)
abbrev sDeed : Stmt := top 19
theorem Ex.put {p r : Addr} {H H' : Hp} {o : HO} (e : Ex p H H') (h : H r = none) : Ex p H (upd H' r o) := ⟨fun b u n z => by rw [upd_ne (ne_of_none z h)]; exact e.keep b u n z, fun b z => e.free b (free_upd z)⟩
theorem PotW.put {p r : Addr} {H : Hp} {o : HO} (h : PotW H p) (n : r ≠ p) : PotW (upd H r o) p := by
  obtain ⟨a, b, c, h⟩ := h
  exact ⟨a, b, c, by rw [upd_ne n.symm]; exact h⟩
/-- while rows are gathered at rl -/
structure Loop (H : Hp) (p rl : Addr) (rs : List V) (H' : Hp) : Prop where
  pot : PotW H' p
  ex : Ex p H H'
  er : H' rl = some (.lst rs)
  nr : H rl = none
  ne : rl ≠ p
theorem Loop.go {H H4 H5 : Hp} {p rl : Addr} {rs : List V} (h : Loop H p rl rs H4) (hp : PotW H5 p) (e : Ex p H4 H5) : Loop H p rl rs H5 := ⟨hp, h.ex.trans e, e.keep _ _ h.ne h.er, h.nr, h.ne⟩
theorem Loop.new {H H4 : Hp} {p rl r : Addr} {rs : List V} {o : HO} (h : Loop H p rl rs H4) (hr : H4 r = none) : Loop H p rl rs (upd H4 r o) := h.go (h.pot.new hr) (Ex.new hr)
theorem Loop.app {H H5 : Hp} {p rl : Addr} {rs : List V} (h : Loop H p rl rs H5) (zs : List V) : Loop H p rl (rs ++ zs) (upd H5 rl (.lst (rs ++ zs))) := ⟨h.pot.put h.ne, h.ex.put h.nr, upd_same, h.nr, h.ne⟩
theorem Lst.put {H : Hp} {p a r : Addr} {xs : List V} {o : HO} (h : Lst H p a xs) (n : a ≠ r) : Lst (upd H r o) p a xs := ⟨by rw [upd_ne n]; exact h.at_, h.ne, h.len⟩
section
variable {P : Program} {w : World} {K : PySem.W.Frag} {mg : Str → Option Value} {base : Heap} {f gK gP gS gW gD : Addr} {fd dK dP dS dW dD : FuncData}
def spDeed : Sp := fun vs H Q _ => ∃ (p t g th be : Addr) (mn : Str) (most : Int) (xs ys gs : List V), vs = [.ref p, .ref t, .ref g, .int most] ∧ PotW H p ∧ H t = some (.tup [.str mn, .ref th, .ref be]) ∧ Lst H p th xs ∧ xs.length < 100 ∧ Lst H p be ys ∧ Lst H p g gs ∧ Goals H gs ∧ 0 < most ∧ most ≤ 10 ∧ ∀ (v : V) (H' : Hp), PotW H' p → Ex p H H' → Q v H'
theorem scDeed : FnScope ["_law_pot_here", "_law_room_here", "_law_goals", "_law_most", "_law_manner", "_law_things", "_law_bells", "_law_words_here", "_law_rows", "_law_k", "_law_way", "_law_word"] ["_law_pot_here", "_law_room_here", "_law_goals", "_law_most"] (defScope sDeed) := ⟨rfl, rfl, rfl, by decide +kernel, rfl, by decide +kernel, by decide +kernel⟩
theorem ok_deed (F : Fun K "_law_deed" "_law_deed" sDeed f fd) (B : Bg mg)
    (GK : FnOk P w K mg base CX0 1 gK dK ["_law_pot_here", "_law_many"] spTake) (bK : Binds K dK ["_law_pot_here", "_law_many"] []) (kK : PySem.W.keepIn K (.ref gK) = true) (mK : mg "_law_take" = some (.ref gK))
    (GP : FnOk P w K mg base CX0 2 gP dP ["_law_pot_here", "_law_some"] (spPick K)) (bP : Binds K dP ["_law_pot_here", "_law_some"] []) (kP : PySem.W.keepIn K (.ref gP) = true) (mP : mg "_law_pick" = some (.ref gP))
    (GS : FnOk P w K mg base CX0 6 gS dS ["_law_pot_here", "_law_words_here", "_law_bells", "_law_deep"] (spSumW 3)) (bS : Binds K dS ["_law_pot_here", "_law_words_here", "_law_bells", "_law_deep"] []) (kS : PySem.W.keepIn K (.ref gS) = true) (mS : mg "_law_sum" = some (.ref gS))
    (GW : FnOk P w K mg base CX0 7 gW dW ["_law_pot_here", "_law_words_here", "_law_bells", "_law_at"] spWaits) (bW : Binds K dW ["_law_pot_here", "_law_words_here", "_law_bells", "_law_at"] []) (kW : PySem.W.keepIn K (.ref gW) = true) (mW : mg "_law_waits" = some (.ref gW))
    (GD : FnOk P w K mg base CX0 7 gD dD ["_law_pot_here", "_law_goals", "_law_things", "_law_words_here"] spDo) (bD : Binds K dD ["_law_pot_here", "_law_goals", "_law_things", "_law_words_here"] []) (kD : PySem.W.keepIn K (.ref gD) = true) (mD : mg "_law_do" = some (.ref gD)) :
    FnOk P w K mg base CX0 8 f fd ["_law_pot_here", "_law_room_here", "_law_goals", "_law_most"] spDeed := by
  refine F.ok scDeed (fun vs H Q E h => ?_) (fun cdv A outer s H vs Q E hr h => ?_)
  · obtain ⟨p, t, g, th, be, mn, most, xs, ys, gs, rfl, _⟩ := h
    rfl
  obtain ⟨p, t, g, th, be, mn, most, xs, ys, gs, rfl, hp, ht, hx, hx1, hy, hg, hG, hm0, hm1, k⟩ := h
  have nd := scDeed.nd
  have hu := hr.units0
  have hr1 : Room 1 _ := hr.mono (by decide)
  have hr2 : Room 2 _ := hr.mono (by decide)
  have hr6 : Room 6 _ := hr.mono (by decide)
  refine ⟨_, pss_cons (ps_asg (pv 1) (pg_tup rfl (pgs_cons (pg_name (i := 4) nd rfl (Or.inl rfl)) (pgs_cons (pg_name (i := 5) nd rfl (Or.inl rfl)) (pgs_cons (pg_name (i := 6) nd rfl (Or.inl rfl)) pgs_nil)))))
    (pss_cons (ps_set (i := 7) nd rfl (Or.inl rfl) (pe_op op_cat (pv 5) (pe_lst (pa_cons pe_str pa_nil))))
    (pss_cons (ps_set (i := 8) nd rfl (Or.inl rfl) (pe_lst pa_nil))
    (pss_cons (ps_for PassesOwn.never rfl (pi_range1 rfl B.range (pa_cons (pe_op op_add pe_int (pe_call GK hr1 rfl mK kK bK .nil pass0 (pa_cons (pv 0) (pa_cons (pv 3) pa_nil)))) pa_nil)) (pg_name (i := 9) nd rfl (Or.inl rfl))
      (pss_cons (ps_set (i := 10) nd rfl (Or.inl rfl) (pe_call GK hr1 rfl mK kK bK .nil pass0 (pa_cons (pv 0) (pa_cons pe_int pa_nil))))
      (pss_one (ps_if (PW.pt (pw_and (pt_cmpR op_lt (pv 10) pe_int (nomark _)) (pw_and1 (pt_cmpR (op_neNil hu) (pv 6) (pe_lst pa_nil) (nomark _)))))
        (pss_one (ps_expr (pe_bm PySem.F.plainAttrs_list PySem.F.slot_list_extend PySem.F.type_list_extend mt_extend (pv 8) (pa_cons (pe_call GW hr rfl mW kW bW .nil pass0 (pa_cons (pv 0) (pa_cons (pv 7) (pa_cons (pv 6) (pa_cons (pe_callB call_len_seq rfl B.len PySem.boot_len (pa_cons (pv 8) pa_nil)) pa_nil))))) pa_nil))))
      (pss_one (ps_if (PW.pt (pw_and (pt_cmpR op_lt (pv 10) pe_int (nomark _)) (pw_and1 (pt_cmpR (op_neNil hu) (pv 6) (pe_lst pa_nil) (nomark _)))))
        (pss_cons (ps_set (i := 11) nd rfl (Or.inl rfl) (pe_ix ix_list (pe_lst (pa_cons pe_str (pa_cons pe_str pa_nil))) (pe_callTy call_int1 rfl B.int PyProof.Rows.boot_int (pa_cons (pe_and (pe_cmpR op_eq (pv 4) pe_str (nomark _)) (pe_one (pe_cmpR op_eq (pv 10) pe_int (nomark _)))) pa_nil)) (fun _ _ => rfl)))
        (pss_one (ps_expr (pe_bm PySem.F.plainAttrs_list PySem.F.slot_list_append PySem.F.type_list_append mt_append (pv 8) (pa_cons (pe_tup (pa_cons (pv 11) (pa_cons (pe_call GP hr2 rfl mP kP bP .nil pass0 (pa_cons (pv 0) (pa_cons (pv 6) pa_nil))) pa_nil))) pa_nil)))))
      (pss_one (ps_if (PW.pt (pw_and (pt_cmpR op_eq (pv 10) pe_int (nomark _)) (pw_and1 (pt_cmpR (op_neNil hu) (pv 2) (pe_lst pa_nil) (nomark _)))))
        (pss_one (ps_expr (pe_bm PySem.F.plainAttrs_list PySem.F.slot_list_append PySem.F.type_list_append mt_append (pv 8) (pa_cons (pe_call GD hr rfl mD kD bD .nil pass0 (pa_cons (pv 0) (pa_cons (pv 2) (pa_cons (pv 5) (pa_cons (pv 7) pa_nil))))) pa_nil))))
      (pss_one (ps_if (pt_cmpR op_eq (pv 10) pe_int (nomark _))
        (pss_cons (ps_expr (pe_bm PySem.F.plainAttrs_list PySem.F.slot_list_append PySem.F.type_list_append mt_append (pv 8) (pa_cons (pe_tup (pa_cons pe_str (pa_cons (pe_call GS hr6 rfl mS kS bS .nil pass0 (pa_cons (pv 0) (pa_cons (pv 7) (pa_cons (pv 6) (pa_cons pe_int pa_nil))))) (pa_cons (pe_op op_add (pe_callB call_len_seq rfl B.len PySem.boot_len (pa_cons (pv 8) pa_nil)) pe_int) pa_nil)))) pa_nil)))
        (pss_one (ps_expr (pe_bm PySem.F.plainAttrs_list PySem.F.slot_list_append PySem.F.type_list_append mt_append (pv 8) (pa_cons (pe_tup (pa_cons pe_str (pa_cons (pe_call GK hr1 rfl mK kK bK .nil pass0 (pa_cons (pv 0) (pa_cons pe_int pa_nil))) pa_nil))) pa_nil)))))
      (pss_one (ps_if (PW.pt (pw_and (pt_cmpR op_lt (pv 10) pe_int (nomark _)) (pw_and1 (pt_cmpR (op_neNil hu) (pv 5) (pe_lst pa_nil) (nomark _)))))
        (pss_one (ps_expr (pe_bm PySem.F.plainAttrs_list PySem.F.slot_list_append PySem.F.type_list_append mt_append (pv 8) (pa_cons (pe_tup (pa_cons pe_str (pa_cons (pe_call GP hr2 rfl mP kP bP .nil pass0 (pa_cons (pv 0) (pa_cons (pv 5) pa_nil))) (pa_cons (pe_call GS hr6 rfl mS kS bS .nil pass0 (pa_cons (pv 0) (pa_cons (pv 7) (pa_cons (pv 6) (pa_cons pe_int pa_nil))))) pa_nil)))) pa_nil))))
        (pss_one (ps_expr (pe_bm PySem.F.plainAttrs_list PySem.F.slot_list_append PySem.F.type_list_append mt_append (pv 8) (pa_cons (pe_tup (pa_cons pe_str (pa_cons (pe_call GS hr6 rfl mS kS bS .nil pass0 (pa_cons (pv 0) (pa_cons (pv 7) (pa_cons (pv 6) (pa_cons pe_int pa_nil))))) pa_nil))) pa_nil))))))))))))))))
    (pss_one (ps_ret (pe_callTy call_tuple_of rfl B.tuple PyProof.Rows.boot_tuple (pa_cons (pv 8) pa_nil))))))), ?_⟩
  refine ⟨_, rfl, t, _, rfl, SqT.of ht, rfl, _, _, rfl, _, _, rfl, _, _, rfl, rfl, ?_⟩
  dsimp only
  refine seq_asg ?_
  refine ⟨_, rfl, (by show 1 ≤ sizeLine; decide), fun l1 hl1 => ⟨th, l1, xs, _, rfl, rfl, same_upd hl1 _ _ _ hx.at_, upd_same, ?_, fun wl hwl => ?_⟩⟩
  · exact Nat.le_of_lt (s1000 (by simp; omega))
  refine seq_asg ?_
  refine ⟨Nat.zero_le _, fun rl hrl => ?_⟩
  have ex0 := ((Ex.new (p := p) (o := .lst [.str "given"]) hl1).trans (Ex.new (o := .lst (xs ++ [.str "given"])) hwl)).trans (Ex.new (o := .lst []) hrl)
  have hp0 := ((hp.new (o := .lst [.str "given"]) hl1).new (o := .lst (xs ++ [.str "given"])) hwl).new (o := .lst []) hrl
  have nrl := free_upd (free_upd hrl)
  have nwr : wl ≠ rl := fun e => by rw [← e, upd_same] at hrl; cases hrl
  have hw0 : Lst (upd (upd (upd H l1 (.lst [.str "given"])) wl (.lst (xs ++ [.str "given"]))) rl (.lst [])) p wl (xs ++ [.str "given"]) := ⟨same_upd hrl _ _ _ upd_same, (hp.new hl1).ne hwl, by simp; omega⟩
  have L0 : Loop H p rl [] (upd (upd (upd H l1 (.lst [.str "given"])) wl (.lst (xs ++ [.str "given"]))) rl (.lst [])) := ⟨hp0, ex0, upd_same, nrl, hp.ne nrl⟩
  generalize upd (upd (upd H l1 (.lst [.str "given"])) wl (.lst (xs ++ [.str "given"]))) rl (.lst []) = H0 at hw0 L0 ⊢
  clear ex0 hp0
  refine ⟨_, rfl, _, rfl, p, most, rfl, L0.pot, hm0, by omega, fun n H1 n0 n1 hp1 ex1 => ⟨_, _, rfl, rfl, ?_⟩⟩
  refine ⟨1 + n, rfl, by omega, by omega, ?_⟩
  refine for_range (lo := 0) (n := (1 + n).toNat) (fun i σ H' => ∃ (v9 v10 v11 : Option V) (rs : List V), σ = [some (.ref p), some (.ref t), some (.ref g), some (.int most), some (.str mn), some (.ref th), some (.ref be), some (.ref wl), some (.ref rl), v9, v10, v11] ∧ Loop H p rl rs H' ∧ rs.length ≤ 3 * i ∧ Lst H' p wl (xs ++ [.str "given"]))
    ⟨none, none, none, [], rfl, L0.go hp1 ex1, Nat.zero_le _, hw0.ex ex1⟩ ?_ ?_
  · rintro i σ H2 hi ⟨v9, v10, v11, rs, rfl, L2', lr, hw2⟩
    have hi' : i < 12 := by omega
    refine seq_asg ⟨_, rfl, p, 9, rfl, L2'.pot, by decide, by decide, fun e H3 e0 e1 hp3 ex3 => ?_⟩
    have L3 := L2'.go hp3 ex3
    have hw3 := hw2.ex ex3
    have lz : rs.length < sizeLine := s1000 (by omega)
    -- what stands at each heap from here
    have X : ∀ {H4}, Loop H p rl rs H4 → Lst H4 p th xs := fun L => hx.ex L.ex
    have Y : ∀ {H4}, Loop H p rl rs H4 → Lst H4 p be ys := fun L => hy.ex L.ex
    have Gg : ∀ {H4}, Loop H p rl rs H4 → Lst H4 p g gs := fun L => hg.ex L.ex
    have GG : ∀ {H4}, Loop H p rl rs H4 → Goals H4 gs := fun L => hG.tk (L.ex.tk hp)
    refine (?h1 : ∀ U : TS, (∀ H4, Loop H p rl rs H4 → Lst H4 p wl (xs ++ [.str "given"]) → U ?D1 ?σ1 H4) → tIfS ?A1 ?T1 U ?D1 ?σ1 H3) _ ?k1
    case h1 =>
      intro U hU
      refine if_ne (says_lt rfl) rfl (Y L3).at_ (fun r hr hne => ?_) (hU H3 L3 hw3) (fun r hr => hU _ (L3.new hr) (hw3.ex (Ex.new hr)))
      have L4 := L3.new (o := .lst []) hr
      have hw4 := hw3.ex (Ex.new (o := .lst []) hr)
      refine ⟨_, rfl, .inl ⟨rfl, _, SqL.of L4.er⟩, _, rfl, _, rfl, _, rfl, _, rfl, rl, _, rfl, .inl (SqL.of L4.er), p, wl, be, _, _, ys, rfl, L4.pot, hw4, Y L4, hne, fun r5 zs H5 e5 z0 z3 f5 hp5 ex5 => ?_⟩
      have L5 := L4.go hp5 ex5
      refine ⟨rl, r5, rs, zs, rfl, rfl, L5.er, e5, ?_, _, _, _, rs ++ zs, rfl, L5.app zs, (by rw [List.length_append]; omega), (hw4.ex ex5).put nwr⟩
      exact Nat.le_of_lt (s1000 (by omega))
    case k1 =>
      intro H4 L4 hw4
      refine (?h2 : ∀ U : TS, (∀ H5, Loop H p rl rs H5 → Lst H5 p wl (xs ++ [.str "given"]) → U ?D2 ?σ2 H5) → tIfS ?A2 ?T2 U ?D2 ?σ2 H4) _ ?k2
      case h2 =>
        intro U hU
        refine if_ne (says_lt rfl) rfl (Y L4).at_ (fun r hr hne => ?_) (hU H4 L4 hw4) (fun r hr => hU _ (L4.new hr) (hw4.ex (Ex.new hr)))
        have L5 := L4.new (o := .lst []) hr
        have hw5 := hw4.ex (Ex.new (o := .lst []) hr)
        generalize upd H4 r (.lst []) = H5 at L5 hw5 ⊢
        refine seq_asg ⟨(by show 2 ≤ sizeLine; decide), fun l6 hl6 => ?_⟩
        have L6 := L5.new (o := .lst [.str "call", .str "all"]) hl6
        have hw6 := hw5.ex (Ex.new (o := .lst [.str "call", .str "all"]) hl6)
        have e6 : upd H5 l6 (.lst [.str "call", .str "all"]) l6 = some (.lst [.str "call", .str "all"]) := upd_same
        generalize upd H5 l6 (.lst [.str "call", .str "all"]) = H6 at L6 hw6 e6 ⊢
        refine ⟨_, rfl, rfl, _, rfl, ite2 (fun c => ⟨_, rfl, rfl, .inr ⟨_, rfl, ?_⟩⟩) (fun c => .inr ⟨_, rfl, ?_⟩)⟩
        · generalize decide (V.int e = V.int 3) = bb
          cases bb with
          | true => exact ⟨l6, _, 1, _, rfl, rfl, SqL.of e6, rfl, ⟨_, rfl, .inl ⟨rfl, _, SqL.of L6.er⟩, _, rfl, _, rfl, _, rfl, p, be, ys, rfl, L6.pot, SqL.of (Y L6).at_, (Y L6).ne, hne, by have := (Y L6).len; omega, fun v7 H7 _ hp7 ex7 => ⟨(by show 2 ≤ sizeLine; decide), fun t8 ht8 => ⟨rl, rs, _, rfl, rfl, ((L6.go hp7 ex7).new ht8).er, lz, _, _, _, rs ++ [_], rfl, ((L6.go hp7 ex7).new ht8).app _, (by rw [List.length_append]; simp; omega), ((hw6.ex ex7).ex (Ex.new ht8)).put nwr⟩⟩⟩⟩
          | false => exact ⟨l6, _, 0, _, rfl, rfl, SqL.of e6, rfl, ⟨_, rfl, .inl ⟨rfl, _, SqL.of L6.er⟩, _, rfl, _, rfl, _, rfl, p, be, ys, rfl, L6.pot, SqL.of (Y L6).at_, (Y L6).ne, hne, by have := (Y L6).len; omega, fun v7 H7 _ hp7 ex7 => ⟨(by show 2 ≤ sizeLine; decide), fun t8 ht8 => ⟨rl, rs, _, rfl, rfl, ((L6.go hp7 ex7).new ht8).er, lz, _, _, _, rs ++ [_], rfl, ((L6.go hp7 ex7).new ht8).app _, (by rw [List.length_append]; simp; omega), ((hw6.ex ex7).ex (Ex.new ht8)).put nwr⟩⟩⟩⟩
        · exact ⟨l6, _, 0, _, rfl, rfl, SqL.of e6, rfl, ⟨_, rfl, .inl ⟨rfl, _, SqL.of L6.er⟩, _, rfl, _, rfl, _, rfl, p, be, ys, rfl, L6.pot, SqL.of (Y L6).at_, (Y L6).ne, hne, by have := (Y L6).len; omega, fun v7 H7 _ hp7 ex7 => ⟨(by show 2 ≤ sizeLine; decide), fun t8 ht8 => ⟨rl, rs, _, rfl, rfl, ((L6.go hp7 ex7).new ht8).er, lz, _, _, _, rs ++ [_], rfl, ((L6.go hp7 ex7).new ht8).app _, (by rw [List.length_append]; simp; omega), ((hw6.ex ex7).ex (Ex.new ht8)).put nwr⟩⟩⟩⟩
      case k2 =>
        intro H5 L5 hw5
        refine (?h3 : ∀ U : TS, (∀ H6, Loop H p rl rs H6 → Lst H6 p wl (xs ++ [.str "given"]) → U ?D3 ?σ3 H6) → tIfS ?A3 ?T3 U ?D3 ?σ3 H5) _ ?k3
        case h3 =>
          intro U hU
          refine if_ne (says_eq rfl) rfl (Gg L5).at_ (fun r hr hne => ?_) (hU H5 L5 hw5) (fun r hr => hU _ (L5.new hr) (hw5.ex (Ex.new hr)))
          have L6 := L5.new (o := .lst []) hr
          have hw6 := hw5.ex (Ex.new (o := .lst []) hr)
          refine ⟨_, rfl, .inl ⟨rfl, _, SqL.of L6.er⟩, _, rfl, _, rfl, _, rfl, _, rfl, p, g, th, wl, gs, xs, _, rfl, L6.pot, Gg L6, hne, GG L6, X L6, hw6, fun v7 H7 hp7 ex7 => ?_⟩
          exact ⟨rl, rs, _, rfl, rfl, (L6.go hp7 ex7).er, lz, _, _, _, rs ++ [_], rfl, (L6.go hp7 ex7).app _, (by rw [List.length_append]; simp; omega), (hw6.ex ex7).put nwr⟩
        case k3 =>
          intro H6 L6 hw6
          refine (?h4 : ∀ U : TS, U ?D4 ?σ4 H6 → tIfS ?A4 ?T4 U ?D4 ?σ4 H6) _ ?k4
          case h4 =>
            intro U hU
            refine if_one (says_eq rfl) (fun _ => ?_) (fun _ => hU)
            refine ⟨_, rfl, .inl ⟨rfl, _, SqL.of L6.er⟩, _, rfl, _, rfl, _, rfl, p, wl, be, 2, _, ys, rfl, by decide, L6.pot, hw6, Y L6, fun v7 H7 hp7 ex7 => ?_⟩
            have L7 := L6.go hp7 ex7
            refine ⟨_, rfl, rl, _, rfl, .inl (SqL.of L7.er), _, _, rfl, rfl, (by show 3 ≤ sizeLine; decide), fun t8 ht8 => ⟨rl, rs, _, rfl, rfl, (L7.new ht8).er, lz, ?_⟩⟩
            have L9 := (L7.new (o := .tup [.str "unless", v7, .int ((rs.length : Int) + 2)]) ht8).app [.ref t8]
            have hw9 := ((hw6.ex ex7).ex (Ex.new (o := .tup [.str "unless", v7, .int ((rs.length : Int) + 2)]) ht8)).put (o := .lst (rs ++ [.ref t8])) nwr
            refine ⟨_, rfl, .inl ⟨rfl, _, SqL.of L9.er⟩, _, rfl, p, 10, rfl, L9.pot, by decide, by decide, fun g2 H10 g20 g21 hp10 ex10 => ⟨(by show 2 ≤ sizeLine; decide), fun t11 ht11 => ?_⟩⟩
            have L11 := (L9.go hp10 ex10).new (o := .tup [.str "tell", .int g2]) ht11
            exact ⟨rl, _, _, rfl, rfl, L11.er, s1000 (by rw [List.length_append]; simp; omega), _, _, _, _, rfl, L11.app _, (by rw [List.length_append, List.length_append]; simp; omega), ((hw9.ex ex10).ex (Ex.new ht11)).put nwr⟩
          case k4 =>
            refine (?h5 : ∀ U : TS, (∀ H7, Loop H p rl rs H7 → Lst H7 p wl (xs ++ [.str "given"]) → U ?D5 ?σ5 H7) → tIfS ?A5 ?T5 U ?D5 ?σ5 H6) _ ?k5
            case h5 =>
              intro U hU
              refine if_ne (says_lt rfl) rfl (X L6).at_ (fun r hr hne => ?_) (hU H6 L6 hw6) (fun r hr => hU _ (L6.new hr) (hw6.ex (Ex.new hr)))
              have L7 := L6.new (o := .lst []) hr
              have hw7 := hw6.ex (Ex.new (o := .lst []) hr)
              refine ⟨_, rfl, .inl ⟨rfl, _, SqL.of L7.er⟩, _, rfl, _, rfl, p, th, xs, rfl, L7.pot, SqL.of (X L7).at_, (X L7).ne, hne, by have := (X L7).len; omega, fun v8 H8 _ hp8 ex8 => ?_⟩
              have L8 := L7.go hp8 ex8
              refine ⟨_, rfl, _, rfl, _, rfl, p, wl, be, 2, _, ys, rfl, by decide, L8.pot, hw7.ex ex8, Y L8, fun v9 H9 hp9 ex9 => ⟨(by show 3 ≤ sizeLine; decide), fun t10 ht10 => ?_⟩⟩
              have L10 := (L8.go hp9 ex9).new (o := .tup [.str "put", v8, v9]) ht10
              exact ⟨rl, rs, _, rfl, rfl, L10.er, lz, _, _, _, rs ++ [_], rfl, L10.app _, (by rw [List.length_append]; simp; omega), (((hw7.ex ex8).ex ex9).ex (Ex.new ht10)).put nwr⟩
            case k5 =>
              intro H7 L7 hw7
              refine ⟨_, rfl, .inl ⟨rfl, _, SqL.of L7.er⟩, _, rfl, _, rfl, _, rfl, p, wl, be, 1, _, ys, rfl, by decide, L7.pot, hw7, Y L7, fun v8 H8 hp8 ex8 => ⟨(by show 2 ≤ sizeLine; decide), fun t9 ht9 => ?_⟩⟩
              have L9 := (L7.go hp8 ex8).new (o := .tup [.str "tell", v8]) ht9
              exact ⟨rl, rs, _, rfl, rfl, L9.er, lz, _, _, _, rs ++ [_], rfl, L9.app _, (by rw [List.length_append]; simp; omega), ((hw7.ex ex8).ex (Ex.new ht9)).put nwr⟩
  · rintro σ H2 ⟨v9, v10, v11, rs, rfl, L2', lr, hw2⟩
    exact ⟨_, rfl, rl, rs, rfl, .inl ⟨SqL.of L2'.er, fun l hl => k _ _ (L2'.pot.new hl) (L2'.ex.trans (Ex.new hl))⟩⟩
end
end K14

set_option Elab.async false
set_option linter.all false
set_option maxRecDepth 100000
set_option maxHeartbeats 4000000
namespace K14
open PySem L2 PyProof.Rows
open Kx (same_upd free_upd)
abbrev sOwn : Stmt := top 22
section
variable {P : Program} {w : World} {K : PySem.W.Frag} {mg : Str → Option Value} {base : Heap} {f gK gP gS gD : Addr} {fd dK dP dS dD : FuncData}
def spOwn : Sp := fun vs H Q _ => ∃ (p g a b : Addr) (most : Int) (gs xs ys : List V), vs = [.ref p, .ref g, .ref a, .ref b, .int most] ∧ PotW H p ∧ Lst H p g gs ∧ Goals H gs ∧ Lst H p a xs ∧ Lst H p b ys ∧ 0 < most ∧ most ≤ 10 ∧ ∀ (t : Addr) (rs : List V) (H' : Hp), H' t = some (.tup rs) → 0 < rs.length → PotW H' p → Ex p H H' → Q (.ref t) H'
theorem scOwn : FnScope ["_law_pot_here", "_law_goals", "_law_words_here", "_law_passes", "_law_most", "_law_rows", "_law_k", "_law_way"] ["_law_pot_here", "_law_goals", "_law_words_here", "_law_passes", "_law_most"] (defScope sOwn) := ⟨rfl, rfl, rfl, by decide +kernel, rfl, by decide +kernel, by decide +kernel⟩
theorem ok_own (F : Fun K "_law_own" "_law_own" sOwn f fd) (B : Bg mg)
    (GK : FnOk P w K mg base CX0 1 gK dK ["_law_pot_here", "_law_many"] spTake) (bK : Binds K dK ["_law_pot_here", "_law_many"] []) (kK : PySem.W.keepIn K (.ref gK) = true) (mK : mg "_law_take" = some (.ref gK))
    (GP : FnOk P w K mg base CX0 2 gP dP ["_law_pot_here", "_law_some"] (spPick K)) (bP : Binds K dP ["_law_pot_here", "_law_some"] []) (kP : PySem.W.keepIn K (.ref gP) = true) (mP : mg "_law_pick" = some (.ref gP))
    (GS : FnOk P w K mg base CX0 6 gS dS ["_law_pot_here", "_law_words_here", "_law_bells", "_law_deep"] (spSumW 3)) (bS : Binds K dS ["_law_pot_here", "_law_words_here", "_law_bells", "_law_deep"] []) (kS : PySem.W.keepIn K (.ref gS) = true) (mS : mg "_law_sum" = some (.ref gS))
    (GD : FnOk P w K mg base CX0 7 gD dD ["_law_pot_here", "_law_goals", "_law_things", "_law_words_here"] spDo) (bD : Binds K dD ["_law_pot_here", "_law_goals", "_law_things", "_law_words_here"] []) (kD : PySem.W.keepIn K (.ref gD) = true) (mD : mg "_law_do" = some (.ref gD)) :
    FnOk P w K mg base CX0 8 f fd ["_law_pot_here", "_law_goals", "_law_words_here", "_law_passes", "_law_most"] spOwn := by
  refine F.ok scOwn (fun vs H Q E h => ?_) (fun cdv A outer s H vs Q E hr h => ?_)
  · obtain ⟨p, g, a, b, most, gs, xs, ys, rfl, _⟩ := h
    rfl
  obtain ⟨p, g, a, b, most, gs, xs, ys, rfl, hp, hg, hG, hx, hy, hm0, hm1, k⟩ := h
  have nd := scOwn.nd
  have hu := hr.units0
  have hr1 : Room 1 _ := hr.mono (by decide)
  have hr2 : Room 2 _ := hr.mono (by decide)
  have hr6 : Room 6 _ := hr.mono (by decide)
  refine ⟨_, pss_cons (ps_set (i := 5) nd rfl (Or.inl rfl) (pe_lst pa_nil))
    (pss_cons (ps_for PassesOwn.never rfl (pi_range1 rfl B.range (pa_cons (pe_op op_add pe_int (pe_call GK hr1 rfl mK kK bK .nil pass0 (pa_cons (pv 0) (pa_cons (pv 4) pa_nil)))) pa_nil)) (pg_name (i := 6) nd rfl (Or.inl rfl))
      (pss_cons (ps_set (i := 7) nd rfl (Or.inl rfl) (pe_call GK hr1 rfl mK kK bK .nil pass0 (pa_cons (pv 0) (pa_cons pe_int pa_nil))))
      (pss_one (ps_if (PW.pt (pw_and (pt_cmpR op_lt (pv 7) pe_int (nomark _)) (pw_and1 (pt_cmpR (op_neNil hu) (pv 1) (pe_lst pa_nil) (nomark _)))))
        (pss_one (ps_expr (pe_bm PySem.F.plainAttrs_list PySem.F.slot_list_append PySem.F.type_list_append mt_append (pv 5) (pa_cons (pe_call GD hr rfl mD kD bD .nil pass0 (pa_cons (pv 0) (pa_cons (pv 1) (pa_cons (pv 2) (pa_cons (pv 2) pa_nil))))) pa_nil))))
      (pss_one (ps_if (PW.pt (pw_and (pt_cmpR op_eq (pv 7) pe_int (nomark _)) (pw_and1 (pt_cmpR (op_neNil hu) (pv 3) (pe_lst pa_nil) (nomark _)))))
        (pss_one (ps_expr (pe_bm PySem.F.plainAttrs_list PySem.F.slot_list_append PySem.F.type_list_append mt_append (pv 5) (pa_cons (pe_tup (pa_cons (pe_ix ix_list (pe_lst (pa_cons pe_str (pa_cons pe_str pa_nil))) (pe_call GK hr1 rfl mK kK bK .nil pass0 (pa_cons (pv 0) (pa_cons pe_int pa_nil))) (fun _ _ => rfl)) (pa_cons (pe_call GP hr2 rfl mP kP bP .nil pass0 (pa_cons (pv 0) (pa_cons (pv 3) pa_nil))) pa_nil))) pa_nil))))
      (pss_one (ps_if (PW.pt (pw_and (pt_cmpR op_eq (pv 7) pe_int (nomark _)) (pw_and1 (pt_cmpR (op_neNil hu) (pv 3) (pe_lst pa_nil) (nomark _)))))
        (pss_one (ps_expr (pe_bm PySem.F.plainAttrs_list PySem.F.slot_list_append PySem.F.type_list_append mt_append (pv 5) (pa_cons (pe_tup (pa_cons pe_str (pa_cons (pe_call GP hr2 rfl mP kP bP .nil pass0 (pa_cons (pv 0) (pa_cons (pv 3) pa_nil))) (pa_cons (pe_call GP hr2 rfl mP kP bP .nil pass0 (pa_cons (pv 0) (pa_cons (pv 3) pa_nil))) pa_nil)))) pa_nil))))
      (pss_one (ps_if (PW.pt (pw_and (pt_cmpR op_eq (pv 7) pe_int (nomark _)) (pw_and1 (pt_cmpR (op_neNil hu) (pv 2) (pe_lst pa_nil) (nomark _)))))
        (pss_one (ps_expr (pe_bm PySem.F.plainAttrs_list PySem.F.slot_list_append PySem.F.type_list_append mt_append (pv 5) (pa_cons (pe_tup (pa_cons pe_str (pa_cons (pe_call GP hr2 rfl mP kP bP .nil pass0 (pa_cons (pv 0) (pa_cons (pv 2) pa_nil))) (pa_cons (pe_call GS hr6 rfl mS kS bS .nil pass0 (pa_cons (pv 0) (pa_cons (pv 2) (pa_cons (pe_lst pa_nil) (pa_cons pe_int pa_nil))))) pa_nil)))) pa_nil))))
      (pss_one (ps_if (pt_cmpR op_eq (pv 7) pe_int (nomark _))
        (pss_cons (ps_expr (pe_bm PySem.F.plainAttrs_list PySem.F.slot_list_append PySem.F.type_list_append mt_append (pv 5) (pa_cons (pe_tup (pa_cons pe_str (pa_cons (pe_call GS hr6 rfl mS kS bS .nil pass0 (pa_cons (pv 0) (pa_cons (pv 2) (pa_cons (pe_lst pa_nil) (pa_cons pe_int pa_nil))))) (pa_cons (pe_op op_add (pe_callB call_len_seq rfl B.len PySem.boot_len (pa_cons (pv 5) pa_nil)) pe_int) pa_nil)))) pa_nil)))
        (pss_one (ps_expr (pe_bm PySem.F.plainAttrs_list PySem.F.slot_list_append PySem.F.type_list_append mt_append (pv 5) (pa_cons (pe_tup (pa_cons pe_str (pa_cons (pe_call GS hr6 rfl mS kS bS .nil pass0 (pa_cons (pv 0) (pa_cons (pv 2) (pa_cons (pe_lst pa_nil) (pa_cons pe_int pa_nil))))) pa_nil))) pa_nil)))))
        (pss_one (ps_expr (pe_bm PySem.F.plainAttrs_list PySem.F.slot_list_append PySem.F.type_list_append mt_append (pv 5) (pa_cons (pe_tup (pa_cons pe_str (pa_cons (pe_call GS hr6 rfl mS kS bS .nil pass0 (pa_cons (pv 0) (pa_cons (pv 2) (pa_cons (pe_lst pa_nil) (pa_cons pe_int pa_nil))))) pa_nil))) pa_nil))))))))))))))))
    (pss_cons (ps_if (pt_cmpR op_eq (pe_call GK hr1 rfl mK kK bK .nil pass0 (pa_cons (pv 0) (pa_cons pe_int pa_nil))) pe_int (nomark _)) (pss_one (ps_expr (pe_bm PySem.F.plainAttrs_list PySem.F.slot_list_append PySem.F.type_list_append mt_append (pv 5) (pa_cons (pe_tup (pa_cons pe_str (pa_cons (pe_call GK hr1 rfl mK kK bK .nil pass0 (pa_cons (pv 0) (pa_cons (pe_op op_add (pe_callB call_len_seq rfl B.len PySem.boot_len (pa_cons (pv 5) pa_nil)) pe_int) pa_nil))) pa_nil))) pa_nil)))) pss_nil)
    (pss_one (ps_ret (pe_callTy call_tuple_of rfl B.tuple PyProof.Rows.boot_tuple (pa_cons (pv 5) pa_nil)))))), ?_⟩
  refine seq_asg ⟨Nat.zero_le _, fun rl hrl => ?_⟩
  have L0 : Loop H p rl [] (upd H rl (.lst [])) := ⟨hp.new hrl, Ex.new hrl, upd_same, hrl, hp.ne hrl⟩
  generalize upd H rl (.lst []) = H0 at L0 ⊢
  refine ⟨_, rfl, _, rfl, p, most, rfl, L0.pot, hm0, by omega, fun n H1 n0 n1 hp1 ex1 => ⟨_, _, rfl, rfl, ?_⟩⟩
  refine ⟨1 + n, rfl, by omega, by omega, ?_⟩
  refine for_range (lo := 0) (n := (1 + n).toNat) (fun i σ H' => ∃ (v6 v7 : Option V) (rs : List V), σ = [some (.ref p), some (.ref g), some (.ref a), some (.ref b), some (.int most), some (.ref rl), v6, v7] ∧ Loop H p rl rs H' ∧ i ≤ rs.length ∧ rs.length ≤ 2 * i)
    ⟨none, none, [], rfl, L0.go hp1 ex1, Nat.le_refl _, Nat.le_refl _⟩ ?_ ?_
  · rintro i σ H2 hi ⟨v6, v7, rs, rfl, L2', lo, lr⟩
    have hi' : i < 12 := by omega
    refine seq_asg ⟨_, rfl, p, 10, rfl, L2'.pot, by decide, by decide, fun e H3 e0 e1 hp3 ex3 => ?_⟩
    have L3 := L2'.go hp3 ex3
    have lz : rs.length < sizeLine := s1000 (by omega)
    have X : ∀ {H4 rs}, Loop H p rl rs H4 → Lst H4 p a xs := fun L => hx.ex L.ex
    have Y : ∀ {H4 rs}, Loop H p rl rs H4 → Lst H4 p b ys := fun L => hy.ex L.ex
    have Gg : ∀ {H4 rs}, Loop H p rl rs H4 → Lst H4 p g gs := fun L => hg.ex L.ex
    have GG : ∀ {H4 rs}, Loop H p rl rs H4 → Goals H4 gs := fun L => hG.tk (L.ex.tk hp)
    have one : ∀ y : V, i + 1 ≤ (rs ++ [y]).length ∧ (rs ++ [y]).length ≤ 2 * (i + 1) := fun y => by
      rw [List.length_append]
      simp
      omega
    refine (?h1 : ∀ U : TS, (∀ H4, Loop H p rl rs H4 → U ?D1 ?σ1 H4) → tIfS ?A1 ?T1 U ?D1 ?σ1 H3) _ ?k1
    case h1 =>
      intro U hU
      refine if_ne (says_lt rfl) rfl (Gg L3).at_ (fun r hr hne => ?_) (hU H3 L3) (fun r hr => hU _ (L3.new hr))
      have L4 := L3.new (o := .lst []) hr
      refine ⟨_, rfl, .inl ⟨rfl, _, SqL.of L4.er⟩, _, rfl, _, rfl, _, rfl, _, rfl, p, g, a, a, gs, xs, xs, rfl, L4.pot, Gg L4, hne, GG L4, X L4, X L4, fun v5 H5 hp5 ex5 => ?_⟩
      exact ⟨rl, rs, _, rfl, rfl, (L4.go hp5 ex5).er, lz, _, _, rs ++ [_], rfl, (L4.go hp5 ex5).app _, one _⟩
    case k1 =>
      intro H4 L4
      refine (?h2 : ∀ U : TS, (∀ H5, Loop H p rl rs H5 → U ?D2 ?σ2 H5) → tIfS ?A2 ?T2 U ?D2 ?σ2 H4) _ ?k2
      case h2 =>
        intro U hU
        refine if_ne (says_eq rfl) rfl (Y L4).at_ (fun r hr hne => ?_) (hU H4 L4) (fun r hr => hU _ (L4.new hr))
        have L5 := L4.new (o := .lst []) hr
        generalize upd H4 r (.lst []) = H5 at L5 ⊢
        refine ⟨_, rfl, .inl ⟨rfl, _, SqL.of L5.er⟩, (by show 2 ≤ sizeLine; decide), fun l6 hl6 => ⟨_, rfl, p, 2, rfl, L5.pot.new hl6, by decide, by decide, fun g7 H7 g70 g71 hp7 ex7 => ?_⟩⟩
        have L7 := (L5.new hl6).go hp7 ex7
        have e7 : H7 l6 = some (.lst [.str "take", .str "give"]) := ex7.keep _ _ (L5.pot.ne hl6) upd_same
        obtain ⟨j, rfl⟩ : ∃ j : Nat, g7 = j := ⟨g7.toNat, by omega⟩
        have hj : j < ([V.str "take", .str "give"] : List V).length := by
          show j < 2
          omega
        refine ⟨l6, _, j, _, rfl, rfl, SqL.of e7, atI_nat (List.getElem?_eq_getElem hj), ?_⟩
        refine ⟨_, rfl, _, rfl, p, b, ys, rfl, L7.pot, SqL.of (Y L7).at_, (Y L7).ne, hne, by have := (Y L7).len; omega, fun v8 H8 _ hp8 ex8 => ⟨(by show 2 ≤ sizeLine; decide), fun t9 ht9 => ?_⟩⟩
        exact ⟨rl, rs, _, rfl, rfl, ((L7.go hp8 ex8).new ht9).er, lz, _, _, rs ++ [_], rfl, ((L7.go hp8 ex8).new ht9).app _, one _⟩
      case k2 =>
        intro H5 L5
        refine (?h3 : ∀ U : TS, (∀ H6, Loop H p rl rs H6 → U ?D3 ?σ3 H6) → tIfS ?A3 ?T3 U ?D3 ?σ3 H5) _ ?k3
        case h3 =>
          intro U hU
          refine if_ne (says_eq rfl) rfl (Y L5).at_ (fun r hr hne => ?_) (hU H5 L5) (fun r hr => hU _ (L5.new hr))
          have L6 := L5.new (o := .lst []) hr
          refine ⟨_, rfl, .inl ⟨rfl, _, SqL.of L6.er⟩, _, rfl, _, rfl, p, b, ys, rfl, L6.pot, SqL.of (Y L6).at_, (Y L6).ne, hne, by have := (Y L6).len; omega, fun v7 H7 _ hp7 ex7 => ?_⟩
          have L7 := L6.go hp7 ex7
          refine ⟨_, rfl, _, rfl, p, b, ys, rfl, L7.pot, SqL.of (Y L7).at_, (Y L7).ne, hne, by have := (Y L7).len; omega, fun v8 H8 _ hp8 ex8 => ⟨(by show 3 ≤ sizeLine; decide), fun t9 ht9 => ?_⟩⟩
          exact ⟨rl, rs, _, rfl, rfl, ((L7.go hp8 ex8).new ht9).er, lz, _, _, rs ++ [_], rfl, ((L7.go hp8 ex8).new ht9).app _, one _⟩
        case k3 =>
          intro H6 L6
          refine (?h4 : ∀ U : TS, (∀ H7, Loop H p rl rs H7 → U ?D4 ?σ4 H7) → tIfS ?A4 ?T4 U ?D4 ?σ4 H6) _ ?k4
          case h4 =>
            intro U hU
            refine if_ne (says_eq rfl) rfl (X L6).at_ (fun r hr hne => ?_) (hU H6 L6) (fun r hr => hU _ (L6.new hr))
            have L7 := L6.new (o := .lst []) hr
            refine ⟨_, rfl, .inl ⟨rfl, _, SqL.of L7.er⟩, _, rfl, _, rfl, p, a, xs, rfl, L7.pot, SqL.of (X L7).at_, (X L7).ne, hne, by have := (X L7).len; omega, fun v8 H8 _ hp8 ex8 => ?_⟩
            have L8 := L7.go hp8 ex8
            refine ⟨_, rfl, _, rfl, Nat.zero_le _, fun l9 hl9 => ?_⟩
            have L9 := L8.new (o := .lst []) hl9
            refine ⟨p, a, l9, 2, xs, [], rfl, by decide, L9.pot, X L9, ⟨upd_same, L8.pot.ne hl9, by simp⟩, fun v10 H10 hp10 ex10 => ⟨(by show 3 ≤ sizeLine; decide), fun t11 ht11 => ?_⟩⟩
            exact ⟨rl, rs, _, rfl, rfl, ((L9.go hp10 ex10).new ht11).er, lz, _, _, rs ++ [_], rfl, ((L9.go hp10 ex10).new ht11).app _, one _⟩
          case k4 =>
            intro H7 L7
            refine (?h5 : ∀ U : TS, U ?D5 ?σ5 H7 → tIfS ?A5 ?T5 U ?D5 ?σ5 H7) _ ?k5
            case h5 =>
              intro U hU
              refine if_one (says_eq rfl) (fun _ => ?_) (fun _ => hU)
              refine ⟨_, rfl, .inl ⟨rfl, _, SqL.of L7.er⟩, _, rfl, _, rfl, Nat.zero_le _, fun l8 hl8 => ?_⟩
              have L8 := L7.new (o := .lst []) hl8
              refine ⟨p, a, l8, 2, xs, [], rfl, by decide, L8.pot, X L8, ⟨upd_same, L7.pot.ne hl8, by simp⟩, fun v9 H9 hp9 ex9 => ?_⟩
              have L9 := L8.go hp9 ex9
              refine ⟨_, rfl, rl, _, rfl, .inl (SqL.of L9.er), _, _, rfl, rfl, (by show 3 ≤ sizeLine; decide), fun t10 ht10 => ⟨rl, rs, _, rfl, rfl, (L9.new ht10).er, lz, ?_⟩⟩
              have L11 := (L9.new (o := .tup [.str "unless", v9, .int ((rs.length : Int) + 2)]) ht10).app [.ref t10]
              refine ⟨_, rfl, .inl ⟨rfl, _, SqL.of L11.er⟩, _, rfl, _, rfl, Nat.zero_le _, fun l12 hl12 => ?_⟩
              have L12 := L11.new (o := .lst []) hl12
              refine ⟨p, a, l12, 1, xs, [], rfl, by decide, L12.pot, X L12, ⟨upd_same, L11.pot.ne hl12, by simp⟩, fun v13 H13 hp13 ex13 => ⟨(by show 2 ≤ sizeLine; decide), fun t14 ht14 => ?_⟩⟩
              exact ⟨rl, _, _, rfl, rfl, ((L12.go hp13 ex13).new ht14).er, s1000 (by rw [List.length_append]; simp; omega), _, _, _, rfl, ((L12.go hp13 ex13).new ht14).app _, (by rw [List.length_append, List.length_append]; simp; omega), (by rw [List.length_append, List.length_append]; simp; omega)⟩
            case k5 =>
              refine ⟨_, rfl, .inl ⟨rfl, _, SqL.of L7.er⟩, _, rfl, _, rfl, Nat.zero_le _, fun l8 hl8 => ?_⟩
              have L8 := L7.new (o := .lst []) hl8
              refine ⟨p, a, l8, 1, xs, [], rfl, by decide, L8.pot, X L8, ⟨upd_same, L7.pot.ne hl8, by simp⟩, fun v9 H9 hp9 ex9 => ⟨(by show 2 ≤ sizeLine; decide), fun t10 ht10 => ?_⟩⟩
              exact ⟨rl, rs, _, rfl, rfl, ((L8.go hp9 ex9).new ht10).er, lz, _, _, rs ++ [_], rfl, ((L8.go hp9 ex9).new ht10).app _, one _⟩
  · rintro σ H2 ⟨v6, v7, rs, rfl, L2', lo, lr⟩
    have lo1 : 1 ≤ rs.length := by omega
    have hi1 : rs.length ≤ 100 := by omega
    dsimp only
    refine (?h6 : ∀ R : TS, (∀ rs' H3, Loop H p rl rs' H3 → 0 < rs'.length → R ?D6 ?σ6 H3) → tSeq ?c6 R ?D6 ?σ6 H2) _ ?k6
    case h6 =>
      intro R hR
      refine ⟨_, rfl, p, 5, rfl, L2'.pot, by decide, by decide, fun g3 H3 _ _ hp3 ex3 => ⟨rfl, _, rfl, ite2 (fun c => ?_) (fun c => hR rs H3 (L2'.go hp3 ex3) (by omega))⟩⟩
      have L3 := L2'.go hp3 ex3
      refine ⟨_, rfl, .inl ⟨rfl, _, SqL.of L3.er⟩, _, rfl, _, rfl, rl, _, rfl, .inl (SqL.of L3.er), _, _, rfl, rfl, p, _, rfl, L3.pot, by omega, by omega, fun g4 H4 _ _ hp4 ex4 => ⟨(by show 2 ≤ sizeLine; decide), fun t5 ht5 => ?_⟩⟩
      exact ⟨rl, rs, _, rfl, rfl, ((L3.go hp4 ex4).new ht5).er, s1000 (by omega), hR _ _ (((L3.go hp4 ex4).new ht5).app _) (by rw [List.length_append]; simp)⟩
    case k6 =>
      intro rs' H3 L3 h0
      exact ⟨_, rfl, rl, rs', rfl, .inl ⟨SqL.of L3.er, fun l hl => k l rs' _ upd_same h0 (L3.pot.new hl) (L3.ex.trans (Ex.new hl))⟩⟩
end
end K14

set_option Elab.async false
set_option linter.all false
set_option maxRecDepth 100000
set_option maxHeartbeats 4000000
namespace K14
open PySem L2 PyProof.Rows
open Kx (same_upd free_upd)
abbrev sRoom : Stmt := top 20
/-- a comprehension over a list that draws from the pot -/
theorem comp_draw {β : Type} {R : Hp → V → β → Prop} (rk : ∀ {H H' : Hp} {u : V} {b : β}, Tk H H' → R H u b → R H' u b) {K : PySem.W.Frag} {p l D : Addr} {ws : List V} {H0 : Hp} {g : TG} {te : TE} {Q : VK} {σ0 : L2.St} (S : L2.St → Prop) (h0 : S σ0) (hp : PotW H0 p) (hl : Lst H0 p l ws) (hD : H0 D = none)
    (hs : ∀ (x : V) (σ' : L2.St) (H' : Hp) (k : L2.St → V → Hp → Prop), x ∈ ws → S σ' → PotW H' p → Ex p H0 H' → (∀ σ3 y H5 b, S σ3 → R H5 y b → PotW H5 p → Ex p H' H5 → k σ3 y H5) → g x σ' H' fun σ3 H3 => te σ3 H3 fun y H5 => k σ3 y H5)
    (hd : ∀ us bs H', Paired (R H') us bs → us.length = ws.length → H' D = some (.lst us) → PotW H' p → Ex p H0 H' → Q (.ref D) H') : CompW (Itl K l) g (fun _ H Q => Q true H) te Q D σ0 (upd H0 D (.lst [])) := by
  have nDp : D ≠ p := hp.ne hD
  have nlD : l ≠ D := fun e => by rw [← e, hl.at_] at hD; cases hD
  refine comp_list (K := K) (a := l) (xs := ws) (fun i σ' H' => ∃ (us : List V) (bs : List β), S σ' ∧ H' D = some (.lst us) ∧ us.length = i ∧ Paired (R H') us bs ∧ PotW H' p ∧ Ex p H0 H')
    ⟨[], [], h0, upd_same, rfl, .nil, hp.new hD, Ex.new hD⟩ (fun i σ' H' _ ⟨_, _, _, _, _, _, _, e⟩ => SqL.of (hl.ex e).at_) ?_ ?_
  · rintro i x σ' H' hi ⟨us, bs, hS, gD, lu, hP, hp', ex⟩
    have hil : i < ws.length := (List.getElem?_eq_some_iff.mp hi).1
    refine hs x σ' H' (fun σ3 y H5 => ∃ xs, H5 D = some (.lst xs) ∧ xs.length < sizeLine ∧ ∃ (us : List V) (bs : List β), S σ3 ∧ upd H5 D (.lst (xs ++ [y])) D = some (.lst us) ∧ us.length = i + 1 ∧ Paired (R (upd H5 D (.lst (xs ++ [y])))) us bs ∧ PotW (upd H5 D (.lst (xs ++ [y]))) p ∧ Ex p H0 (upd H5 D (.lst (xs ++ [y])))) (List.mem_of_getElem? hi) hS hp' ex fun σ3 y H5 b hS3 hy hp5 ex5 => ?_
    have g5 := ex5.keep _ _ nDp gD
    have tk5 : Tk H5 (upd H5 D (.lst (us ++ [y]))) := fun c zs z => by
      rw [upd_ne (fun e => by rw [e, g5] at z; cases z)]
      exact z
    refine ⟨us, g5, ?_, us ++ [y], bs ++ [b], hS3, upd_same, by rw [List.length_append, lu]; rfl, ?_, hp5.put nDp, (ex.trans ex5).put hD⟩
    · have := hl.len
      exact s1000 (by omega)
    · have a1 : Paired (R (upd H5 D (.lst (us ++ [y])))) us bs := L2.Paired.mapP hP fun _ _ z => rk (ex5.tk hp' |>.trans tk5) z
      have app : ∀ {us : List V} {bs : List β} {F : V → β → Prop}, Paired F us bs → F y b → Paired F (us ++ [y]) (bs ++ [b]) := fun {us bs F} h hy => by
        induction h with
        | nil => exact .cons hy .nil
        | cons z _ ih => exact .cons z ih
      exact app a1 (rk tk5 hy)
  · rintro σ' H' ⟨us, bs, hS, gD, lu, hP, hp', ex⟩
    exact hd us bs H' hP lu gD hp' ex
/-- a room, its name and its deeds -/
def RoomX (H : Hp) (u : V) (n : Str) (d : RoomD) : Prop := ∃ a m t b e us bs ds, u = .ref a ∧ H a = some (.tup [.str n, m, .ref t, .ref b, .ref e]) ∧ H t = some (.tup us) ∧ Paired (PairR H) us d.vals ∧ H b = some (.tup bs) ∧ bs.length = d.nb ∧ d.vals.length ≤ 1000 ∧ d.nb ≤ 1000 ∧ H e = some (.tup ds) ∧ Goals H ds ∧ ds.length ≤ 10 ∧ Two H bs
theorem RoomX.tk {H H' : Hp} (k : Tk H H') {u : V} {n : Str} {d : RoomD} : RoomX H u n d → RoomX H' u n d := fun ⟨a, m, t, b, e, us, bs, ds, e1, h1, h2, h3, h4, h5, h6, h7, h8, h9, h10, h11⟩ => ⟨a, m, t, b, e, us, bs, ds, e1, k _ _ h1, k _ _ h2, pairs_tk k h3, k _ _ h4, h5, h6, h7, k _ _ h8, h9.tk k, h10, h11.tk k⟩
def PairAny (H : Hp) (u : V) (_ : Unit) : Prop := ∃ a x y, u = .ref a ∧ H a = some (.tup [x, y])
theorem goals_of {H : Hp} : ∀ {us : List V} {bs : List Unit}, Paired (PairAny H) us bs → Goals H us
  | _, _, .nil => fun v hv => by simp at hv
  | _, _, .cons h t => fun v hv => by
    rcases List.mem_cons.mp hv with e | e
    · rw [e]; exact h
    · exact goals_of t v e
theorem goals_rep {H : Hp} {us : List V} {k : Nat} (h : Goals H us) : Goals H (List.replicate k us).flatten := fun v hv => by
  obtain ⟨l, hl, hv⟩ := List.mem_flatten.mp hv
  rw [(List.mem_replicate.mp hl).2] at hv
  exact h v hv
theorem goals_app {H : Hp} {us vs : List V} (h : Goals H us) (h' : Goals H vs) : Goals H (us ++ vs) := fun v hv => by
  rcases List.mem_append.mp hv with e | e
  · exact h v e
  · exact h' v e
section
variable {P : Program} {w : World} {K : PySem.W.Frag} {mg : Str → Option Value} {base : Heap} {f gK gP gW gD : Addr} {fd dK dP dW dD : FuncData}
def spRoom : Sp := fun vs H Q _ => ∃ (p g ms : Addr) (n : Str) (bm : Int) (gs mans : List V), vs = [.ref p, .str n, .ref g, .ref ms, .int bm] ∧ PotW H p ∧ Lst H p g gs ∧ gs.length ≤ 100 ∧ Goals H gs ∧ Lst H p ms mans ∧ 0 < mans.length ∧ (∀ v ∈ mans, ∃ s, v = .str s) ∧ 0 ≤ bm ∧ bm ≤ 5 ∧ ∀ (v : V) (d : RoomD) (H' : Hp), RoomX H' v n d → PotW H' p → Ex p H H' → Q v H'
theorem scRoom : FnScope ["_law_pot_here", "_law_name", "_law_goals", "_law_manners", "_law_bells_most", "_law_manner", "_law_things", "_law_bells", "_law_deeds", "_law_word", "_law_here", "_law_some", "_law_sorts"] ["_law_pot_here", "_law_name", "_law_goals", "_law_manners", "_law_bells_most"] (defScope sRoom) := ⟨rfl, rfl, rfl, by decide +kernel, rfl, by decide +kernel, by decide +kernel⟩
theorem caughtR1 {cdv : Value} {A : Around} {outer : List Env} {s : Shared} {H : Hp} {E : XK} :
    CompScope (cxOf CX0 P w K mg base ["_law_pot_here", "_law_name", "_law_goals", "_law_manners", "_law_bells_most", "_law_manner", "_law_things", "_law_bells", "_law_deeds", "_law_word", "_law_here", "_law_some", "_law_sorts"] "_law_room" (defScope sRoom) f cdv A outer s H E).nox ["_law_deed_here", "_law_name"] [none, some 1]
      { kind := .function, names := [(".0", .local), ("_law_deed_here", .local), ("_law_name", .free)], isGenerator := false, isCoroutine := false, more := [] } [("_law_name", s.heap.objs.size + 2)] where
  kind := rfl
  nocell := by decide +kernel
  names := by decide +kernel
  clos := rfl
  sub := fun x c h => by
    have h' := PySem.mem_of_lookup h
    cases List.mem_singleton.mp h'
    rfl
  has := fun x h => by
    have h' : List.lookup x ([(".0", NameKind.local), ("_law_deed_here", .local), ("_law_name", .cell)] : List (Str × NameKind)) = some .cell ∨ List.lookup x ([(".0", NameKind.local), ("_law_deed_here", .local), ("_law_name", .cell)] : List (Str × NameKind)) = some .free := h
    have e : x = "_law_name" := by
      rcases h' with h' | h'
      · have := PySem.mem_of_lookup h'
        simpa using this
      · have := PySem.mem_of_lookup h'
        simp at this
    subst e
    exact ⟨_, rfl⟩
  cap := fun k j x h1 h2 => by
    match k, h1, h2 with
    | 0, h1, _ => cases h1
    | 1, h1, h2 =>
      cases h1
      cases h2
      exact ⟨rfl, .inl rfl, .inl rfl⟩
    | k + 2, h1, _ => cases h1
  len := rfl
theorem caughtR2 {cdv : Value} {A : Around} {outer : List Env} {s : Shared} {H : Hp} {E : XK} :
    CompScope (cxOf CX0 P w K mg base ["_law_pot_here", "_law_name", "_law_goals", "_law_manners", "_law_bells_most", "_law_manner", "_law_things", "_law_bells", "_law_deeds", "_law_word", "_law_here", "_law_some", "_law_sorts"] "_law_room" (defScope sRoom) f cdv A outer s H E).nox ["_law_bell", "_law_pot_here"] [none, some 0]
      { kind := .function, names := [(".0", .local), ("_law_bell", .local), ("_law_take", .globalImplicit), ("_law_pot_here", .free)], isGenerator := false, isCoroutine := false, more := [] } [("_law_pot_here", s.heap.objs.size + 1)] where
  kind := rfl
  nocell := by decide +kernel
  names := by decide +kernel
  clos := rfl
  sub := fun x c h => by
    have h' := PySem.mem_of_lookup h
    cases List.mem_singleton.mp h'
    rfl
  has := fun x h => by
    have h' : List.lookup x ([(".0", NameKind.local), ("_law_bell", .local), ("_law_take", .globalImplicit), ("_law_pot_here", .cell)] : List (Str × NameKind)) = some .cell ∨ List.lookup x ([(".0", NameKind.local), ("_law_bell", .local), ("_law_take", .globalImplicit), ("_law_pot_here", .cell)] : List (Str × NameKind)) = some .free := h
    have e : x = "_law_pot_here" := by
      rcases h' with h' | h'
      · have := PySem.mem_of_lookup h'
        simpa using this
      · have := PySem.mem_of_lookup h'
        simp at this
    subst e
    exact ⟨_, rfl⟩
  cap := fun k j x h1 h2 => by
    match k, h1, h2 with
    | 0, h1, _ => cases h1
    | 1, h1, h2 =>
      cases h1
      cases h2
      exact ⟨rfl, .inl rfl, .inl rfl⟩
    | k + 2, h1, _ => cases h1
  len := rfl
theorem caughtR3 {cdv : Value} {A : Around} {outer : List Env} {s : Shared} {H : Hp} {E : XK} :
    CompScope (cxOf CX0 P w K mg base ["_law_pot_here", "_law_name", "_law_goals", "_law_manners", "_law_bells_most", "_law_manner", "_law_things", "_law_bells", "_law_deeds", "_law_word", "_law_here", "_law_some", "_law_sorts"] "_law_room" (defScope sRoom) f cdv A outer s H E).nox ["_law_thing", "_law_pot_here"] [none, some 0]
      { kind := .function, names := [(".0", .local), ("_law_thing", .local), ("_law_take", .globalImplicit), ("_law_pot_here", .free)], isGenerator := false, isCoroutine := false, more := [] } [("_law_pot_here", s.heap.objs.size + 1)] where
  kind := rfl
  nocell := by decide +kernel
  names := by decide +kernel
  clos := rfl
  sub := fun x c h => by
    have h' := PySem.mem_of_lookup h
    cases List.mem_singleton.mp h'
    rfl
  has := fun x h => by
    have h' : List.lookup x ([(".0", NameKind.local), ("_law_thing", .local), ("_law_take", .globalImplicit), ("_law_pot_here", .cell)] : List (Str × NameKind)) = some .cell ∨ List.lookup x ([(".0", NameKind.local), ("_law_thing", .local), ("_law_take", .globalImplicit), ("_law_pot_here", .cell)] : List (Str × NameKind)) = some .free := h
    have e : x = "_law_pot_here" := by
      rcases h' with h' | h'
      · have := PySem.mem_of_lookup h'
        simpa using this
      · have := PySem.mem_of_lookup h'
        simp at this
    subst e
    exact ⟨_, rfl⟩
  cap := fun k j x h1 h2 => by
    match k, h1, h2 with
    | 0, h1, _ => cases h1
    | 1, h1, h2 =>
      cases h1
      cases h2
      exact ⟨rfl, .inl rfl, .inl rfl⟩
    | k + 2, h1, _ => cases h1
  len := rfl
theorem ok_room (F : Fun K "_law_room" "_law_room" sRoom f fd) (B : Bg mg)
    (GK : FnOk P w K mg base CX0 1 gK dK ["_law_pot_here", "_law_many"] spTake) (bK : Binds K dK ["_law_pot_here", "_law_many"] []) (kK : PySem.W.keepIn K (.ref gK) = true) (mK : mg "_law_take" = some (.ref gK))
    (GP : FnOk P w K mg base CX0 2 gP dP ["_law_pot_here", "_law_some"] (spPick K)) (bP : Binds K dP ["_law_pot_here", "_law_some"] []) (kP : PySem.W.keepIn K (.ref gP) = true) (mP : mg "_law_pick" = some (.ref gP))
    (GW : FnOk P w K mg base CX0 2 gW dW ["_law_pot_here", "_law_stem", "_law_many"] spWords) (bW : Binds K dW ["_law_pot_here", "_law_stem", "_law_many"] []) (kW : PySem.W.keepIn K (.ref gW) = true) (mW : mg "_law_words" = some (.ref gW))
    (GD : FnOk P w K mg base CX0 8 gD dD ["_law_pot_here", "_law_room_here", "_law_goals", "_law_most"] spDeed) (bD : Binds K dD ["_law_pot_here", "_law_room_here", "_law_goals", "_law_most"] []) (kD : PySem.W.keepIn K (.ref gD) = true) (mD : mg "_law_deed" = some (.ref gD)) :
    FnOk P w K mg base CX0 9 f fd ["_law_pot_here", "_law_name", "_law_goals", "_law_manners", "_law_bells_most"] spRoom := by
  refine F.ok scRoom (fun vs H Q E h => ?_) (fun cdv A outer s H vs Q E hr h => ?_)
  · obtain ⟨p, g, ms, n, bm, gs, mans, rfl, _⟩ := h
    rfl
  obtain ⟨p, g, ms, n, bm, gs, mans, rfl, hp, hg, hg1, hG, hm, hm0, hms, b0, b4, k⟩ := h
  have nd := scRoom.nd
  have hr1 : Room 1 _ := hr.mono (by decide)
  have hr2 : Room 2 _ := hr.mono (by decide)
  have n1 : (["_law_deed_here", "_law_name"] : List Str).Nodup := by decide +kernel
  have n2 : (["_law_bell", "_law_pot_here"] : List Str).Nodup := by decide +kernel
  have n3 : (["_law_thing", "_law_pot_here"] : List Str).Nodup := by decide +kernel
  refine ⟨_, pss_cons (ps_set (i := 5) nd rfl (Or.inl rfl) (pe_call GP hr2 rfl mP kP bP .nil pass0 (pa_cons (pv 0) (pa_cons (pv 3) pa_nil))))
    (pss_cons (ps_set (i := 6) nd rfl (Or.inl rfl) (pe_call GW hr2 rfl mW kW bW .nil pass0 (pa_cons (pv 0) (pa_cons pe_str (pa_cons (pe_ix ix_list (pe_lst (pa_cons pe_int (pa_cons pe_int (pa_cons pe_int (pa_cons pe_int pa_nil))))) (pe_call GK hr1 rfl mK kK bK .nil pass0 (pa_cons (pv 0) (pa_cons pe_int pa_nil))) (fun _ _ => rfl)) pa_nil)))))
    (pss_cons (ps_set (i := 7) nd rfl (Or.inl rfl) (pe_call GW hr2 rfl mW kW bW .nil pass0 (pa_cons (pv 0) (pa_cons pe_str (pa_cons (pe_call GK hr1 rfl mK kK bK .nil pass0 (pa_cons (pv 0) (pa_cons (pe_op op_add (pv 4) pe_int) pa_nil))) pa_nil)))))
    (pss_cons (ps_set (i := 8) nd rfl (Or.inl rfl) (pe_lst pa_nil))
    (pss_cons (ps_for PassesOwn.never rfl (pi_list (pe_call GW hr2 rfl mW kW bW .nil pass0 (pa_cons (pv 0) (pa_cons pe_str (pa_cons (pe_op op_add pe_int (pe_call GK hr1 rfl mK kK bK .nil pass0 (pa_cons (pv 0) (pa_cons pe_int pa_nil)))) pa_nil))))) (pg_name (i := 9) nd rfl (Or.inl rfl))
      (pss_cons (ps_comp (N := ["_law_deed_here", "_law_name"]) caughtR1 rfl (pi_list (pv 8)) (fun C s H fp => pg_name (i := 0) n1 rfl (Or.inl rfl)) (fun C s H fp => pf_nil) (fun C s H fp => pe_tup (pa_cons (pv 1) (pa_cons (pe_ix (ix_tupK (K := K) rfl) (pv 0) pe_int (fun _ _ => rfl)) pa_nil))) (pg_name (i := 10) nd rfl (Or.inl rfl)))
      (pss_cons (ps_set (i := 11) nd rfl (Or.inl rfl) (pe_op op_cat (pv 2) (pe_op op_rep (pv 10) (pe_callTy call_int1 rfl B.int PyProof.Rows.boot_int (pa_cons (pe_cmpR op_eq (pe_call GK hr1 rfl mK kK bK .nil pass0 (pa_cons (pv 0) (pa_cons pe_int pa_nil))) pe_int (nomark _)) pa_nil)))))
      (pss_one (ps_expr (pe_bm PySem.F.plainAttrs_list PySem.F.slot_list_append PySem.F.type_list_append mt_append (pv 8) (pa_cons (pe_tup (pa_cons (pv 9) (pa_cons (pe_call GD hr rfl mD kD bD .nil pass0 (pa_cons (pv 0) (pa_cons (pe_tup (pa_cons (pv 5) (pa_cons (pv 6) (pa_cons (pv 7) pa_nil)))) (pa_cons (pv 11) (pa_cons pe_int pa_nil))))) pa_nil))) pa_nil)))))))
    (pss_cons (ps_set (i := 12) nd rfl (Or.inl rfl) (pe_callTy call_tuple_of rfl B.tuple PyProof.Rows.boot_tuple (pa_cons (pe_comp (N := ["_law_bell", "_law_pot_here"]) caughtR2 rfl (pi_list (pv 7)) (fun C s H fp => pg_name (i := 0) n2 rfl (Or.inl rfl)) (fun C s H fp => pf_nil) (fun C s H fp => pe_tup (pa_cons (pv 0) (pa_cons (pe_ix (ix_listK (K := K) rfl) (pe_lst (pa_cons pe_str (pa_cons pe_str pa_nil))) (pe_call GK hr1 rfl mK kK bK .nil pass0 (pa_cons (pv 1) (pa_cons pe_int pa_nil))) (fun _ _ => rfl)) pa_nil)))) pa_nil)))
    (pss_one (ps_ret (pe_tup (pa_cons (pv 1) (pa_cons (pv 5) (pa_cons (pe_callTy call_tuple_of rfl B.tuple PyProof.Rows.boot_tuple (pa_cons (pe_comp (N := ["_law_thing", "_law_pot_here"]) caughtR3 rfl (pi_list (pv 6)) (fun C s H fp => pg_name (i := 0) n3 rfl (Or.inl rfl)) (fun C s H fp => pf_nil) (fun C s H fp => pe_tup (pa_cons (pv 0) (pa_cons (pe_call GK hr1 rfl mK kK bK .nil pass0 (pa_cons (pv 1) (pa_cons pe_int pa_nil))) pa_nil)))) pa_nil))
      (pa_cons (pv 12) (pa_cons (pe_callTy call_tuple_of rfl B.tuple PyProof.Rows.boot_tuple (pa_cons (pv 8) pa_nil)) pa_nil))))))))))))), ?_⟩
  refine seq_asg ⟨_, rfl, _, rfl, p, ms, mans, rfl, hp, SqL.of hm.at_, hm.ne, hm0, by have := hm.len; omega, fun mv H1 hv hp1 ex1 => ?_⟩
  obtain ⟨mn, rfl⟩ := hms mv hv
  refine seq_asg ⟨_, rfl, (by show 4 ≤ sizeLine; decide), fun l2 hl2 => ⟨_, rfl, p, 4, rfl, hp1.new hl2, by decide, by decide, fun g2 H2 g20 g21 hp2 ex2 => ?_⟩⟩
  have e2 : H2 l2 = some (.lst [.int 1, .int 1, .int 2, .int 0]) := ex2.keep _ _ (hp1.ne hl2) upd_same
  obtain ⟨m, am, m0, m6⟩ : ∃ m : Int, atI [V.int 1, .int 1, .int 2, .int 0] g2 = some (.int m) ∧ 0 ≤ m ∧ m ≤ 6 := by
    have : g2 = 0 ∨ g2 = 1 ∨ g2 = 2 ∨ g2 = 3 := by omega
    rcases this with rfl | rfl | rfl | rfl
    · exact ⟨1, rfl, by decide, by decide⟩
    · exact ⟨1, rfl, by decide, by decide⟩
    · exact ⟨2, rfl, by decide, by decide⟩
    · exact ⟨0, rfl, by decide, by decide⟩
  have xA := ex1.trans ((Ex.new (o := .lst [.int 1, .int 1, .int 2, .int 0]) hl2).trans ex2)
  refine ⟨l2, _, g2, _, rfl, rfl, SqL.of e2, am, p, "", m, rfl, hp2, by decide, m0, m6, fun tl ts H3 e3 t3 _ f3 hp3 ex3 => ?_⟩
  have xB := xA.trans ex3
  have lt : Lst H3 p tl (ts.map V.str) := ⟨e3, hp2.ne f3, by rw [List.length_map]; omega⟩
  refine seq_asg ⟨_, rfl, _, rfl, _, rfl, _, _, rfl, rfl, p, bm + 1, rfl, hp3, by omega, by omega, fun g4 H4 g40 g41 hp4 ex4 => ⟨p, "", g4, rfl, hp4, by decide, g40, by omega, fun bl bs H5 e5 t5 _ f5 hp5 ex5 => ?_⟩⟩
  have xC := xB.trans (ex4.trans ex5)
  have lt5 := lt.ex (ex4.trans ex5)
  have lb5 : Lst H5 p bl (bs.map V.str) := ⟨e5, hp4.ne f5, by rw [List.length_map]; omega⟩
  refine seq_asg ⟨Nat.zero_le _, fun dl hdl => ?_⟩
  have nd0 := xC.free _ hdl
  have ntd : tl ≠ dl := fun e => by have := lt5.at_; rw [e, hdl] at this; cases this
  have nbd : bl ≠ dl := fun e => by have := lb5.at_; rw [e, hdl] at this; cases this
  have L6 : Loop H p dl [] (upd H5 dl (.lst [])) := ⟨hp5.new hdl, xC.trans (Ex.new hdl), upd_same, nd0, hp5.ne hdl⟩
  have lt6 := lt5.ex (Ex.new (o := .lst []) hdl)
  have lb6 := lb5.ex (Ex.new (o := .lst []) hdl)
  generalize upd H5 dl (.lst []) = H6 at L6 lt6 lb6 ⊢
  refine ⟨_, rfl, _, rfl, p, 3, rfl, L6.pot, by decide, by decide, fun g7 H7 g70 g71 hp7 ex7 => ⟨_, _, rfl, rfl, p, "", 1 + g7, rfl, hp7, by decide, by omega, by omega, fun wl wds H8 e8 t8 _ f8 hp8 ex8 => ?_⟩⟩
  have L8 := (L6.go hp7 ex7).go hp8 ex8
  have nwd : wl ≠ dl := fun e => by have := (L6.go hp7 ex7).er; rw [← e, f8] at this; cases this
  have lw8 : Lst H8 p wl (wds.map V.str) := ⟨e8, hp7.ne f8, by rw [List.length_map]; omega⟩
  refine ⟨wl, rfl, ⟨_, SqL.of e8⟩, ?_⟩
  refine for_list (K := K) (a := wl) (xs := wds.map V.str) (fun i σ H' => ∃ (v9 v10 v11 : Option V) (ds : List V), σ = [some (.ref p), some (.str n), some (.ref g), some (.ref ms), some (.int bm), some (.str mn), some (.ref tl), some (.ref bl), some (.ref dl), v9, v10, v11, none] ∧ Loop H p dl ds H' ∧ Goals H' ds ∧ ds.length = i ∧ Lst H' p tl (ts.map V.str) ∧ Lst H' p bl (bs.map V.str) ∧ Lst H' p wl (wds.map V.str))
    ⟨none, none, none, [], rfl, L8, (fun v hv => by simp at hv), rfl, (lt6.ex ex7).ex ex8, (lb6.ex ex7).ex ex8, lw8⟩ (fun i σ H' _ ⟨_, _, _, _, _, _, _, _, _, _, z⟩ => SqL.of z.at_) ?_ ?_
  · rintro i u σ H9 hi ⟨v9, v10, v11, ds, rfl, L9, G9, ld, lt9, lb9, lw9⟩
    have hil : i < (wds.map V.str).length := (List.getElem?_eq_some_iff.mp hi).1
    rw [List.length_map] at hil
    refine seq_asg ?_
    refine ⟨_, rfl, dl, rfl, ⟨_, SqL.of L9.er⟩, fun D hD => comp_draw (R := PairAny) (fun k ⟨a, x, y, e, h⟩ => ⟨a, x, y, e, k _ _ h⟩) (fun σ => ∃ v0 : Option V, σ = [v0, some (.str n)]) ⟨none, rfl⟩ L9.pot (⟨L9.er, L9.ne, by omega⟩ : Lst H9 p dl ds) hD ?_ ?_⟩
    · rintro x σ' H' kk hx ⟨v0, rfl⟩ hp' ex' hk
      obtain ⟨r, x1, y1, rfl, hr⟩ := G9 x hx
      refine ⟨_, rfl, _, rfl, r, _, 0, x1, rfl, rfl, SqT.of (ex'.tk L9.pot _ _ hr), rfl, (by show 2 ≤ sizeLine; decide), fun t ht => ?_⟩
      exact hk _ _ _ () ⟨_, rfl⟩ ⟨t, _, _, rfl, upd_same⟩ (hp'.new ht) (Ex.new ht)
    intro us bs1 H10 hP lu gD hp10 ex10
    have L10 := L9.go hp10 ex10
    have nDp : D ≠ p := L9.pot.ne hD
    dsimp only
    refine seq_asg ?_
    refine ⟨_, rfl, _, rfl, _, rfl, p, 5, rfl, hp10, by decide, by decide, fun g11 H11 _ _ hp11 ex11 => ⟨rfl, .inr ⟨_, rfl, ?_⟩⟩⟩
    have L11 := L10.go hp11 ex11
    have gD11 := ex11.keep _ _ nDp gD
    have G11 : Goals H11 us := (goals_of hP).tk (ex11.tk hp10)
    have kb : ∀ b : Bool, ((if b = true then (1 : Int) else 0).toNat ≤ 1) ∧ -(2 ^ 63) ≤ (if b = true then (1 : Int) else 0) ∧ (if b = true then (1 : Int) else 0) < 2 ^ 63 := by decide
    generalize decide (V.int g11 = V.int 0) = bb
    obtain ⟨kb1, kb2, kb3⟩ := kb bb
    generalize (if bb = true then (1 : Int) else 0) = kk at kb1 kb2 kb3 ⊢
    have mulb : us.length * kk.toNat ≤ 100 := by
      have : us.length * kk.toNat ≤ us.length * 1 := Nat.mul_le_mul_left _ kb1
      omega
    refine ⟨D, kk, us, rfl, rfl, gD11, kb2, kb3, Nat.le_of_lt (s1000 (by omega)), fun l12 hl12 => ?_⟩
    have L12 := L11.new (o := .lst (List.replicate kk.toNat us).flatten) hl12
    have lfl : (List.replicate kk.toNat us).flatten.length ≤ 100 := by
      rw [len_rep, Nat.mul_comm]
      exact mulb
    refine ⟨g, l12, gs, _, rfl, rfl, (hg.ex L12.ex).at_, upd_same, ?_, fun l13 hl13 => ?_⟩
    · exact Nat.le_of_lt (s1000 (by omega))
    have L13 := L12.new (o := .lst (gs ++ (List.replicate kk.toNat us).flatten)) hl13
    have G13 : Goals (upd (upd H11 l12 (.lst (List.replicate kk.toNat us).flatten)) l13 (.lst (gs ++ (List.replicate kk.toNat us).flatten))) (gs ++ (List.replicate kk.toNat us).flatten) := goals_app (hG.tk (L13.ex.tk hp)) (goals_rep (G11.tk (((Ex.new (p := p) hl12).trans (Ex.new hl13)).tk hp11)))
    have ex93 := ex10.trans (ex11.trans ((Ex.new (o := .lst (List.replicate kk.toNat us).flatten) hl12).trans (Ex.new (o := .lst (gs ++ (List.replicate kk.toNat us).flatten)) hl13)))
    have l13' : Lst (upd (upd H11 l12 (.lst (List.replicate kk.toNat us).flatten)) l13 (.lst (gs ++ (List.replicate kk.toNat us).flatten))) p l13 (gs ++ (List.replicate kk.toNat us).flatten) := ⟨upd_same, L12.pot.ne hl13, by rw [List.length_append]; omega⟩
    have lt13 := lt9.ex ex93
    have lb13 := lb9.ex ex93
    have lw13 := lw9.ex ex93
    have G9' : Goals (upd (upd H11 l12 (.lst (List.replicate kk.toNat us).flatten)) l13 (.lst (gs ++ (List.replicate kk.toNat us).flatten))) ds := G9.tk (ex93.tk L9.pot)
    generalize upd (upd H11 l12 (.lst (List.replicate kk.toNat us).flatten)) l13 (.lst (gs ++ (List.replicate kk.toNat us).flatten)) = H13 at L13 G13 l13' lt13 lb13 lw13 G9' ⊢
    refine ⟨_, rfl, .inl ⟨rfl, _, SqL.of L13.er⟩, _, rfl, _, rfl, _, rfl, _, rfl, _, rfl, (by show 3 ≤ sizeLine; decide), fun t14 ht14 => ⟨_, rfl, ?_⟩⟩
    have L14 := L13.new (o := .tup [.str mn, .ref tl, .ref bl]) ht14
    have x14 := Ex.new (p := p) (o := .tup [.str mn, .ref tl, .ref bl]) ht14
    refine ⟨p, t14, l13, tl, bl, mn, 4, _, _, _, rfl, L14.pot, upd_same, lt13.ex x14, (by rw [List.length_map]; omega), lb13.ex x14, l13'.ex x14, G13.tk (x14.tk L13.pot), by decide, by decide, fun pv H15 hp15 ex15 => ⟨(by show 2 ≤ sizeLine; decide), fun t16 ht16 => ?_⟩⟩
    have L16 := (L14.go hp15 ex15).new (o := .tup [u, pv]) ht16
    have x16 := x14.trans (ex15.trans (Ex.new (o := .tup [u, pv]) ht16))
    have tk16 := x16.tk L13.pot
    refine ⟨dl, ds, _, rfl, rfl, L16.er, s1000 (by omega), _, _, _, ds ++ [.ref t16], rfl, L16.app _, ?_, (by rw [List.length_append, ld]; rfl), (lt13.ex x16).put ntd, (lb13.ex x16).put nbd, (lw13.ex x16).put nwd⟩
    have tkd : ∀ {H : Hp} {o : HO}, H dl = some (.lst ds) → Tk H (upd H dl o) := fun {H o} h c zs z => by
      rw [upd_ne (fun e => by rw [e, h] at z; cases z)]
      exact z
    refine goals_app (G9'.tk (tk16.trans (tkd L16.er))) fun v hv => ?_
    rw [List.mem_singleton.mp hv]
    exact ⟨t16, _, _, rfl, tkd L16.er _ _ upd_same⟩
  · rintro σ H9 ⟨v9, v10, v11, ds, rfl, L9, G9, ld, lt9, lb9, lw9⟩
    rw [List.length_map] at ld
    dsimp only
    refine seq_asg ?_
    refine ⟨_, rfl, bl, rfl, ⟨_, SqL.of lb9.at_⟩, fun D hD => comp_draw (R := PairAny) (fun k ⟨a, x, y, e, z⟩ => ⟨a, x, y, e, k _ _ z⟩) (fun σ => ∃ v0 : Option V, σ = [v0, some (.ref p)]) ⟨none, rfl⟩ L9.pot lb9 hD ?_ ?_⟩
    · rintro x σ' H' kk hx ⟨v0, rfl⟩ hp' ex' hk
      refine ⟨_, rfl, (by show 2 ≤ sizeLine; decide), fun l hl => ⟨_, rfl, p, 2, rfl, hp'.new hl, by decide, by decide, fun g5 H5 g50 g51 hp5 ex5 => ?_⟩⟩
      have el : H5 l = some (.lst [.str "row", .str "turns"]) := ex5.keep _ _ (hp'.ne hl) upd_same
      obtain ⟨j, rfl⟩ : ∃ j : Nat, g5 = j := ⟨g5.toNat, by omega⟩
      have hj : j < ([V.str "row", .str "turns"] : List V).length := by
        show j < 2
        omega
      refine ⟨l, _, j, _, rfl, rfl, SqL.of el, atI_nat (List.getElem?_eq_getElem hj), (by show 2 ≤ sizeLine; decide), fun t ht => ?_⟩
      exact hk _ _ _ () ⟨_, rfl⟩ ⟨t, _, _, rfl, upd_same⟩ (hp5.new ht) ((Ex.new hl).trans (ex5.trans (Ex.new ht)))
    intro us bs1 H10 hB10 lu gD hp10 ex10
    refine ⟨D, us, rfl, .inl ⟨SqL.of gD, fun bt hbt => ?_⟩⟩
    have L11 := (L9.go hp10 ex10).new (o := .tup us) hbt
    have x911 := ex10.trans (Ex.new (o := .tup us) hbt)
    have lt11 := lt9.ex x911
    have G11 := G9.tk (x911.tk L9.pot)
    have eb : upd H10 bt (.tup us) bt = some (.tup us) := upd_same
    have GB11 := (goals_of hB10).tk (Tk.same (same_upd hbt (.tup us)))
    generalize upd H10 bt (.tup us) = H11 at L11 x911 lt11 G11 eb GB11 ⊢
    refine ⟨_, rfl, _, rfl, _, rfl, tl, rfl, ⟨_, SqL.of lt11.at_⟩, fun D2 hD2 => comp_draw (R := PairR) (fun k h => h.tk k) (fun σ => ∃ v0 : Option V, σ = [v0, some (.ref p)]) ⟨none, rfl⟩ L11.pot lt11 hD2 ?_ ?_⟩
    · rintro x σ' H' kk hx ⟨v0, rfl⟩ hp' ex' hk
      refine ⟨_, rfl, _, rfl, p, 3, rfl, hp', by decide, by decide, fun g5 H5 g50 g51 hp5 ex5 => ⟨(by show 2 ≤ sizeLine; decide), fun t ht => ?_⟩⟩
      exact hk _ _ _ g5 ⟨_, rfl⟩ ⟨t, _, rfl, upd_same⟩ (hp5.new ht) (ex5.trans (Ex.new ht))
    intro us2 vals H12 hP2 lu2 gD2 hp12 ex12
    refine ⟨D2, us2, rfl, .inl ⟨SqL.of gD2, fun tt htt => ⟨_, rfl, _, rfl, dl, ds, rfl, .inl ⟨SqL.of ((L11.go hp12 ex12).new htt).er, fun et het => ⟨(by show 5 ≤ sizeLine; decide), fun z hz => ?_⟩⟩⟩⟩⟩
    have L15 := (((L11.go hp12 ex12).new (o := .tup us2) htt).new (o := .tup ds) het).new (o := .tup [.str n, .str mn, .ref tt, .ref bt, .ref et]) hz
    have xs1 := same_upd het (.tup ds)
    have xs2 := same_upd hz (.tup [.str n, .str mn, .ref tt, .ref bt, .ref et])
    have xs0 := same_upd htt (.tup us2)
    have S12 : Same H12 _ := fun x o y => xs2 _ _ (xs1 _ _ (xs0 _ _ y))
    have T12 := Tk.same S12
    have T11 := (ex12.tk L11.pot).trans T12
    refine k (.ref z) ⟨vals, us.length⟩ _ ⟨z, _, tt, bt, et, us2, us, ds, rfl, upd_same, xs2 _ _ (xs1 _ _ upd_same), pairs_tk T12 hP2, T11 _ _ eb, rfl, ?_, ?_, xs2 _ _ upd_same, G11.tk T11, by omega, GB11.tk T11⟩ L15.pot L15.ex
    · have := paired_len hP2
      rw [List.length_map] at lu2
      show vals.length ≤ 1000
      omega
    · rw [List.length_map] at lu
      show us.length ≤ 1000
      omega
end
end K14

set_option Elab.async false
set_option linter.all false
set_option maxRecDepth 100000
set_option maxHeartbeats 4000000
namespace K14
open PySem L2 PyProof.Rows
open Kx (same_upd free_upd)
abbrev sRooms : Stmt := top 21
/-- rooms made so far: at these places, with these names -/
inductive RoomsX (H : Hp) : List Addr → List Str → List RoomD → Prop
  | nil : RoomsX H [] [] []
  | cons {a : Addr} {n : Str} {d : RoomD} {as : List Addr} {ns : List Str} {ds : List RoomD} : RoomX H (.ref a) n d → RoomsX H as ns ds → RoomsX H (a :: as) (n :: ns) (d :: ds)
theorem RoomsX.tk {H H' : Hp} (k : Tk H H') : ∀ {as : List Addr} {ns : List Str} {ds : List RoomD}, RoomsX H as ns ds → RoomsX H' as ns ds
  | _, _, _, .nil => .nil
  | _, _, _, .cons h t => .cons (h.tk k) (t.tk k)
theorem RoomsX.len {H : Hp} : ∀ {as : List Addr} {ns : List Str} {ds : List RoomD}, RoomsX H as ns ds → as.length = ns.length
  | _, _, _, .nil => rfl
  | _, _, _, .cons _ t => congrArg (· + 1) t.len
theorem RoomsX.snoc {H : Hp} {a : Addr} {n : Str} {d : RoomD} (h : RoomX H (.ref a) n d) : ∀ {as : List Addr} {ns : List Str} {ds : List RoomD}, RoomsX H as ns ds → RoomsX H (as ++ [a]) (ns ++ [n]) (ds ++ [d])
  | _, _, _, .nil => .cons h .nil
  | _, _, _, .cons h' t => .cons h' (t.snoc h)
theorem RoomsX.fst {H : Hp} : ∀ {as : List Addr} {ns : List Str} {ds : List RoomD}, RoomsX H as ns ds → FstAt H as ns
  | _, _, _, .nil => .nil
  | _, _, _, .cons h t => by
    obtain ⟨a, m, t', b, e, us, bs, ds, e1, h1, _⟩ := h
    cases e1
    exact .cons h1 t.fst
theorem RoomsX.mem {H : Hp} : ∀ {as : List Addr} {ns : List Str} {ds : List RoomD} {a : Addr}, RoomsX H as ns ds → a ∈ as → ∃ n d, RoomX H (.ref a) n d
  | _, _, _, _, .cons h t, m => by
    rcases List.mem_cons.mp m with e | m
    · rw [e]; exact ⟨_, _, h⟩
    · exact t.mem m
  | _, _, _, _, .nil, m => by simp at m
/-- whatever the order -/
theorem rooms_any {H : Hp} : ∀ (out : List Addr), (∀ a ∈ out, ∃ n d, RoomX H (.ref a) n d) → ∃ ds : List RoomD, Paired (fun u d => ∃ n, RoomX H u n d) (out.map V.ref) ds
  | [], _ => ⟨[], .nil⟩
  | a :: out, h => by
    obtain ⟨n, d, hx⟩ := h a (List.mem_cons_self ..)
    obtain ⟨ds, hs⟩ := rooms_any out fun b hb => h b (List.mem_cons_of_mem _ hb)
    exact ⟨d :: ds, .cons ⟨n, hx⟩ hs⟩
theorem tk_put {H : Hp} {r : Addr} {xs : List V} {o : HO} (h : H r = some (.lst xs)) : Tk H (upd H r o) := fun c zs z => by
  rw [upd_ne (fun e => by rw [e, h] at z; cases z)]
  exact z
/-- while rooms are gathered at rl, names left at nl -/
structure Made (H : Hp) (p rl nl : Addr) (as : List Addr) (ns : List Str) (ds : List RoomD) (left : List Str) (H' : Hp) : Prop where
  lp : Loop H p rl (as.map V.ref) H'
  rx : RoomsX H' as ns ds
  nm : H' nl = some (.lst (left.map V.str))
  ne : nl ≠ p
  nr : nl ≠ rl
theorem Made.go {H H4 H5 : Hp} {p rl nl : Addr} {as : List Addr} {ns : List Str} {ds : List RoomD} {left : List Str} (h : Made H p rl nl as ns ds left H4) (hp : PotW H5 p) (e : Ex p H4 H5) : Made H p rl nl as ns ds left H5 := ⟨h.lp.go hp e, h.rx.tk (e.tk h.lp.pot), e.keep _ _ h.ne h.nm, h.ne, h.nr⟩
theorem Made.new {H H4 : Hp} {p rl nl r : Addr} {as : List Addr} {ns : List Str} {ds : List RoomD} {left : List Str} {o : HO} (h : Made H p rl nl as ns ds left H4) (hr : H4 r = none) : Made H p rl nl as ns ds left (upd H4 r o) := h.go (h.lp.pot.new hr) (Ex.new hr)
/-- another list of ours is written -/
theorem Made.put {H H4 : Hp} {p rl nl r : Addr} {as : List Addr} {ns : List Str} {ds : List RoomD} {left : List Str} {xs : List V} {o : HO} (h : Made H p rl nl as ns ds left H4) (hr : H4 r = some (.lst xs)) (h0 : H r = none) (n1 : r ≠ p) (n2 : r ≠ rl) (n3 : r ≠ nl) : Made H p rl nl as ns ds left (upd H4 r o) :=
  ⟨⟨h.lp.pot.put n1, h.lp.ex.put h0, by rw [upd_ne n2.symm]; exact h.lp.er, h.lp.nr, h.lp.ne⟩, h.rx.tk (tk_put hr), by rw [upd_ne n3.symm]; exact h.nm, h.ne, h.nr⟩
section
variable {P : Program} {w : World} {K : PySem.W.Frag} {mg : Str → Option Value} {base : Heap} {f gK gW gR : Addr} {fd dK dW dR : FuncData}
def spRooms : Sp := fun vs H Q _ => ∃ (p ms : Addr) (m bm : Int) (mans : List V), vs = [.ref p, .int m, .ref ms, .int bm] ∧ PotW H p ∧ 0 ≤ m ∧ m ≤ 3 ∧ Lst H p ms mans ∧ 0 < mans.length ∧ (∀ v ∈ mans, ∃ s, v = .str s) ∧ 0 ≤ bm ∧ bm ≤ 5 ∧
  ∀ (t : Addr) (rs : List V) (ds : List RoomD) (H' : Hp), H' t = some (.tup rs) → Paired (fun u d => ∃ n, RoomX H' u n d) rs ds → rs.length ≤ 3 → PotW H' p → Ex p H H' → Q (.ref t) H'
theorem scRooms : FnScope ["_law_pot_here", "_law_many", "_law_manners", "_law_bells_most", "_law_names", "_law_rooms_here", "_law_goals", "_law_room_here", "_law_name"] ["_law_pot_here", "_law_many", "_law_manners", "_law_bells_most"] (defScope sRooms) := ⟨rfl, rfl, rfl, by decide +kernel, rfl, by decide +kernel, by decide +kernel⟩
theorem caughtM {cdv : Value} {A : Around} {outer : List Env} {s : Shared} {H : Hp} {E : XK} :
    CompScope (cxOf CX0 P w K mg base ["_law_pot_here", "_law_many", "_law_manners", "_law_bells_most", "_law_names", "_law_rooms_here", "_law_goals", "_law_room_here", "_law_name"] "_law_rooms" (defScope sRooms) f cdv A outer s H E).nox ["_law_deed_here", "_law_room_here"] [none, some 7]
      { kind := .function, names := [(".0", .local), ("_law_deed_here", .local), ("_law_room_here", .free)], isGenerator := false, isCoroutine := false, more := [] } [("_law_room_here", s.heap.objs.size + 1)] where
  kind := rfl
  nocell := by decide +kernel
  names := by decide +kernel
  clos := rfl
  sub := fun x c h => by
    have h' := PySem.mem_of_lookup h
    cases List.mem_singleton.mp h'
    rfl
  has := fun x h => by
    have h' : List.lookup x ([(".0", NameKind.local), ("_law_deed_here", .local), ("_law_room_here", .cell)] : List (Str × NameKind)) = some .cell ∨ List.lookup x ([(".0", NameKind.local), ("_law_deed_here", .local), ("_law_room_here", .cell)] : List (Str × NameKind)) = some .free := h
    have e : x = "_law_room_here" := by
      rcases h' with h' | h'
      · have := PySem.mem_of_lookup h'
        simpa using this
      · have := PySem.mem_of_lookup h'
        simp at this
    subst e
    exact ⟨_, rfl⟩
  cap := fun k j x h1 h2 => by
    match k, h1, h2 with
    | 0, h1, _ => cases h1
    | 1, h1, h2 =>
      cases h1
      cases h2
      exact ⟨rfl, .inl rfl, .inl rfl⟩
    | k + 2, h1, _ => cases h1
  len := rfl
theorem ok_rooms (F : Fun K "_law_rooms" "_law_rooms" sRooms f fd) (B : Bg mg)
    (GK : FnOk P w K mg base CX0 1 gK dK ["_law_pot_here", "_law_many"] spTake) (bK : Binds K dK ["_law_pot_here", "_law_many"] []) (kK : PySem.W.keepIn K (.ref gK) = true) (mK : mg "_law_take" = some (.ref gK))
    (GW : FnOk P w K mg base CX0 2 gW dW ["_law_pot_here", "_law_stem", "_law_many"] spWords) (bW : Binds K dW ["_law_pot_here", "_law_stem", "_law_many"] []) (kW : PySem.W.keepIn K (.ref gW) = true) (mW : mg "_law_words" = some (.ref gW))
    (GR : FnOk P w K mg base CX0 9 gR dR ["_law_pot_here", "_law_name", "_law_goals", "_law_manners", "_law_bells_most"] spRoom) (bR : Binds K dR ["_law_pot_here", "_law_name", "_law_goals", "_law_manners", "_law_bells_most"] []) (kR : PySem.W.keepIn K (.ref gR) = true) (mR : mg "_law_room" = some (.ref gR)) :
    FnOk P w K mg base CX0 10 f fd ["_law_pot_here", "_law_many", "_law_manners", "_law_bells_most"] spRooms := by
  refine F.ok scRooms (fun vs H Q E h => ?_) (fun cdv A outer s H vs Q E hr h => ?_)
  · obtain ⟨p, ms, m, bm, mans, rfl, _⟩ := h
    rfl
  obtain ⟨p, ms, m, bm, mans, rfl, hp, m0, m3, hm, hm0, hms, b0, b4, k⟩ := h
  have nd := scRooms.nd
  have hu := hr.units0
  have hr1 : Room 1 _ := hr.mono (by decide)
  have hr2 : Room 2 _ := hr.mono (by decide)
  have n1 : (["_law_deed_here", "_law_room_here"] : List Str).Nodup := by decide +kernel
  refine ⟨_, pss_cons (ps_set (i := 4) nd rfl (Or.inl rfl) (pe_call GW hr2 rfl mW kW bW .nil pass0 (pa_cons (pv 0) (pa_cons pe_str (pa_cons (pv 1) pa_nil)))))
    (pss_cons (ps_set (i := 5) nd rfl (Or.inl rfl) (pe_lst pa_nil))
    (pss_cons (ps_while PassesOwn.never (pt_cmpR (op_neNil hu) (pv 4) (pe_lst pa_nil) (nomark _))
      (pss_cons (ps_set (i := 6) nd rfl (Or.inl rfl) (pe_lst pa_nil))
      (pss_cons (ps_for PassesOwn.never rfl (pi_list (pv 5)) (pg_name (i := 7) nd rfl (Or.inr rfl))
        (pss_one (ps_expr (pe_bm PySem.F.plainAttrs_list PySem.F.slot_list_extend PySem.F.type_list_extend mt_extend (pv 6) (pa_cons (pe_comp (N := ["_law_deed_here", "_law_room_here"]) caughtM rfl (pi_tup (pe_ix ix_tup (pv 7) pe_int (fun _ _ => rfl))) (fun C s H fp => pg_name (i := 0) n1 rfl (Or.inl rfl)) (fun C s H fp => pf_nil)
          (fun C s H fp => pe_tup (pa_cons (pe_ix (ix_tupK (K := K) rfl) (pv 1) pe_int (fun _ _ => rfl)) (pa_cons (pe_ix (ix_tupK (K := K) rfl) (pv 0) pe_int (fun _ _ => rfl)) pa_nil)))) pa_nil)))))
      (pss_cons (ps_set (i := 8) nd rfl (Or.inl rfl) (pe_bm PySem.F.plainAttrs_list PySem.F.slot_list_pop PySem.F.type_list_pop mt_popAt (pv 4) (pa_cons (pe_call GK hr1 rfl mK kK bK .nil pass0 (pa_cons (pv 0) (pa_cons (pe_callB call_len_seq rfl B.len PySem.boot_len (pa_cons (pv 4) pa_nil)) pa_nil))) pa_nil)))
      (pss_one (ps_expr (pe_bm PySem.F.plainAttrs_list PySem.F.slot_list_append PySem.F.type_list_append mt_append (pv 5) (pa_cons (pe_call GR hr rfl mR kR bR .nil pass0 (pa_cons (pv 0) (pa_cons (pv 8) (pa_cons (pv 6) (pa_cons (pv 2) (pa_cons (pv 3) pa_nil)))))) pa_nil))))))))
    (pss_one (ps_ret (pe_callTy call_tuple_of rfl B.tuple PyProof.Rows.boot_tuple (pa_cons (pe_callB call_sortedT rfl B.sorted boot_sorted (pa_cons (pv 5) pa_nil)) pa_nil)))))), ?_⟩
  refine seq_asg ⟨_, rfl, _, rfl, p, "", m, rfl, hp, by decide, m0, by omega, fun nl ws H1 e1 t1 nd1 f1 hp1 ex1 => ?_⟩
  have l3 : ws.length ≤ 3 := by omega
  refine seq_asg ⟨Nat.zero_le _, fun rl hrl => ?_⟩
  have nnr : nl ≠ rl := fun e => by rw [← e, e1] at hrl; cases hrl
  have M0 : Made H p rl nl [] [] [] ws (upd H1 rl (.lst [])) := ⟨⟨hp1.new hrl, ex1.trans (Ex.new hrl), upd_same, ex1.free _ hrl, hp1.ne hrl⟩, .nil, same_upd hrl _ _ _ e1, hp.ne f1, nnr⟩
  generalize upd H1 rl (.lst []) = H2 at M0 ⊢
  refine ⟨fun mm σ H' => ∃ (v6 v7 v8 : Option V) (as : List Addr) (ns : List Str) (ds : List RoomD) (left : List Str), mm = left.length ∧ σ = [some (.ref p), some (.int m), some (.ref ms), some (.int bm), some (.ref nl), some (.ref rl), v6, v7, v8] ∧ Made H p rl nl as ns ds left H' ∧ (ns ++ left).Perm ws,
    ⟨_, none, none, none, [], [], [], ws, rfl, rfl, M0, List.Perm.refl _⟩, ?_⟩
  rintro mm σ H3 ⟨v6, v7, v8, as, ns, ds, left, rfl, rfl, M3, pm⟩
  have la := M3.rx.len
  have lp := pm.length_eq
  rw [List.length_append] at lp
  refine ⟨_, rfl, Nat.zero_le _, fun r hr => ⟨nl, r, _, rfl, rfl, SqL.of (same_upd hr _ _ _ M3.nm), SqL.of upd_same, _, rfl, ite2 (fun c => ?_) (fun c => ?_)⟩⟩
  · have hne : 0 < left.length := by
      cases left with
      | nil => cases c
      | cons _ _ => simp
    have M4 := M3.new (o := .lst []) hr
    generalize upd H3 r (.lst []) = H4 at M4 ⊢
    refine ⟨fun σ' H' => ∃ m', m' < left.length ∧ ∃ (v6 v7 v8 : Option V) (as : List Addr) (ns : List Str) (ds : List RoomD) (left : List Str), m' = left.length ∧ σ' = [some (.ref p), some (.int m), some (.ref ms), some (.int bm), some (.ref nl), some (.ref rl), v6, v7, v8] ∧ Made H p rl nl as ns ds left H' ∧ (ns ++ left).Perm ws, fun _ _ h => h, ?_⟩
    refine seq_asg ⟨Nat.zero_le _, fun gl hgl => ?_⟩
    have M5 := M4.new (o := .lst []) hgl
    have ngp := M4.lp.pot.ne hgl
    have ngr : gl ≠ rl := fun e => by have := M4.lp.er; rw [← e, hgl] at this; cases this
    have ngn : gl ≠ nl := fun e => by have := M4.nm; rw [← e, hgl] at this; cases this
    have ng0 := M4.lp.ex.free _ hgl
    have eg : upd H4 gl (.lst []) gl = some (.lst []) := upd_same
    generalize upd H4 gl (.lst []) = H5 at M5 eg ⊢
    refine ⟨_, rfl, rl, rfl, ⟨_, SqL.of M5.lp.er⟩, ?_⟩
    refine for_list (K := K) (a := rl) (xs := as.map V.ref) (fun i σ H' => ∃ (v7 : Option V) (gs : List V), σ = [some (.ref p), some (.int m), some (.ref ms), some (.int bm), some (.ref nl), some (.ref rl), some (.ref gl), v7, v8] ∧ Made H p rl nl as ns ds left H' ∧ H' gl = some (.lst gs) ∧ Goals H' gs ∧ gs.length ≤ 10 * i)
      ⟨_, [], rfl, M5, eg, (fun v hv => by simp at hv), Nat.zero_le _⟩ (fun i σ H' _ ⟨_, _, _, z, _⟩ => SqL.of z.lp.er) ?_ ?_
    · rintro i u σ H6 hi ⟨v7, gs, rfl, M6, eg6, G6, lg⟩
      have hil : i < (as.map V.ref).length := (List.getElem?_eq_some_iff.mp hi).1
      rw [List.length_map] at hil
      obtain ⟨a, ha, rfl⟩ := List.mem_map.mp (List.mem_of_getElem? hi)
      obtain ⟨n, d, hR⟩ := M6.rx.mem ha
      obtain ⟨a', mm', t', b', e', us', bs', dd, ea, q1, q2, q3, q4, q5, q6, q7, q8, q9, q10⟩ := hR
      cases ea
      refine ⟨_, rfl, .inl ⟨rfl, _, SqL.of eg6⟩, _, rfl, a, _, 4, .ref e', rfl, rfl, SqT.of q1, rfl, e', rfl, ⟨_, SqT.of q8⟩, fun D hD => ?_⟩
      refine comp_tup (K := K) (a := e') (xs := dd) (fun j σ' H' => ∃ (v0 : Option V) (us : List V), σ' = [v0, some (.ref a)] ∧ H' D = some (.lst us) ∧ us.length = j ∧ Goals H' us ∧ Same H6 H' ∧ ∀ x, H' x = none → H6 x = none)
        ⟨none, [], rfl, upd_same, rfl, (fun v hv => by simp at hv), same_upd hD _, fun x z => free_upd z⟩ (fun j σ' H' _ ⟨_, _, _, _, _, _, z, _⟩ => SqT.of (z _ _ q8)) ?_ ?_
      · rintro j x σ' H' hj ⟨v0, us, rfl, gD, lu, GU, kk, fk⟩
        have hjl : j < dd.length := (List.getElem?_eq_some_iff.mp hj).1
        obtain ⟨r1, x1, y1, rfl, hr1'⟩ := q9 x (List.mem_of_getElem? hj)
        refine ⟨_, rfl, a, _, 0, _, rfl, rfl, SqT.of (kk _ _ q1), rfl, _, rfl, r1, _, 0, x1, rfl, rfl, SqT.of (kk _ _ hr1'), rfl, (by show 2 ≤ sizeLine; decide), fun t ht => ?_⟩
        have gD' := same_upd ht (.tup [.str n, x1]) _ _ gD
        refine ⟨us, gD', s1000 (by omega), _, us ++ [.ref t], rfl, upd_same, by rw [List.length_append, lu]; rfl, ?_, fun b o z => ?_, fun b z => fk b (free_upd (free_upd z))⟩
        · refine goals_app ((GU.tk (Tk.same (same_upd ht _))).tk (tk_put gD')) fun v hv => ?_
          rw [List.mem_singleton.mp hv]
          exact ⟨t, _, _, rfl, tk_put gD' _ _ upd_same⟩
        · rw [upd_ne (ne_of_none z hD)]
          exact same_upd ht _ _ _ (kk _ _ z)
      · rintro σ' H' ⟨v0, us, rfl, gD, lu, GU, kk, fk⟩
        have M7 := M6.go (M6.lp.pot.same kk) (Ex.same kk fk)
        have eg7 := kk _ _ eg6
        refine ⟨gl, D, gs, us, rfl, rfl, eg7, gD, Nat.le_of_lt (s1000 (by omega)), _, gs ++ us, rfl, M7.put eg7 ng0 ngp ngr ngn, upd_same, goals_app ((G6.tk (Tk.same kk)).tk (tk_put eg7)) (GU.tk (tk_put eg7)), by rw [List.length_append]; omega⟩
    · rintro σ H6 ⟨v7, gs, rfl, M6, eg6, G6, lg⟩
      rw [List.length_map] at lg
      dsimp only
      refine seq_asg ?_
      refine ⟨_, rfl, .inl ⟨rfl, _, SqL.of M6.nm⟩, _, rfl, _, rfl, nl, _, rfl, .inl (SqL.of M6.nm), p, _, rfl, M6.lp.pot, ?_, ?_, fun d H7 d0 d1 hp7 ex7 => ?_⟩
      · rw [List.length_map]
        omega
      · rw [List.length_map]
        omega
      rw [List.length_map] at d1
      have hk : d.toNat < left.length := by omega
      have M7 := M6.go hp7 ex7
      have eg7 := ex7.keep _ _ ngp eg6
      have G7 := G6.tk (ex7.tk M6.lp.pot)
      refine ⟨nl, _, d, d.toNat, .str left[d.toNat], rfl, rfl, M7.nm, by omega, by omega, seqIndex_of d0 (by rw [List.length_map]; exact d1), (by rw [List.getElem?_map, List.getElem?_eq_getElem hk]; rfl), ?_⟩
      rw [map_erase]
      have nl0 : H nl = none := f1
      have M8 : Made H p rl nl as ns ds (left.eraseIdx d.toNat) (upd H7 nl (.lst ((left.eraseIdx d.toNat).map V.str))) :=
        ⟨⟨M7.lp.pot.put M7.ne, M7.lp.ex.put nl0, by rw [upd_ne M7.nr.symm]; exact M7.lp.er, M7.lp.nr, M7.lp.ne⟩, M7.rx.tk (tk_put M7.nm), upd_same, M7.ne, M7.nr⟩
      have eg8 : upd H7 nl (.lst ((left.eraseIdx d.toNat).map V.str)) gl = some (.lst gs) := by rw [upd_ne ngn]; exact eg7
      have G8 : Goals (upd H7 nl (.lst ((left.eraseIdx d.toNat).map V.str))) gs := G7.tk (tk_put M7.nm)
      generalize upd H7 nl (.lst ((left.eraseIdx d.toNat).map V.str)) = H8 at M8 eg8 G8 ⊢
      refine ⟨_, rfl, .inl ⟨rfl, _, SqL.of M8.lp.er⟩, _, rfl, _, rfl, _, rfl, _, rfl, _, rfl, p, gl, ms, left[d.toNat], bm, gs, mans, rfl, M8.lp.pot, ⟨eg8, ngp, by omega⟩, by omega, G8, hm.ex M8.lp.ex, hm0, hms, b0, b4, fun v rd H9 hR hp9 ex9 => ?_⟩
      obtain ⟨a9, mm9, t9, b9, e9, us9, bs9, dd9, rfl, z1, zr⟩ := id hR
      have M9 := M8.go hp9 ex9
      have er9 := M9.lp.er
      refine ⟨rl, _, _, rfl, rfl, er9, s1000 (by rw [List.length_map]; omega), (left.eraseIdx d.toNat).length, ?_, _, _, _, as ++ [a9], ns ++ [left[d.toNat]], ds ++ [rd], left.eraseIdx d.toNat, rfl, rfl, ⟨?_, ?_, ?_, M9.ne, M9.nr⟩, ?_⟩
      · rw [List.length_eraseIdx_of_lt hk]
        omega
      · have := M9.lp.app [.ref a9]
        rw [List.map_append]
        exact this
      · exact (M9.rx.tk (tk_put er9)).snoc (hR.tk (tk_put er9))
      · rw [upd_ne M9.nr]
        exact M9.nm
      · rw [List.append_assoc]
        exact ((Dk.erase_perm hk).append_left ns).trans pm
  · have hl0 : left = [] := by
      cases left with
      | nil => rfl
      | cons _ _ => exact absurd rfl c
    have M4 := M3.new (o := .lst []) hr
    generalize upd H3 r (.lst []) = H4 at M4 ⊢
    have nns : ns.Nodup := (List.nodup_append.mp (pm.nodup_iff.mpr nd1)).1
    refine ⟨_, rfl, rl, as, ns, rfl, SqL.of M4.lp.er, by omega, M4.rx.fst, nns, fun sl out hsl pr => ?_⟩
    refine ⟨sl, _, rfl, .inl ⟨SqL.of upd_same, fun t ht => ?_⟩⟩
    have M5 := (M4.new (o := .lst (out.map V.ref)) hsl).new (o := .tup (out.map V.ref)) ht
    obtain ⟨dd, hdd⟩ := rooms_any (H := upd (upd H4 sl (.lst (out.map V.ref))) t (.tup (out.map V.ref))) out fun a ha => M5.rx.mem (pr.mem_iff.mp ha)
    exact k t _ dd _ upd_same hdd (by rw [List.length_map, pr.length_eq]; omega) M5.lp.pot M5.lp.ex
end
end K14

set_option Elab.async false
set_option linter.all false
set_option maxRecDepth 100000
set_option maxHeartbeats 4000000
namespace K14
open PySem L2 PyProof.Rows
open Kx (same_upd free_upd)
abbrev sWorld : Stmt := top 23
theorem RoomX.toR {H : Hp} {u : V} {n : Str} {d : RoomD} : RoomX H u n d → RoomR H u d := fun ⟨a, m, t, b, e, us, bs, ds, e1, h1, h2, h3, h4, h5, h6, h7, _, _, _, h11⟩ => ⟨a, n, m, t, b, .ref e, us, bs, e1, h1, h2, h3, h4, h5, h6, h7, h11⟩
section
variable {P : Program} {w : World} {K : PySem.W.Frag} {mg : Str → Option Value} {base : Heap} {f gK gW gO : Addr} {fd dK dW dO : FuncData}
def spWorld : Sp := fun vs H Q _ => ∃ (p r : Addr) (hn pm : Int) (rs : List V) (ds : List RoomD), vs = [.ref p, .ref r, .int hn, .int pm] ∧ PotW H p ∧ H r = some (.tup rs) ∧ Paired (fun u d => ∃ n, RoomX H u n d) rs ds ∧ rs.length ≤ 3 ∧ 0 < hn ∧ hn ≤ 4 ∧ 0 ≤ pm ∧ pm ≤ 5 ∧ ∀ (wd : Addr) (d : WorldD) (H' : Hp), WorldAt H' wd d → PotW H' p → Ex p H H' → Q (.ref wd) H'
theorem scWorld : FnScope ["_law_pot_here", "_law_rooms_here", "_law_hands", "_law_passes_most", "_law_goals", "_law_room_here", "_law_passes", "_law_shared", "_law_made", "_law_k", "_law_own_here", "_law_program", "_law_counted"] ["_law_pot_here", "_law_rooms_here", "_law_hands", "_law_passes_most"] (defScope sWorld) := ⟨rfl, rfl, rfl, by decide +kernel, rfl, by decide +kernel, by decide +kernel⟩
theorem caughtN1 {cdv : Value} {A : Around} {outer : List Env} {s : Shared} {H : Hp} {E : XK} :
    CompScope (cxOf CX0 P w K mg base ["_law_pot_here", "_law_rooms_here", "_law_hands", "_law_passes_most", "_law_goals", "_law_room_here", "_law_passes", "_law_shared", "_law_made", "_law_k", "_law_own_here", "_law_program", "_law_counted"] "_law_world" (defScope sWorld) f cdv A outer s H E).nox ["_law_deed_here", "_law_room_here"] [none, some 5]
      { kind := .function, names := [(".0", .local), ("_law_deed_here", .local), ("_law_room_here", .free)], isGenerator := false, isCoroutine := false, more := [] } [("_law_room_here", s.heap.objs.size + 2)] where
  kind := rfl
  nocell := by decide +kernel
  names := by decide +kernel
  clos := rfl
  sub := fun x c h => by
    have h' := PySem.mem_of_lookup h
    cases List.mem_singleton.mp h'
    rfl
  has := fun x h => by
    have h' : List.lookup x ([(".0", NameKind.local), ("_law_deed_here", .local), ("_law_room_here", .cell)] : List (Str × NameKind)) = some .cell ∨ List.lookup x ([(".0", NameKind.local), ("_law_deed_here", .local), ("_law_room_here", .cell)] : List (Str × NameKind)) = some .free := h
    have e : x = "_law_room_here" := by
      rcases h' with h' | h'
      · have := PySem.mem_of_lookup h'
        simpa using this
      · have := PySem.mem_of_lookup h'
        simp at this
    subst e
    exact ⟨_, rfl⟩
  cap := fun k j x h1 h2 => by
    match k, h1, h2 with
    | 0, h1, _ => cases h1
    | 1, h1, h2 =>
      cases h1
      cases h2
      exact ⟨rfl, .inl rfl, .inl rfl⟩
    | k + 2, h1, _ => cases h1
  len := rfl
theorem caughtN2 {cdv : Value} {A : Around} {outer : List Env} {s : Shared} {H : Hp} {E : XK} :
    CompScope (cxOf CX0 P w K mg base ["_law_pot_here", "_law_rooms_here", "_law_hands", "_law_passes_most", "_law_goals", "_law_room_here", "_law_passes", "_law_shared", "_law_made", "_law_k", "_law_own_here", "_law_program", "_law_counted"] "_law_world" (defScope sWorld) f cdv A outer s H E).nox ["_law_word", "_law_pot_here"] [none, some 0]
      { kind := .function, names := [(".0", .local), ("_law_word", .local), ("_law_take", .globalImplicit), ("_law_pot_here", .free)], isGenerator := false, isCoroutine := false, more := [] } [("_law_pot_here", s.heap.objs.size + 1)] where
  kind := rfl
  nocell := by decide +kernel
  names := by decide +kernel
  clos := rfl
  sub := fun x c h => by
    have h' := PySem.mem_of_lookup h
    cases List.mem_singleton.mp h'
    rfl
  has := fun x h => by
    have h' : List.lookup x ([(".0", NameKind.local), ("_law_word", .local), ("_law_take", .globalImplicit), ("_law_pot_here", .cell)] : List (Str × NameKind)) = some .cell ∨ List.lookup x ([(".0", NameKind.local), ("_law_word", .local), ("_law_take", .globalImplicit), ("_law_pot_here", .cell)] : List (Str × NameKind)) = some .free := h
    have e : x = "_law_pot_here" := by
      rcases h' with h' | h'
      · have := PySem.mem_of_lookup h'
        simpa using this
      · have := PySem.mem_of_lookup h'
        simp at this
    subst e
    exact ⟨_, rfl⟩
  cap := fun k j x h1 h2 => by
    match k, h1, h2 with
    | 0, h1, _ => cases h1
    | 1, h1, h2 =>
      cases h1
      cases h2
      exact ⟨rfl, .inl rfl, .inl rfl⟩
    | k + 2, h1, _ => cases h1
  len := rfl
theorem ok_world (F : Fun K "_law_world" "_law_world" sWorld f fd) (B : Bg mg)
    (GK : FnOk P w K mg base CX0 1 gK dK ["_law_pot_here", "_law_many"] spTake) (bK : Binds K dK ["_law_pot_here", "_law_many"] []) (kK : PySem.W.keepIn K (.ref gK) = true) (mK : mg "_law_take" = some (.ref gK))
    (GW : FnOk P w K mg base CX0 2 gW dW ["_law_pot_here", "_law_stem", "_law_many"] spWords) (bW : Binds K dW ["_law_pot_here", "_law_stem", "_law_many"] []) (kW : PySem.W.keepIn K (.ref gW) = true) (mW : mg "_law_words" = some (.ref gW))
    (GO : FnOk P w K mg base CX0 8 gO dO ["_law_pot_here", "_law_goals", "_law_words_here", "_law_passes", "_law_most"] spOwn) (bO : Binds K dO ["_law_pot_here", "_law_goals", "_law_words_here", "_law_passes", "_law_most"] []) (kO : PySem.W.keepIn K (.ref gO) = true) (mO : mg "_law_own" = some (.ref gO)) :
    FnOk P w K mg base CX0 9 f fd ["_law_pot_here", "_law_rooms_here", "_law_hands", "_law_passes_most"] spWorld := by
  refine F.ok scWorld (fun vs H Q E h => ?_) (fun cdv A outer s H vs Q E hr h => ?_)
  · obtain ⟨p, r, hn, pm, rs, ds, rfl, _⟩ := h
    rfl
  obtain ⟨p, r, hn, pm, rs, ds, rfl, hp, hR, hP, lr, hn0, hn4, pm0, pm5, k⟩ := h
  have nd := scWorld.nd
  have hr1 : Room 1 _ := hr.mono (by decide)
  have hr2 : Room 2 _ := hr.mono (by decide)
  have n1 : (["_law_deed_here", "_law_room_here"] : List Str).Nodup := by decide +kernel
  have n2 : (["_law_word", "_law_pot_here"] : List Str).Nodup := by decide +kernel
  refine ⟨_, pss_cons (ps_set (i := 4) nd rfl (Or.inl rfl) (pe_lst pa_nil))
    (pss_cons (ps_for PassesOwn.never rfl (pi_tup (pv 1)) (pg_name (i := 5) nd rfl (Or.inr rfl))
        (pss_one (ps_expr (pe_bm PySem.F.plainAttrs_list PySem.F.slot_list_extend PySem.F.type_list_extend mt_extend (pv 4) (pa_cons (pe_comp (N := ["_law_deed_here", "_law_room_here"]) caughtN1 rfl (pi_tup (pe_ix ix_tup (pv 5) pe_int (fun _ _ => rfl))) (fun C s H fp => pg_name (i := 0) n1 rfl (Or.inl rfl)) (fun C s H fp => pf_nil)
          (fun C s H fp => pe_tup (pa_cons (pe_ix (ix_tupK (K := K) rfl) (pv 1) pe_int (fun _ _ => rfl)) (pa_cons (pe_ix (ix_tupK (K := K) rfl) (pv 0) pe_int (fun _ _ => rfl)) pa_nil)))) pa_nil)))))
    (pss_cons (ps_set (i := 6) nd rfl (Or.inl rfl) (pe_call GW hr2 rfl mW kW bW .nil pass0 (pa_cons (pv 0) (pa_cons pe_str (pa_cons (pe_call GK hr1 rfl mK kK bK .nil pass0 (pa_cons (pv 0) (pa_cons (pe_op op_add (pv 3) pe_int) pa_nil))) pa_nil)))))
    (pss_cons (ps_set (i := 7) nd rfl (Or.inl rfl) (pe_call GW hr2 rfl mW kW bW .nil pass0 (pa_cons (pv 0) (pa_cons pe_str (pa_cons (pe_ix ix_list (pe_lst (pa_cons pe_int (pa_cons pe_int (pa_cons pe_int (pa_cons pe_int pa_nil))))) (pe_call GK hr1 rfl mK kK bK .nil pass0 (pa_cons (pv 0) (pa_cons pe_int pa_nil))) (fun _ _ => rfl)) pa_nil)))))
    (pss_cons (ps_set (i := 8) nd rfl (Or.inl rfl) (pe_lst pa_nil))
    (pss_cons (ps_for PassesOwn.never rfl (pi_range1 rfl B.range (pa_cons (pv 2) pa_nil)) (pg_name (i := 9) nd rfl (Or.inl rfl))
      (pss_cons (ps_set (i := 10) nd rfl (Or.inl rfl) (pe_call GW hr2 rfl mW kW bW .nil pass0 (pa_cons (pv 0) (pa_cons pe_str (pa_cons (pe_ix ix_list (pe_lst (pa_cons pe_int (pa_cons pe_int (pa_cons pe_int (pa_cons pe_int pa_nil))))) (pe_call GK hr1 rfl mK kK bK .nil pass0 (pa_cons (pv 0) (pa_cons pe_int pa_nil))) (fun _ _ => rfl)) pa_nil)))))
      (pss_cons (ps_set (i := 11) nd rfl (Or.inl rfl) (pe_call GO hr rfl mO kO bO .nil pass0 (pa_cons (pv 0) (pa_cons (pv 4) (pa_cons (pe_op op_cat (pv 10) (pv 7)) (pa_cons (pv 6) (pa_cons pe_int pa_nil)))))))
      (pss_one (ps_expr (pe_bm PySem.F.plainAttrs_list PySem.F.slot_list_append PySem.F.type_list_append mt_append (pv 8) (pa_cons (pe_tup (pa_cons (pe_callTy call_tuple_of rfl B.tuple PyProof.Rows.boot_tuple (pa_cons (pe_comp (N := ["_law_word", "_law_pot_here"]) caughtN2 rfl (pi_list (pv 10)) (fun C s H fp => pg_name (i := 0) n2 rfl (Or.inl rfl)) (fun C s H fp => pf_nil) (fun C s H fp => pe_tup (pa_cons (pv 0) (pa_cons (pe_call GK hr1 rfl mK kK bK .nil pass0 (pa_cons (pv 1) (pa_cons pe_int pa_nil))) pa_nil)))) pa_nil)) (pa_cons (pv 11) pa_nil))) pa_nil)))))))
    (pss_cons (ps_set (i := 12) nd rfl (Or.inl rfl) (pe_callTy call_tuple_of rfl B.tuple PyProof.Rows.boot_tuple (pa_cons (pe_comp (N := ["_law_word", "_law_pot_here"]) caughtN2 rfl (pi_list (pv 6)) (fun C s H fp => pg_name (i := 0) n2 rfl (Or.inl rfl)) (fun C s H fp => pf_nil) (fun C s H fp => pe_tup (pa_cons (pv 0) (pa_cons (pe_call GK hr1 rfl mK kK bK .nil pass0 (pa_cons (pv 1) (pa_cons pe_int pa_nil))) pa_nil)))) pa_nil)))
    (pss_one (ps_ret (pe_tup (pa_cons (pv 1) (pa_cons (pv 12) (pa_cons (pe_callTy call_tuple_of rfl B.tuple PyProof.Rows.boot_tuple (pa_cons (pe_comp (N := ["_law_word", "_law_pot_here"]) caughtN2 rfl (pi_list (pv 7)) (fun C s H fp => pg_name (i := 0) n2 rfl (Or.inl rfl)) (fun C s H fp => pf_nil) (fun C s H fp => pe_tup (pa_cons (pv 0) (pa_cons (pe_call GK hr1 rfl mK kK bK .nil pass0 (pa_cons (pv 1) (pa_cons pe_int pa_nil))) pa_nil)))) pa_nil)) (pa_cons (pe_callTy call_tuple_of rfl B.tuple PyProof.Rows.boot_tuple (pa_cons (pv 8) pa_nil)) pa_nil)))))))))))))
    , ?_⟩
  have four : ∀ (xs : List V) (g : Int), xs = [V.int 0, .int 0, .int 1, .int 2] ∨ xs = [V.int 0, .int 1, .int 1, .int 2] → 0 ≤ g → g < 4 → ∃ m : Int, atI xs g = some (.int m) ∧ 0 ≤ m ∧ m ≤ 2 := by
    intro xs g hx g0 g4
    have : g = 0 ∨ g = 1 ∨ g = 2 ∨ g = 3 := by omega
    rcases hx with rfl | rfl <;> rcases this with rfl | rfl | rfl | rfl <;> exact ⟨_, rfl, by decide, by decide⟩
  refine seq_asg ⟨Nat.zero_le _, fun gl hgl => ?_⟩
  have L1 : Loop H p gl [] (upd H gl (.lst [])) := ⟨hp.new hgl, Ex.new hgl, upd_same, hgl, hp.ne hgl⟩
  generalize upd H gl (.lst []) = H1 at L1 ⊢
  refine ⟨_, rfl, r, rfl, ⟨_, SqT.of (L1.ex.tk hp _ _ hR)⟩, ?_⟩
  refine for_tup (K := K) (a := r) (xs := rs) (fun i σ H' => ∃ (v5 : Option V) (gs : List V), σ = [some (.ref p), some (.ref r), some (.int hn), some (.int pm), some (.ref gl), v5, none, none, none, none, none, none, none] ∧ Loop H p gl gs H' ∧ Goals H' gs ∧ gs.length ≤ 10 * i)
    ⟨none, [], rfl, L1, (fun v hv => by simp at hv), Nat.zero_le _⟩ (fun i σ H' _ ⟨_, _, _, z, _⟩ => SqT.of (z.ex.tk hp _ _ hR)) ?_ ?_
  · rintro i u σ H6 hi ⟨v5, gs, rfl, M6, G6, lg⟩
    have hil : i < rs.length := (List.getElem?_eq_some_iff.mp hi).1
    obtain ⟨d, hd, n, hRX⟩ := paired_get hP hi
    obtain ⟨a, mm', t', b', e', us', bs', dd, rfl, q1, q2, q3, q4, q5, q6, q7, q8, q9, q10⟩ := hRX.tk (M6.ex.tk hp)
    refine ⟨_, rfl, .inl ⟨rfl, _, SqL.of M6.er⟩, _, rfl, a, _, 4, .ref e', rfl, rfl, SqT.of q1, rfl, e', rfl, ⟨_, SqT.of q8⟩, fun D hD => ?_⟩
    refine comp_tup (K := K) (a := e') (xs := dd) (fun j σ' H' => ∃ (v0 : Option V) (us : List V), σ' = [v0, some (.ref a)] ∧ H' D = some (.lst us) ∧ us.length = j ∧ Goals H' us ∧ Same H6 H' ∧ ∀ x, H' x = none → H6 x = none)
      ⟨none, [], rfl, upd_same, rfl, (fun v hv => by simp at hv), same_upd hD _, fun x z => free_upd z⟩ (fun j σ' H' _ ⟨_, _, _, _, _, _, z, _⟩ => SqT.of (z _ _ q8)) ?_ ?_
    · rintro j x σ' H' hj ⟨v0, us, rfl, gD, lu, GU, kk, fk⟩
      have hjl : j < dd.length := (List.getElem?_eq_some_iff.mp hj).1
      obtain ⟨r1, x1, y1, rfl, hr1'⟩ := q9 x (List.mem_of_getElem? hj)
      refine ⟨_, rfl, a, _, 0, _, rfl, rfl, SqT.of (kk _ _ q1), rfl, _, rfl, r1, _, 0, x1, rfl, rfl, SqT.of (kk _ _ hr1'), rfl, (by show 2 ≤ sizeLine; decide), fun t ht => ?_⟩
      have gD' := same_upd ht (.tup [.str n, x1]) _ _ gD
      refine ⟨us, gD', s1000 (by omega), _, us ++ [.ref t], rfl, upd_same, by rw [List.length_append, lu]; rfl, ?_, fun b o z => ?_, fun b z => fk b (free_upd (free_upd z))⟩
      · refine goals_app ((GU.tk (Tk.same (same_upd ht _))).tk (tk_put gD')) fun v hv => ?_
        rw [List.mem_singleton.mp hv]
        exact ⟨t, _, _, rfl, tk_put gD' _ _ upd_same⟩
      · rw [upd_ne (ne_of_none z hD)]
        exact same_upd ht _ _ _ (kk _ _ z)
    · rintro σ' H' ⟨v0, us, rfl, gD, lu, GU, kk, fk⟩
      have M7 := M6.go (M6.pot.same kk) (Ex.same kk fk)
      refine ⟨gl, D, gs, us, rfl, rfl, M7.er, gD, Nat.le_of_lt (s1000 (by omega)), _, gs ++ us, rfl, M7.app us, goals_app ((G6.tk (Tk.same kk)).tk (tk_put M7.er)) (GU.tk (tk_put M7.er)), by rw [List.length_append]; omega⟩
  rintro σ H2 ⟨v5, gs, rfl, L2', G2, lg⟩
  have lgl : Lst H2 p gl gs := ⟨L2'.er, L2'.ne, by omega⟩
  have hp2 := L2'.pot
  have x2 := L2'.ex
  dsimp only
  refine seq_asg ?_
  refine ⟨_, rfl, _, rfl, _, rfl, _, _, rfl, rfl, p, pm + 1, rfl, hp2, by omega, by omega, fun g3 H3 g30 g31 hp3 ex3 => ⟨p, "p", g3, rfl, hp3, by decide, g30, by omega, fun pl ps H4 e4 t4 _ f4 hp4 ex4 => ?_⟩⟩
  have lpl : Lst H4 p pl (ps.map V.str) := ⟨e4, hp3.ne f4, by rw [List.length_map]; omega⟩
  refine seq_asg ⟨_, rfl, (by show 4 ≤ sizeLine; decide), fun l5 hl5 => ⟨_, rfl, p, 4, rfl, hp4.new hl5, by decide, by decide, fun g5 H5 g50 g51 hp5 ex5 => ?_⟩⟩
  have e5 : H5 l5 = some (.lst [.int 0, .int 0, .int 1, .int 2]) := ex5.keep _ _ (hp4.ne hl5) upd_same
  obtain ⟨m5, am5, m50, m52⟩ := four _ g5 (.inl rfl) g50 g51
  refine ⟨l5, _, g5, _, rfl, rfl, SqL.of e5, am5, p, "o", m5, rfl, hp5, by decide, m50, by omega, fun sl ss H6 e6 t6 _ f6 hp6 ex6 => ?_⟩
  have x46 := (Ex.new (p := p) (o := .lst [.int 0, .int 0, .int 1, .int 2]) hl5).trans (ex5.trans ex6)
  have lsl : Lst H6 p sl (ss.map V.str) := ⟨e6, hp5.ne f6, by rw [List.length_map]; omega⟩
  have x24 := ex3.trans ex4
  have lgl6 := (lgl.ex x24).ex x46
  have G6 := (G2.tk (x24.tk hp2)).tk (x46.tk hp4)
  have lpl6 := lpl.ex x46
  have x6 := x2.trans (x24.trans x46)
  refine seq_asg ⟨Nat.zero_le _, fun ml hml => ?_⟩
  have L7 : Loop H p ml [] (upd H6 ml (.lst [])) := ⟨hp6.new hml, x6.trans (Ex.new hml), upd_same, x6.free _ hml, hp6.ne hml⟩
  have ngm : gl ≠ ml := fun e => by have := lgl6.at_; rw [e, hml] at this; cases this
  have npm : pl ≠ ml := fun e => by have := lpl6.at_; rw [e, hml] at this; cases this
  have nsm : sl ≠ ml := fun e => by have := lsl.at_; rw [e, hml] at this; cases this
  have lgl7 := lgl6.ex (Ex.new (o := .lst []) hml)
  have lpl7 := lpl6.ex (Ex.new (o := .lst []) hml)
  have lsl7 := lsl.ex (Ex.new (o := .lst []) hml)
  have G7 := G6.tk ((Ex.new (p := p) (o := .lst []) hml).tk hp6)
  generalize upd H6 ml (.lst []) = H7 at L7 lgl7 lpl7 lsl7 G7 ⊢
  refine ⟨_, rfl, hn, rfl, by omega, by omega, ?_⟩
  refine for_range (lo := 0) (n := hn.toNat) (fun i σ H' => ∃ (v9 v10 v11 : Option V) (hs : List V) (hd : List (List Int)), σ = [some (.ref p), some (.ref r), some (.int hn), some (.int pm), some (.ref gl), v5, some (.ref pl), some (.ref sl), some (.ref ml), v9, v10, v11, none] ∧ Loop H p ml hs H' ∧ Paired (HandR H') hs hd ∧ hs.length = i ∧ Lst H' p gl gs ∧ Goals H' gs ∧ Lst H' p pl (ps.map V.str) ∧ Lst H' p sl (ss.map V.str))
    ⟨none, none, none, [], [], rfl, L7, .nil, rfl, lgl7, G7, lpl7, lsl7⟩ ?_ ?_
  · rintro i σ H8 hi ⟨v9, v10, v11, hs, hd, rfl, L8, P8, lh, lgl8, G8, lpl8, lsl8⟩
    refine seq_asg ⟨_, rfl, (by show 4 ≤ sizeLine; decide), fun l9 hl9 => ⟨_, rfl, p, 4, rfl, L8.pot.new hl9, by decide, by decide, fun g9 H9 g90 g91 hp9 ex9 => ?_⟩⟩
    have e9 : H9 l9 = some (.lst [.int 0, .int 1, .int 1, .int 2]) := ex9.keep _ _ (L8.pot.ne hl9) upd_same
    obtain ⟨m9, am9, m90, m92⟩ := four _ g9 (.inr rfl) g90 g91
    refine ⟨l9, _, g9, _, rfl, rfl, SqL.of e9, am9, p, "", m9, rfl, hp9, by decide, m90, by omega, fun ol os H10 e10 t10 _ f10 hp10 ex10 => ?_⟩
    have x810 := (Ex.new (p := p) (o := .lst [.int 0, .int 1, .int 1, .int 2]) hl9).trans (ex9.trans ex10)
    have L10 := L8.go hp10 x810
    have lol : Lst H10 p ol (os.map V.str) := ⟨e10, hp9.ne f10, by rw [List.length_map]; omega⟩
    have lsl10 := lsl8.ex x810
    refine seq_asg ⟨_, rfl, _, rfl, _, rfl, _, rfl, ol, sl, _, _, rfl, rfl, lol.at_, lsl10.at_, Nat.le_of_lt (s1000 (by rw [List.length_map, List.length_map]; omega)), fun cl hcl => ⟨_, rfl, ?_⟩⟩
    have x11 := Ex.new (p := p) (o := .lst (os.map V.str ++ ss.map V.str)) hcl
    have L11 := L10.new (o := .lst (os.map V.str ++ ss.map V.str)) hcl
    have x811 := x810.trans x11
    refine ⟨p, gl, cl, pl, 4, gs, _, _, rfl, L11.pot, lgl8.ex x811, G8.tk (x811.tk L8.pot), ⟨upd_same, L10.pot.ne hcl, by rw [List.length_append, List.length_map, List.length_map]; omega⟩, lpl8.ex x811, by decide, by decide, fun pt rs' H12 e12 h012 hp12 ex12 => ?_⟩
    have L12 := L11.go hp12 ex12
    have lol12 := (lol.ex x11).ex ex12
    have x812 := x811.trans ex12
    dsimp only
    refine ⟨_, rfl, .inl ⟨rfl, _, SqL.of L12.er⟩, _, rfl, ol, rfl, ⟨_, SqL.of lol12.at_⟩, fun D hD => comp_draw (R := PairR) (fun k h => h.tk k) (fun σ => ∃ v0 : Option V, σ = [v0, some (.ref p)]) ⟨none, rfl⟩ L12.pot lol12 hD ?_ ?_⟩
    · rintro x σ' H' kk hx ⟨v0, rfl⟩ hp' ex' hk
      refine ⟨_, rfl, _, rfl, p, 3, rfl, hp', by decide, by decide, fun g5 H5 g50 g51 hp5 ex5 => ⟨(by show 2 ≤ sizeLine; decide), fun t ht => ?_⟩⟩
      exact hk _ _ _ g5 ⟨_, rfl⟩ ⟨t, _, rfl, upd_same⟩ (hp5.new ht) (ex5.trans (Ex.new ht))
    intro us vals H13 hP13 lu gD hp13 ex13
    refine ⟨D, us, rfl, .inl ⟨SqL.of gD, fun tt htt => ⟨_, rfl, (by show 2 ≤ sizeLine; decide), fun z hz => ?_⟩⟩⟩
    have xt := Ex.new (p := p) (o := .tup us) htt
    have xz := Ex.new (p := p) (o := .tup [.ref tt, .ref pt]) hz
    have L15 := ((L12.go hp13 ex13).new (o := .tup us) htt).new (o := .tup [.ref tt, .ref pt]) hz
    have x815 := x812.trans (ex13.trans (xt.trans xz))
    have er := L15.er
    have tkm : Tk (upd (upd H13 tt (.tup us)) z (.tup [.ref tt, .ref pt])) (upd (upd (upd H13 tt (.tup us)) z (.tup [.ref tt, .ref pt])) ml (.lst (hs ++ [.ref z]))) := tk_put er
    have tk8 := (x815.tk L8.pot).trans tkm
    have lvals : vals.length ≤ 1000 := by
      have := paired_len hP13
      rw [List.length_map] at lu
      omega
    refine ⟨ml, hs, _, rfl, rfl, er, s1000 (by omega), _, _, _, hs ++ [.ref z], hd ++ [vals], rfl, L15.app _, ?_, (by rw [List.length_append, lh]; rfl), (lgl8.ex x815).put ngm, G8.tk tk8, (lpl8.ex x815).put npm, (lsl8.ex x815).put nsm⟩
    have app : ∀ {F : V → List Int → Prop} {us : List V} {bs : List (List Int)} {y : V} {b : List Int}, Paired F us bs → F y b → Paired F (us ++ [y]) (bs ++ [b]) := fun {F us bs y b} h hy => by
      induction h with
      | nil => exact .cons hy .nil
      | cons z _ ih => exact .cons z ih
    refine app (L2.Paired.mapP P8 fun _ _ z => z.tk tk8) ?_
    exact ⟨z, tt, pt, us, rfl, tkm _ _ upd_same, tkm _ _ (same_upd hz _ _ _ upd_same), pairs_tk (((Tk.same (same_upd htt _)).trans (Tk.same (same_upd hz _))).trans tkm) hP13, lvals, rs', ((ex13.tk hp12).trans (((Tk.same (same_upd htt _)).trans (Tk.same (same_upd hz _))).trans tkm)) _ _ e12, h012⟩
  · rintro σ H8 ⟨v9, v10, v11, hs, hd, rfl, L8, P8, lh, lgl8, G8, lpl8, lsl8⟩
    dsimp only
    refine seq_asg ?_
    refine ⟨_, rfl, pl, rfl, ⟨_, SqL.of lpl8.at_⟩, fun D hD => comp_draw (R := PairR) (fun k h => h.tk k) (fun σ => ∃ v0 : Option V, σ = [v0, some (.ref p)]) ⟨none, rfl⟩ L8.pot lpl8 hD ?_ ?_⟩
    · rintro x σ' H' kk hx ⟨v0, rfl⟩ hp' ex' hk
      refine ⟨_, rfl, _, rfl, p, 3, rfl, hp', by decide, by decide, fun g5 H5 g50 g51 hp5 ex5 => ⟨(by show 2 ≤ sizeLine; decide), fun t ht => ?_⟩⟩
      exact hk _ _ _ g5 ⟨_, rfl⟩ ⟨t, _, rfl, upd_same⟩ (hp5.new ht) (ex5.trans (Ex.new ht))
    intro us pvals H9 hP9 lu9 gD hp9 ex9
    refine ⟨D, us, rfl, .inl ⟨SqL.of gD, fun ct hct => ?_⟩⟩
    have xc := Ex.new (p := p) (o := .tup us) hct
    have L10 := (L8.go hp9 ex9).new (o := .tup us) hct
    have x810 := ex9.trans xc
    have lsl10 := lsl8.ex x810
    have hP10 := pairs_tk (Tk.same (same_upd hct (.tup us))) hP9
    have ec : upd H9 ct (.tup us) ct = some (.tup us) := upd_same
    generalize upd H9 ct (.tup us) = H10 at L10 x810 lsl10 hP10 ec ⊢
    refine ⟨_, rfl, _, rfl, _, rfl, sl, rfl, ⟨_, SqL.of lsl10.at_⟩, fun D2 hD2 => comp_draw (R := PairR) (fun k h => h.tk k) (fun σ => ∃ v0 : Option V, σ = [v0, some (.ref p)]) ⟨none, rfl⟩ L10.pot lsl10 hD2 ?_ ?_⟩
    · rintro x σ' H' kk hx ⟨v0, rfl⟩ hp' ex' hk
      refine ⟨_, rfl, _, rfl, p, 3, rfl, hp', by decide, by decide, fun g5 H5 g50 g51 hp5 ex5 => ⟨(by show 2 ≤ sizeLine; decide), fun t ht => ?_⟩⟩
      exact hk _ _ _ g5 ⟨_, rfl⟩ ⟨t, _, rfl, upd_same⟩ (hp5.new ht) (ex5.trans (Ex.new ht))
    intro us2 svals H11 hP11 lu11 gD2 hp11 ex11
    refine ⟨D2, us2, rfl, .inl ⟨SqL.of gD2, fun st hst => ⟨_, rfl, ml, hs, rfl, .inl ⟨SqL.of ((L10.go hp11 ex11).new hst).er, fun mt hmt => ⟨(by show 4 ≤ sizeLine; decide), fun z hz => ?_⟩⟩⟩⟩⟩
    have L14 := (((L10.go hp11 ex11).new (o := .tup us2) hst).new (o := .tup hs) hmt).new (o := .tup [.ref r, .ref ct, .ref st, .ref mt]) hz
    have y1 := same_upd hst (.tup us2)
    have y2 := same_upd hmt (.tup hs)
    have y3 := same_upd hz (.tup [.ref r, .ref ct, .ref st, .ref mt])
    have T11 : Tk H11 _ := Tk.same fun x o y => y3 _ _ (y2 _ _ (y1 _ _ y))
    have T10 := (ex11.tk L10.pot).trans T11
    have T8 := (x810.tk L8.pot).trans T10
    have TH := L14.ex.tk hp
    have len1 := paired_len hP9
    have len2 := paired_len hP11
    have len3 := paired_len P8
    have len4 := paired_len hP
    rw [List.length_map] at lu9 lu11
    refine k z ⟨ds, pvals, svals, hd⟩ _ ⟨⟨r, ct, st, mt, rs, us, us2, hs, upd_same, TH _ _ hR, L2.Paired.mapP hP (fun _ _ ⟨n, h⟩ => (h.tk TH).toR), T10 _ _ ec, pairs_tk T10 hP10, y3 _ _ (y2 _ _ upd_same), pairs_tk T11 hP11, y3 _ _ upd_same, L2.Paired.mapP P8 fun _ _ h => h.tk T8⟩, ?_, ?_, ?_, ?_⟩ L14.pot L14.ex
    · show ds.length ≤ 1000
      omega
    · show pvals.length ≤ 1000
      omega
    · show svals.length ≤ 1000
      omega
    · show hd.length ≤ 1000
      omega
end
end K14

set_option Elab.async false
set_option linter.all false
set_option maxRecDepth 100000
set_option maxHeartbeats 4000000
namespace K14
open PySem L2 PyProof.Rows
open Kx (same_upd free_upd)
abbrev sAny : Stmt := top 24
section
variable {P : Program} {w : World} {K : PySem.W.Frag} {mg : Str → Option Value} {base : Heap} {f gK gR gW gP gA gD gS gB : Addr} {fd dK dR dW dP dA dD dS dB : FuncData}
def spAny : Sp := fun vs H Q _ => ∃ (p : Addr), vs = [.ref p] ∧ PotW H p ∧ ∀ (wd : Addr) (d : WorldD) (H' : Hp), WorldAt H' wd d → PotW H' p → Ex p H H' → Q (.ref wd) H'
theorem scAny : FnScope ["_law_pot_here", "_law_rooms_here"] ["_law_pot_here"] (defScope sAny) := ⟨rfl, rfl, rfl, by decide +kernel, rfl, by decide +kernel, by decide +kernel⟩
theorem ok_any (F : Fun K "_law_any_world" "_law_any_world" sAny f fd)
    (GK : FnOk P w K mg base CX0 1 gK dK ["_law_pot_here", "_law_many"] spTake) (bK : Binds K dK ["_law_pot_here", "_law_many"] []) (kK : PySem.W.keepIn K (.ref gK) = true) (mK : mg "_law_take" = some (.ref gK))
    (GR : FnOk P w K mg base CX0 10 gR dR ["_law_pot_here", "_law_many", "_law_manners", "_law_bells_most"] spRooms) (bR : Binds K dR ["_law_pot_here", "_law_many", "_law_manners", "_law_bells_most"] []) (kR : PySem.W.keepIn K (.ref gR) = true) (mR : mg "_law_rooms" = some (.ref gR))
    (GW : FnOk P w K mg base CX0 9 gW dW ["_law_pot_here", "_law_rooms_here", "_law_hands", "_law_passes_most"] spWorld) (bW : Binds K dW ["_law_pot_here", "_law_rooms_here", "_law_hands", "_law_passes_most"] []) (kW : PySem.W.keepIn K (.ref gW) = true) (mW : mg "_law_world" = some (.ref gW)) :
    FnOk P w K mg base CX0 11 f fd ["_law_pot_here"] spAny := by
  refine F.ok scAny (fun vs H Q E h => ?_) (fun cdv A outer s H vs Q E hr h => ?_)
  · obtain ⟨p, rfl, _⟩ := h
    rfl
  obtain ⟨p, rfl, hp, k⟩ := h
  have nd := scAny.nd
  have hr1 : Room 1 _ := hr.mono (by decide)
  have hr9 : Room 9 _ := hr.mono (by decide)
  refine ⟨_, pss_cons (ps_set (i := 1) nd rfl (Or.inl rfl) (pe_call GR hr rfl mR kR bR .nil pass0 (pa_cons (pv 0) (pa_cons (pe_ix ix_list (pe_lst (pa_cons pe_int (pa_cons pe_int (pa_cons pe_int (pa_cons pe_int (pa_cons pe_int (pa_cons pe_int pa_nil))))))) (pe_call GK hr1 rfl mK kK bK .nil pass0 (pa_cons (pv 0) (pa_cons pe_int pa_nil))) (fun _ _ => rfl)) (pa_cons (pe_lst (pa_cons pe_str (pa_cons pe_str pa_nil))) (pa_cons pe_int pa_nil))))))
    (pss_one (ps_ret (pe_call GW hr9 rfl mW kW bW .nil pass0 (pa_cons (pv 0) (pa_cons (pv 1) (pa_cons (pe_op op_add pe_int (pe_call GK hr1 rfl mK kK bK .nil pass0 (pa_cons (pv 0) (pa_cons pe_int pa_nil)))) (pa_cons pe_int pa_nil))))))), ?_⟩
  refine seq_asg ⟨_, rfl, (by show 6 ≤ sizeLine; decide), fun l1 hl1 => ⟨_, rfl, p, 6, rfl, hp.new hl1, by decide, by decide, fun g2 H2 g20 g21 hp2 ex2 => ?_⟩⟩
  have e2 : H2 l1 = some (.lst [.int 1, .int 2, .int 3, .int 1, .int 2, .int 0]) := ex2.keep _ _ (hp.ne hl1) upd_same
  obtain ⟨m, am, m0, m3⟩ : ∃ m : Int, atI [V.int 1, .int 2, .int 3, .int 1, .int 2, .int 0] g2 = some (.int m) ∧ 0 ≤ m ∧ m ≤ 3 := by
    have : g2 = 0 ∨ g2 = 1 ∨ g2 = 2 ∨ g2 = 3 ∨ g2 = 4 ∨ g2 = 5 := by omega
    rcases this with rfl | rfl | rfl | rfl | rfl | rfl <;> exact ⟨_, rfl, by decide, by decide⟩
  have x2 := (Ex.new (p := p) (o := .lst [.int 1, .int 2, .int 3, .int 1, .int 2, .int 0]) hl1).trans ex2
  refine ⟨l1, _, g2, _, rfl, rfl, SqL.of e2, am, (by show 2 ≤ sizeLine; decide), fun l3 hl3 => ?_⟩
  refine ⟨p, l3, m, 2, _, rfl, hp2.new hl3, m0, m3, ⟨upd_same, hp2.ne hl3, (by show 2 < 1000; decide)⟩, (by show 0 < 2; decide), ?_, by decide, by decide, fun t rs ds H4 e4 hP lr hp4 ex4 => ?_⟩
  · intro v hv
    simp only [List.mem_cons, List.not_mem_nil, or_false] at hv
    rcases hv with rfl | rfl <;> exact ⟨_, rfl⟩
  have x4 := x2.trans ((Ex.new hl3).trans ex4)
  refine ⟨_, rfl, _, rfl, _, rfl, p, 4, rfl, hp4, by decide, by decide, fun g5 H5 g50 g51 hp5 ex5 => ⟨_, _, rfl, rfl, ?_⟩⟩
  have tk := ex5.tk hp4
  exact ⟨p, t, 1 + g5, 2, rs, ds, rfl, hp5, tk _ _ e4, L2.Paired.mapP hP (fun _ _ ⟨n, h⟩ => ⟨n, h.tk tk⟩), lr, by omega, by omega, by decide, by decide, fun wd d H6 hW hp6 ex6 => k wd d H6 hW hp6 (x4.trans (ex5.trans ex6))⟩
end
end K14

set_option Elab.async false
set_option linter.all false
set_option maxRecDepth 100000
set_option maxHeartbeats 4000000
namespace K14
open PySem L2 PyProof.Rows
open Kx (same_upd free_upd)
abbrev sLast : Stmt := top 6
abbrev sProg : Stmt := top 7
abbrev sStands : Stmt := top 8
abbrev sPlace : Stmt := top 9
abbrev sHands : Stmt := top 10
theorem scene_at {H : Hp} {d : WorldD} {v : V} (h : DtAt N0 H (sceneD d) v) : ∃ z c1 c2 c3 c4 u1 u2 u4, v = .ref z ∧ H z = some (.tup [.ref c1, .ref c2, .ref c3, .ref c4]) ∧ H c1 = some (.tup u1) ∧ DtsAt N0 H (d.rooms.map roomD) u1 ∧ H c2 = some (.tup u2) ∧ DtsAt N0 H (d.passes.map passD) u2 ∧ H c4 = some (.tup u4) ∧ DtsAt N0 H (d.hands.map handD) u4 := by
  cases h with
  | tup h0 hs =>
  cases hs with
  | cons a1 hs =>
  cases hs with
  | cons a2 hs =>
  cases hs with
  | cons a3 hs =>
  cases hs with
  | cons a4 hs =>
  cases hs
  cases a1 with
  | tup b1 e1 =>
  cases a2 with
  | tup b2 e2 =>
  cases a3 with
  | tup b3 e3 =>
  cases a4 with
  | tup b4 e4 =>
  exact ⟨_, _, _, _, _, _, _, _, rfl, h0, b1, e1, b2, e2, b4, e4⟩
theorem pass_at {H : Hp} {x : Int} {v : V} (h : DtAt N0 H (passD x) v) : ∃ a b, v = .ref a ∧ H a = some (.tup [.int x, .ref b]) ∧ H b = some (.tup []) := by
  cases h with
  | tup h0 hs =>
  cases hs with
  | cons a1 hs =>
  cases hs with
  | cons a2 hs =>
  cases hs
  cases a1
  cases a2 with
  | tup b2 e2 =>
  cases e2
  exact ⟨_, _, rfl, h0, b2⟩
theorem room_at {H : Hp} {d : RoomD} {v : V} (h : DtAt N0 H (roomD d) v) : ∃ a c1 c2 c3 c4 u4, v = .ref a ∧ H a = some (.tup [.ref c1, .int (-1), .ref c2, .ref c3, .ref c4]) ∧ H c2 = some (.tup []) ∧ H c3 = some (.tup []) ∧ H c4 = some (.tup u4) ∧ DtsAt N0 H (List.replicate d.nb (.tuple [])) u4 := by
  cases h with
  | tup h0 hs =>
  cases hs with
  | cons a1 hs =>
  cases hs with
  | cons a2 hs =>
  cases hs with
  | cons a3 hs =>
  cases hs with
  | cons a4 hs =>
  cases hs with
  | cons a5 hs =>
  cases hs
  cases a1 with
  | tup b1 e1 =>
  cases a2
  cases a3 with
  | tup b3 e3 =>
  cases a4 with
  | tup b4 e4 =>
  cases a5 with
  | tup b5 e5 =>
  cases e3
  cases e4
  exact ⟨_, _, _, _, _, _, rfl, h0, b3, b4, b5, e5⟩
theorem none_at {H : Hp} {v : V} (h : DtAt N0 H (.tuple []) v) : ∃ a, v = .ref a ∧ H a = some (.tup []) := by
  cases h with
  | tup h0 hs =>
  cases hs
  exact ⟨_, rfl, h0⟩
theorem hand_at {H : Hp} {xs : List Int} {v : V} (h : DtAt N0 H (handD xs) v) : ∃ a t f o, v = .ref a ∧ H a = some (.tup [.ref t, .ref f]) ∧ H f = some (.tup [.ref o]) ∧ H o = some (.tup [.int (-1), .int (-1), .int 0, .int 0, .int 0]) := by
  cases h with
  | tup h0 hs =>
  cases hs with
  | cons a1 hs =>
  cases hs with
  | cons a2 hs =>
  cases hs
  cases a1 with
  | tup b1 e1 =>
  cases a2 with
  | tup b2 e2 =>
  cases e2 with
  | cons g1 e2 =>
  cases e2
  cases g1 with
  | tup k1 l1 =>
  cases l1 with
  | cons m1 l1 =>
  cases l1 with
  | cons m2 l1 =>
  cases l1 with
  | cons m3 l1 =>
  cases l1 with
  | cons m4 l1 =>
  cases l1 with
  | cons m5 l1 =>
  cases l1
  cases m1
  cases m2
  cases m3
  cases m4
  cases m5
  exact ⟨_, _, _, _, rfl, h0, b2, k1⟩
section
variable {P : Program} {w : World} {K : PySem.W.Frag} {mg : Str → Option Value} {base : Heap} {f : Addr} {fd : FuncData}
def spHands : Sp := fun vs H Q _ => ∃ (a : Addr), vs = [.ref a] ∧ H a = some (.tup []) ∧ ∀ b, H b = none → Q (.ref b) (upd H b (.lst []))
theorem scHands : FnScope ["line"] ["line"] (defScope sHands) := ⟨rfl, rfl, rfl, by decide +kernel, rfl, by decide +kernel, by decide +kernel⟩
theorem ok_hands (F : Fun K "hands_at" "hands_at" sHands f fd) : FnOk P w K mg base CX0 1 f fd ["line"] spHands := by
  refine F.ok scHands (fun vs H Q E h => ?_) (fun cdv A outer s H vs Q E hr h => ?_)
  · obtain ⟨a, rfl, _⟩ := h
    rfl
  obtain ⟨a, rfl, ha, q⟩ := h
  have ndc : (["turn", "hand"] : List Str).Nodup := by decide +kernel
  refine ⟨_, pss_one (ps_ret (pe_comp (N := ["turn", "hand"]) (CompScope.plain rfl (by decide +kernel) (by decide +kernel) (by decide +kernel)) rfl (pi_tup (pv 0))
    (fun C s H fp => pg_two (K := K) (i := 0) (j := 1) rfl rfl ndc rfl rfl (Or.inl rfl) (Or.inl rfl) (Or.inr rfl) (Or.inr rfl)) (fun C s H fp => pf_nil) (fun C s H fp => pv 1))), ?_⟩
  refine ⟨_, rfl, a, rfl, ⟨_, SqT.of ha⟩, fun D hD => ?_⟩
  refine comp_tup (K := K) (a := a) (xs := []) (fun i σ' H' => H' = upd H D (.lst [])) rfl ?_ ?_ ?_
  · rintro i σ' H' _ rfl
    exact SqT.of (same_upd hD _ _ _ ha)
  · rintro i u σ' H' hi _
    simp at hi
  · rintro σ' H' rfl
    exact q D hD
def spLast : Sp := fun vs H Q _ => ∃ (v : V) (d : WorldD) (i : Nat), vs = [v, .int i] ∧ DtAt N0 H (sceneD d) v ∧ i < d.hands.length ∧ ∀ o, H o = some (.tup [.int (-1), .int (-1), .int 0, .int 0, .int 0]) → Q (.ref o) H
theorem scLast : FnScope ["scene", "hand"] ["scene", "hand"] (defScope sLast) := ⟨rfl, rfl, rfl, by decide +kernel, rfl, by decide +kernel, by decide +kernel⟩
theorem ok_last (F : Fun K "last_frame" "last_frame" sLast f fd) : FnOk P w K mg base CX0 1 f fd ["scene", "hand"] spLast := by
  refine F.ok scLast (fun vs H Q E h => ?_) (fun cdv A outer s H vs Q E hr h => ?_)
  · obtain ⟨v, d, i, rfl, _⟩ := h
    rfl
  obtain ⟨v, d, i, rfl, hv, hi, q⟩ := h
  refine ⟨_, pss_one (ps_ret (pe_ix ix_tup (pe_ix ix_tup (pe_ix ix_tup (pe_ix ix_tup (pv 0) pe_int (fun _ _ => rfl)) (pv 1) (fun _ _ => rfl)) pe_int (fun _ _ => rfl)) (pe_un un_neg pe_int) (fun _ _ => rfl))), ?_⟩
  obtain ⟨z, c1, c2, c3, c4, u1, u2, u4, rfl, h0, h1, k1, h2, k2, h4, k4⟩ := scene_at hv
  have l4 := k4.length
  rw [List.length_map] at l4
  have hi4 : i < u4.length := by omega
  obtain ⟨dd, e1, hdd⟩ := k4.get (List.getElem?_eq_getElem hi4)
  rw [List.getElem?_map, List.getElem?_eq_getElem hi] at e1
  cases e1
  obtain ⟨a, t, ff, o, e2, g1, g2, g3⟩ := hand_at hdd
  refine ⟨_, rfl, z, _, 3, .ref c4, rfl, rfl, SqT.of h0, rfl, _, rfl, c4, u4, i, .ref a, rfl, rfl, SqT.of h4, atI_nat (by rw [List.getElem?_eq_getElem hi4, e2]), ?_⟩
  exact ⟨a, _, 1, .ref ff, rfl, rfl, SqT.of g1, rfl, 1, rfl, ff, _, -1, .ref o, rfl, rfl, SqT.of g2, rfl, q o g3⟩
def spProg : Sp := fun vs H Q _ => ∃ (wd o : Addr) (d : WorldD) (i : Nat), vs = [.ref wd, .int i, .ref o] ∧ WorldAt H wd d ∧ i < d.hands.length ∧ H o = some (.tup [.int (-1), .int (-1), .int 0, .int 0, .int 0]) ∧ ∀ p pr H', H' p = some (.tup pr) → 0 < pr.length → Same H H' → (∀ b, H' b = none → H b = none) → Q (.ref p) H'
theorem scProg : FnScope ["world", "hand", "frame", "room", "deed"] ["world", "hand", "frame"] (defScope sProg) := ⟨rfl, rfl, rfl, by decide +kernel, rfl, by decide +kernel, by decide +kernel⟩
theorem ok_prog {tN : Tok} (F : Fun K "program_of" "program_of" sProg f fd) (hO : mg "OWN" = some (.int (-1) tN)) : FnOk P w K mg base CX0 1 f fd ["world", "hand", "frame"] spProg := by
  refine F.ok scProg (fun vs H Q E h => ?_) (fun cdv A outer s H vs Q E hr h => ?_)
  · obtain ⟨wd, o, d, i, rfl, _⟩ := h
    rfl
  obtain ⟨wd, o, d, i, rfl, hW, hi, ho, q⟩ := h
  have nd := scProg.nd
  refine ⟨_, pss_cons (ps_par (i := 3) (j := 4) rfl nd rfl rfl (by decide) rfl rfl (pa_cons (pe_ix ix_tup (pv 2) pe_int (fun _ _ => rfl)) (pa_cons (pe_ix ix_tup (pv 2) pe_int (fun _ _ => rfl)) pa_nil)) rfl)
    (pss_cons (ps_if (pt_cmpR op_eq (pv 3) (pe_glob (v := .int (-1)) rfl hO ⟨_, rfl⟩) (nomark _)) (pss_one (ps_ret (pe_ix ix_tup (pe_ix ix_tup (pe_ix ix_tup (pv 0) pe_int (fun _ _ => rfl)) (pv 1) (fun _ _ => rfl)) pe_int (fun _ _ => rfl)))) pss_nil) pss_never), ?_⟩
  obtain ⟨⟨r, p, sh, hh, rs, ps, ss, hs, h0, h1, h2, h3, h4, h5, h6, h7, h8⟩, l1, l2, l3, l4⟩ := hW
  refine ⟨_, rfl, o, _, 0, .int (-1), rfl, rfl, SqT.of ho, rfl, _, rfl, o, _, 1, .int (-1), rfl, rfl, SqT.of ho, rfl, _, _, rfl, ?_⟩
  have l8 := paired_len h8
  have hi8 : i < hs.length := by omega
  obtain ⟨x, ex, a, t', pp, us, e2, g1, g2, g3, g4, pr, g5, g6⟩ := paired_get h8 (List.getElem?_eq_getElem hi8)
  refine ⟨_, rfl, rfl, _, rfl, iteT ⟨_, rfl, wd, _, 3, .ref hh, rfl, rfl, SqT.of h0, rfl, _, rfl, hh, hs, i, .ref a, rfl, rfl, SqT.of h7, atI_nat (by rw [List.getElem?_eq_getElem hi8, e2]), a, _, 1, .ref pp, rfl, rfl, SqT.of g1, rfl, ?_⟩⟩
  exact q pp pr _ g5 g6 (Same.refl _) fun b z => z
end
end K14

set_option Elab.async false
set_option linter.all false
set_option maxRecDepth 100000
set_option maxHeartbeats 4000000
namespace K14
open PySem L2 PyProof.Rows
open Kx (same_upd free_upd)
section
variable {P : Program} {w : World} {K : PySem.W.Frag} {mg : Str → Option Value} {base : Heap} {f gH gL gP gR : Addr} {fd dH dL dP dR : FuncData}
def spPlace : Sp := fun vs H Q _ => ∃ (wd : Addr) (v : V) (d : WorldD) (i : Nat), vs = [.ref wd, v, .int i] ∧ WorldAt H wd d ∧ DtAt N0 H (sceneD d) v ∧ ∀ H', Same H H' → (∀ b, H' b = none → H b = none) → Q .non H'
theorem scPlace : FnScope ["world", "scene", "hand", "name", "first", "value", "row", "room", "state", "bell", "sort", "line"] ["world", "scene", "hand"] (defScope sPlace) := ⟨rfl, rfl, rfl, by decide +kernel, rfl, by decide +kernel, by decide +kernel⟩
theorem ok_place (F : Fun K "place_in_a_row" "place_in_a_row" sPlace f fd) (hz : mg "zip" = none)
    (GH : FnOk P w K mg base CX0 1 gH dH ["line"] spHands) (bH : Binds K dH ["line"] []) (kH : PySem.W.keepIn K (.ref gH) = true) (mH : mg "hands_at" = some (.ref gH)) :
    FnOk P w K mg base CX0 2 f fd ["world", "scene", "hand"] spPlace := by
  refine F.ok scPlace (fun vs H Q E h => ?_) (fun cdv A outer s H vs Q E hr h => ?_)
  · obtain ⟨wd, v, d, i, rfl, _⟩ := h
    rfl
  obtain ⟨wd, v, d, i, rfl, hW, hv, q⟩ := h
  have nd := scPlace.nd
  refine ⟨_, pss_cons (ps_for PassesOwn.never rfl (pi_zip rfl hz (pa_cons (pe_ix ix_tup (pv 0) pe_int (fun _ _ => rfl)) (pa_cons (pe_ix ix_tup (pv 1) pe_int (fun _ _ => rfl)) pa_nil)))
      (pg_tup rfl (pgs_cons (pg_tup rfl (pgs_cons (pg_name (i := 3) nd rfl (Or.inl rfl)) (pgs_cons (pg_name (i := 4) nd rfl (Or.inl rfl)) pgs_nil))) (pgs_cons (pg_tup rfl (pgs_cons (pg_name (i := 5) nd rfl (Or.inl rfl)) (pgs_cons (pg_name (i := 6) nd rfl (Or.inl rfl)) pgs_nil))) pgs_nil)))
      (pss_one (ps_if (pt_cmpR op_in_seq (pv 2) (pv 6) rfl) pss_never pss_nil)))
    (pss_cons (ps_for PassesOwn.never rfl (pi_zip rfl hz (pa_cons (pe_ix ix_tup (pv 0) pe_int (fun _ _ => rfl)) (pa_cons (pe_ix ix_tup (pv 1) pe_int (fun _ _ => rfl)) pa_nil)))
      (pg_tup rfl (pgs_cons (pg_name (i := 7) nd rfl (Or.inl rfl)) (pgs_cons (pg_name (i := 8) nd rfl (Or.inl rfl)) pgs_nil)))
      (pss_cons (ps_if (pt_cmpR op_in_seq (pv 2) (pe_ix ix_tup (pv 8) pe_int (fun _ _ => rfl)) rfl) pss_never pss_nil)
      (pss_cons (ps_if (pt_cmpR op_in_seq (pv 2) (pe_ix ix_tup (pv 8) pe_int (fun _ _ => rfl)) rfl) pss_never pss_nil)
      (pss_one (ps_for PassesOwn.never rfl (pi_zip rfl hz (pa_cons (pe_ix ix_tup (pv 7) pe_int (fun _ _ => rfl)) (pa_cons (pe_ix ix_tup (pv 8) pe_int (fun _ _ => rfl)) pa_nil)))
        (pg_tup rfl (pgs_cons (pg_tup rfl (pgs_cons (pg_name (i := 9) nd rfl (Or.inl rfl)) (pgs_cons (pg_name (i := 10) nd rfl (Or.inl rfl)) pgs_nil))) (pgs_cons (pg_name (i := 11) nd rfl (Or.inl rfl)) pgs_nil)))
        (pss_one (ps_if (pt_cmpR op_in_seq (pv 2) (pe_call GH hr rfl mH kH bH .nil pass0 (pa_cons (pv 11) pa_nil)) rfl) pss_never pss_nil)))))))
    (pss_one (ps_ret pe_non))), ?_⟩
  obtain ⟨⟨r, p, sh, hh, rs, ps, ss, hs, h0, h1, h2, h3, h4, h5, h6, h7, h8⟩, l1, l2, l3, l4⟩ := hW
  obtain ⟨z, c1, c2, c3, c4, u1, u2, u4, rfl, g0, g1, k1, g2, k2, g4, k4⟩ := scene_at hv
  have n1 := k1.length
  have n2 := k2.length
  rw [List.length_map] at n1 n2
  have m1 := paired_len h2
  have m2 := paired_len h4
  refine ⟨_, rfl, wd, _, 1, .ref p, rfl, rfl, SqT.of h0, rfl, _, rfl, z, _, 1, .ref c2, rfl, rfl, SqT.of g0, rfl, p, c2, ps, u2, rfl, SqT.of h3, SqT.of g2, ?_⟩
  refine for_zip (K := K) (a := p) (b := c2) (xs := ps) (ys := u2) (fun _ σ H' => ∃ v3 v4 v5 v6 : Option V, σ = [some (.ref wd), some (.ref z), some (.int i), v3, v4, v5, v6, none, none, none, none, none] ∧ Same H H' ∧ ∀ b, H' b = none → H b = none)
    ⟨none, none, none, none, rfl, Same.refl _, fun _ h => h⟩ (by omega) (fun _ σ H' _ ⟨_, _, _, _, _, k, _⟩ => ⟨SqT.of (k _ _ h3), SqT.of (k _ _ g2)⟩) ?_ ?_
  · rintro j x y σ H1 t hx hy ⟨v3, v4, v5, v6, rfl, s1, f1⟩ ht
    obtain ⟨x', _, rr, wx, rfl, e1⟩ := paired_get h4 hx
    obtain ⟨dd, ed, hd⟩ := k2.get hy
    obtain ⟨pv', _, rfl⟩ := List.mem_map.mp (List.mem_of_getElem? ed)
    obtain ⟨a, b, rfl, e2, e3⟩ := pass_at hd
    have S : Same H (upd H1 t (.tup [.ref rr, .ref a])) := fun b o y => same_upd ht _ _ _ (s1 _ _ y)
    refine ⟨t, _, rfl, SqT.of upd_same, rfl, _, _, rfl, rr, _, rfl, SqT.of (S _ _ e1), rfl, _, _, rfl, _, _, rfl, rfl, _, _, rfl, a, _, rfl, SqT.of (S _ _ e2), rfl, _, _, rfl, _, _, rfl, rfl, rfl, ?_⟩
    refine ⟨_, rfl, _, rfl, b, [], rfl, .inr (SqT.of (S _ _ e3)), rfl, rfl, _, rfl, iteF ?_⟩
    exact ⟨_, _, _, _, rfl, S, fun b y => f1 b (free_upd y)⟩
  rintro σ H1 ⟨v3, v4, v5, v6, rfl, s1, f1⟩
  refine ⟨_, rfl, wd, _, 0, .ref r, rfl, rfl, SqT.of (s1 _ _ h0), rfl, _, rfl, z, _, 0, .ref c1, rfl, rfl, SqT.of (s1 _ _ g0), rfl, r, c1, rs, u1, rfl, SqT.of (s1 _ _ h1), SqT.of (s1 _ _ g1), ?_⟩
  refine for_zip (K := K) (a := r) (b := c1) (xs := rs) (ys := u1) (fun _ σ H' => ∃ v7 v8 v9 v10 v11 : Option V, σ = [some (.ref wd), some (.ref z), some (.int i), v3, v4, v5, v6, v7, v8, v9, v10, v11] ∧ Same H H' ∧ ∀ b, H' b = none → H b = none)
    ⟨none, none, none, none, none, rfl, s1, f1⟩ (by omega) (fun _ σ H' _ ⟨_, _, _, _, _, _, k, _⟩ => ⟨SqT.of (k _ _ h1), SqT.of (k _ _ g1)⟩) ?_ ?_
  · rintro j x y σ H2 t hx hy ⟨v7, v8, v9, v10, v11, rfl, s2, f2⟩ ht
    obtain ⟨dr, er, ra, rn, rm, rt, rb, re, us, bs, rfl, q1, q2, q3, q4, q5, q6, q7, q8⟩ := paired_get h2 hx
    obtain ⟨dd, ed, hd⟩ := k1.get hy
    rw [List.getElem?_map, er] at ed
    cases ed
    obtain ⟨a, b1, b2, b3, b4, ls, rfl, e1, e2, e3, e4, e5⟩ := room_at hd
    have S : Same H (upd H2 t (.tup [.ref ra, .ref a])) := fun b o y => same_upd ht _ _ _ (s2 _ _ y)
    have Fr : ∀ b, upd H2 t (.tup [.ref ra, .ref a]) b = none → H b = none := fun b y => f2 b (free_upd y)
    refine ⟨t, _, rfl, SqT.of upd_same, rfl, _, _, rfl, _, _, rfl, rfl, ?_⟩
    generalize upd H2 t (.tup [.ref ra, .ref a]) = H3 at S Fr ⊢
    refine ⟨_, rfl, _, rfl, a, _, 2, .ref b2, rfl, rfl, SqT.of (S _ _ e1), rfl, b2, [], rfl, .inr (SqT.of (S _ _ e2)), rfl, rfl, _, rfl, iteF ?_⟩
    refine ⟨_, rfl, _, rfl, a, _, 3, .ref b3, rfl, rfl, SqT.of (S _ _ e1), rfl, b3, [], rfl, .inr (SqT.of (S _ _ e3)), rfl, rfl, _, rfl, iteF ?_⟩
    have n5 := e5.length
    rw [List.length_replicate] at n5
    refine ⟨_, rfl, ra, _, 3, .ref rb, rfl, rfl, SqT.of (S _ _ q1), rfl, _, rfl, a, _, 4, .ref b4, rfl, rfl, SqT.of (S _ _ e1), rfl, rb, b4, bs, ls, rfl, SqT.of (S _ _ q4), SqT.of (S _ _ e4), ?_⟩
    refine for_zip (K := K) (a := rb) (b := b4) (xs := bs) (ys := ls) (fun _ σ H' => ∃ v9 v10 v11 : Option V, σ = [some (.ref wd), some (.ref z), some (.int i), v3, v4, v5, v6, some (.ref ra), some (.ref a), v9, v10, v11] ∧ Same H H' ∧ ∀ b, H' b = none → H b = none)
      ⟨_, _, _, rfl, S, Fr⟩ (by omega) (fun _ σ H' _ ⟨_, _, _, _, k, _⟩ => ⟨SqT.of (k _ _ q4), SqT.of (k _ _ e4)⟩) ?_ ?_
    · rintro j' x y σ H4 t4 hx' hy' ⟨v9, v10, v11, rfl, s4, f4⟩ ht4
      obtain ⟨ba, bx, bY, rfl, be⟩ := q8 _ (List.mem_of_getElem? hx')
      obtain ⟨dd, ed', hd'⟩ := e5.get hy'
      rw [(List.mem_replicate.mp (List.mem_of_getElem? ed')).2] at hd'
      obtain ⟨la, rfl, le⟩ := none_at hd'
      have S4 : Same H (upd H4 t4 (.tup [.ref ba, .ref la])) := fun b o y => same_upd ht4 _ _ _ (s4 _ _ y)
      have F4 : ∀ b, upd H4 t4 (.tup [.ref ba, .ref la]) b = none → H b = none := fun b y => f4 b (free_upd y)
      refine ⟨t4, _, rfl, SqT.of upd_same, rfl, _, _, rfl, ba, _, rfl, SqT.of (S4 _ _ be), rfl, _, _, rfl, _, _, rfl, rfl, _, _, rfl, rfl, ?_⟩
      refine ⟨_, rfl, _, rfl, la, rfl, S4 _ _ le, fun D hD => ⟨D, [], rfl, .inl (SqL.of upd_same), rfl, rfl, _, rfl, iteF ?_⟩⟩
      exact ⟨_, _, _, rfl, fun b o y => same_upd hD _ _ _ (S4 _ _ y), fun b y => F4 b (free_upd y)⟩
    · rintro σ H4 ⟨v9, v10, v11, rfl, s4, f4⟩
      exact ⟨_, _, _, _, _, rfl, s4, f4⟩
  rintro σ H2 ⟨v7, v8, v9, v10, v11, rfl, s2, f2⟩
  exact q H2 s2 f2
def spStands : Sp := fun vs H Q _ => ∃ (wd : Addr) (v : V) (d : WorldD) (i : Nat), vs = [.ref wd, v, .int i] ∧ WorldAt H wd d ∧ DtAt N0 H (sceneD d) v ∧ i < d.hands.length ∧ ∀ r H', H' r = some (.tup [.str "out"]) → Same H H' → (∀ b, H' b = none → H b = none) → Q (.ref r) H'
theorem scStands : FnScope ["world", "scene", "hand", "waits", "frame", "room", "name"] ["world", "scene", "hand"] (defScope sStands) := ⟨rfl, rfl, rfl, by decide +kernel, rfl, by decide +kernel, by decide +kernel⟩
theorem ok_stands {tN : Tok} (F : Fun K "stands" "stands" sStands f fd) (hO : mg "OWN" = some (.int (-1) tN)) (hlen : mg "len" = none)
    (GP : FnOk P w K mg base CX0 2 gP dP ["world", "scene", "hand"] spPlace) (bP : Binds K dP ["world", "scene", "hand"] []) (kP : PySem.W.keepIn K (.ref gP) = true) (mP : mg "place_in_a_row" = some (.ref gP))
    (GL : FnOk P w K mg base CX0 1 gL dL ["scene", "hand"] spLast) (bL : Binds K dL ["scene", "hand"] []) (kL : PySem.W.keepIn K (.ref gL) = true) (mL : mg "last_frame" = some (.ref gL))
    (GR : FnOk P w K mg base CX0 1 gR dR ["world", "hand", "frame"] spProg) (bR : Binds K dR ["world", "hand", "frame"] []) (kR : PySem.W.keepIn K (.ref gR) = true) (mR : mg "program_of" = some (.ref gR)) :
    FnOk P w K mg base CX0 3 f fd ["world", "scene", "hand"] spStands := by
  refine F.ok scStands (fun vs H Q E h => ?_) (fun cdv A outer s H vs Q E hr h => ?_)
  · obtain ⟨wd, v, d, i, rfl, _⟩ := h
    rfl
  obtain ⟨wd, v, d, i, rfl, hW, hv, hi, q⟩ := h
  have nd := scStands.nd
  have hr1 : Room 1 _ := hr.mono (by decide)
  refine ⟨_, pss_cons (ps_set (i := 3) nd rfl (Or.inl rfl) (pe_call GP hr rfl mP kP bP .nil pass0 (pa_cons (pv 0) (pa_cons (pv 1) (pa_cons (pv 2) pa_nil)))))
    (pss_cons (ps_if (pt_cmpR op_notN (pv 3) pe_non (nomark _)) pss_never pss_nil)
    (pss_cons (ps_set (i := 4) nd rfl (Or.inl rfl) (pe_call GL hr1 rfl mL kL bL .nil pass0 (pa_cons (pv 1) (pa_cons (pv 2) pa_nil))))
    (pss_cons (ps_set (i := 5) nd rfl (Or.inl rfl) (pe_ix ix_tup (pv 4) pe_int (fun _ _ => rfl)))
    (pss_cons (ps_if (pt_cmpR op_eq (pv 5) (pe_glob (v := .int (-1)) rfl hO ⟨_, rfl⟩) (nomark _))
      (pss_one (ps_ret (pe_ifExp (pt_cmpR op_eq (pe_ix ix_tup (pv 4) pe_int (fun _ _ => rfl)) (pe_callB call_len_seq rfl hlen PySem.boot_len (pa_cons (pe_call GR hr1 rfl mR kR bR .nil pass0 (pa_cons (pv 0) (pa_cons (pv 2) (pa_cons (pv 4) pa_nil)))) pa_nil)) (nomark _)) (pe_tup (pa_cons pe_str pa_nil)) (pe_tup (pa_cons pe_str pa_nil))))) pss_nil) pss_never)))), ?_⟩
  refine seq_asg ⟨_, rfl, _, rfl, _, rfl, wd, v, d, i, rfl, hW, hv, fun H1 s1 f1 => ?_⟩
  have hW1 := hW.tk (Tk.same s1)
  have hv1 := hv.kp (Kp.same s1)
  refine ⟨_, rfl, rfl, _, rfl, iteF ?_⟩
  dsimp only [tNext]
  refine seq_asg ?_
  refine ⟨_, rfl, _, rfl, v, d, i, rfl, hv1, hi, fun o ho => ?_⟩
  refine seq_asg ?_
  refine ⟨_, rfl, o, _, 0, .int (-1), rfl, rfl, SqT.of ho, rfl, ?_⟩
  refine ⟨_, rfl, rfl, _, rfl, iteT ?_⟩
  refine ⟨_, rfl, o, _, 2, .int 0, rfl, rfl, SqT.of ho, rfl, _, rfl, _, rfl, _, rfl, wd, o, d, i, rfl, hW1, hi, ho, fun pa pr H2 hp2 l2 s2 f2 => ⟨pa, pr, rfl, .inr (SqT.of hp2), rfl, _, rfl, ?_⟩⟩
  refine ite2 (fun c => ?_) (fun _ => ?_)
  · exfalso
    have c := of_decide_eq_true c
    injection c with c
    omega
  exact ⟨(by show 1 ≤ sizeLine; decide), fun b hb => q b _ upd_same (fun x o y => same_upd hb _ _ _ (s2 _ _ (s1 _ _ y))) fun x y => f1 x (f2 x (free_upd y))⟩
end
end K14

set_option Elab.async false
set_option linter.all false
set_option maxRecDepth 100000
set_option maxHeartbeats 4000000
namespace K14
open PySem L2 PyProof.Rows
open Kx (same_upd free_upd)
abbrev sLaw : Stmt := top 26
theorem Ex.kp {p : Addr} {H H' : Hp} (h : PotW H p) (e : Ex p H H') : Kp N0 H H' := by
  obtain ⟨d, s, c, h⟩ := h
  exact ⟨fun a us z => e.keep a _ (fun y => by rw [y, h] at z; cases z) z, fun a us n z => n.elim, fun a us z => e.keep a _ (fun y => by rw [y, h] at z; cases z) z⟩
theorem paired_app {α β : Type} {F : α → β → Prop} {l1 l2 : List α} {m1 m2 : List β} (h : Paired F l1 m1) (h' : Paired F l2 m2) : Paired F (l1 ++ l2) (m1 ++ m2) := by
  induction h with
  | nil => exact h'
  | cons z _ ih => exact .cons z ih
theorem paired_rev {α β : Type} {F : α → β → Prop} {l : List α} {m : List β} (h : Paired F l m) : Paired F l.reverse m.reverse := by
  induction h with
  | nil => exact .nil
  | cons z _ ih =>
    rw [List.reverse_cons, List.reverse_cons]
    exact paired_app ih (.cons z .nil)
theorem paired_drop {α β : Type} {F : α → β → Prop} : ∀ {l : List α} {m : List β} (n : Nat), Paired F l m → Paired F (l.drop n) (m.drop n)
  | _, _, 0, h => h
  | _, _, n + 1, .nil => .nil
  | _, _, n + 1, .cons _ t => paired_drop n t
theorem paired_take {α β : Type} {F : α → β → Prop} : ∀ {l : List α} {m : List β} (n : Nat), Paired F l m → Paired F (l.take n) (m.take n)
  | _, _, 0, h => .nil
  | _, _, n + 1, .nil => .nil
  | _, _, n + 1, .cons z t => .cons z (paired_take n t)
/-- some of the hands -/
def SomeR (H : Hp) (x : V) : Prop := ∃ sa us ds, x = .ref sa ∧ H sa = some (.tup us) ∧ Paired (HandR H) us ds ∧ ds.length ≤ 1000
theorem SomeR.tk {H H' : Hp} {x : V} (h : SomeR H x) (k : Tk H H') : SomeR H' x := by
  obtain ⟨sa, us, ds, e, h1, h2, h3⟩ := h
  exact ⟨sa, us, ds, e, k _ _ h1, L2.Paired.mapP h2 fun _ _ z => z.tk k, h3⟩
theorem sqL_same {K : PySem.W.Frag} {H H' : Hp} {a : Addr} {xs : List V} (h : SqL K H a xs) (s : Same H H') : SqL K H' a xs := by
  rcases h with (h | ⟨o, h⟩) | h
  · exact .inl (.inl (s _ _ h))
  · exact .inl (.inr ⟨o, s _ _ h⟩)
  · exact .inr h
theorem sl_use {K : PySem.W.Frag} {H : Hp} {a : Addr} {xs : List V} {lo hi : Option Int} {Q : VK} (hx : SqT K H a xs) (h : ∀ ct H5, (ct = a ∧ H5 = H) ∨ (H ct = none ∧ H5 = upd H ct (.tup (cutV xs lo hi))) → Q (.ref ct) H5) : rSlA K (.ref a) lo hi H Q :=
  ⟨a, xs, rfl, hx, fun _ => h a H (.inl ⟨rfl, rfl⟩), fun _ p hp => h p _ (.inr ⟨hp, rfl⟩)⟩
theorem sl_use2 {K : PySem.W.Frag} {H : Hp} {a : Addr} {xs : List V} {lo : Option Int} {σ : L2.St} {Q : VK} (hx : SqT K H a xs) (h : ∀ ct H5, (ct = a ∧ H5 = H) ∨ (H ct = none ∧ H5 = upd H ct (.tup (cutV xs lo none))) → Q (.ref ct) H5) : tNoPart σ H fun u H3 => rSlA K (.ref a) lo u H3 Q := sl_use hx h
theorem ti_out : TI 5 (.tuple [.str "out"]) := .tup (fun x hx => by rw [List.mem_singleton.mp hx]; exact .str) (by decide)
section
variable {P : Program} {w : World} {K : PySem.W.Frag} {mg : Str → Option Value} {base : Heap} {f gK gP gA gS gB gT : Addr} {fd dK dP dA dS dB dT : FuncData}
def spLaw (K : PySem.W.Frag) : Sp := fun vs H Q _ => ∃ (a : Addr) (ns : List Int), vs = [.ref a] ∧ SqL K H a (ns.map V.int) ∧ ns.length ≤ 63 ∧ ∀ H', Q (.bl true) H'
theorem scLaw : FnScope ["_law_script", "_law_k", "_law_pot_here", "_law_rooms_here", "_law_passes", "_law_shared", "_law_hands", "_law_some", "_law_world_here", "_law_scene", "_law_turn"] ["_law_script"] (defScope sLaw) := ⟨rfl, rfl, rfl, by decide +kernel, rfl, by decide +kernel, by decide +kernel⟩
theorem caughtLaw {cdv : Value} {A : Around} {outer : List Env} {s : Shared} {H : Hp} {E : XK} :
    CompScope (cxOf CX0 P w K mg base ["_law_script", "_law_k", "_law_pot_here", "_law_rooms_here", "_law_passes", "_law_shared", "_law_hands", "_law_some", "_law_world_here", "_law_scene", "_law_turn"] "law" (defScope sLaw) f cdv A outer s H E).nox ["_law_own_here", "_law_scene", "_law_world_here"] [none, some 9, some 8]
      { kind := .function, names := [(".0", .local), ("_law_own_here", .local), ("_law_same", .globalImplicit), ("stands", .globalImplicit), ("_law_scene", .free), ("_law_world_here", .free)], isGenerator := false, isCoroutine := false, more := [] } [("_law_world_here", s.heap.objs.size + 1), ("_law_scene", s.heap.objs.size + 2)] where
  kind := rfl
  nocell := by decide +kernel
  names := by decide +kernel
  clos := rfl
  sub := fun x c h => by
    have h' := PySem.mem_of_lookup h
    rcases List.mem_cons.mp h' with e | e
    · cases e; rfl
    · cases List.mem_singleton.mp e; rfl
  has := fun x h => by
    have h' : List.lookup x ([(".0", NameKind.local), ("_law_own_here", .local), ("_law_same", .globalImplicit), ("stands", .globalImplicit), ("_law_scene", .cell), ("_law_world_here", .cell)] : List (Str × NameKind)) = some .cell ∨ List.lookup x ([(".0", NameKind.local), ("_law_own_here", .local), ("_law_same", .globalImplicit), ("stands", .globalImplicit), ("_law_scene", .cell), ("_law_world_here", .cell)] : List (Str × NameKind)) = some .free := h
    have e : x = "_law_scene" ∨ x = "_law_world_here" := by
      rcases h' with h' | h'
      · have := PySem.mem_of_lookup h'
        simpa using this
      · have := PySem.mem_of_lookup h'
        simp at this
    rcases e with e | e <;> (subst e; exact ⟨_, rfl⟩)
  cap := fun k j x h1 h2 => by
    match k, h1, h2 with
    | 0, h1, _ => cases h1
    | 1, h1, h2 =>
      cases h1
      cases h2
      exact ⟨rfl, .inl rfl, .inl rfl⟩
    | 2, h1, h2 =>
      cases h1
      cases h2
      exact ⟨rfl, .inl rfl, .inl rfl⟩
    | k + 3, h1, _ => cases h1
  len := rfl
theorem ok_law (F : Fun K "law" "law" sLaw f fd) (B : Bg mg) (hall : mg "all" = none) (hmin : mg "min" = none) (hmax : mg "max" = none)
    (GK : FnOk P w K mg base CX0 1 gK dK ["_law_pot_here", "_law_many"] spTake) (bK : Binds K dK ["_law_pot_here", "_law_many"] []) (kK : PySem.W.keepIn K (.ref gK) = true) (mK : mg "_law_take" = some (.ref gK))
    (GP : FnOk P w K mg base CX0 1 gP dP ["_law_script", "_law_k"] (spPot K)) (bP : Binds K dP ["_law_script", "_law_k"] []) (kP : PySem.W.keepIn K (.ref gP) = true) (mP : mg "_law_pot" = some (.ref gP))
    (GA : FnOk P w K mg base CX0 11 gA dA ["_law_pot_here"] spAny) (bA : Binds K dA ["_law_pot_here"] []) (kA : PySem.W.keepIn K (.ref gA) = true) (mA : mg "_law_any_world" = some (.ref gA))
    (GS : FnOk P w K mg base CX0 7 gS dS ["_law_found", "_law_due"] (spSame 6)) (bS : Binds K dS ["_law_found", "_law_due"] []) (kS : PySem.W.keepIn K (.ref gS) = true) (mS : mg "_law_same" = some (.ref gS))
    (GB : FnOk P w K mg base CX0 3 gB dB ["world"] spBegun) (bB : Binds K dB ["world"] []) (kB : PySem.W.keepIn K (.ref gB) = true) (mB : mg "begun" = some (.ref gB))
    (GT : FnOk P w K mg base CX0 3 gT dT ["world", "scene", "hand"] spStands) (bT : Binds K dT ["world", "scene", "hand"] []) (kT : PySem.W.keepIn K (.ref gT) = true) (mT : mg "stands" = some (.ref gT)) :
    FnOk P w K mg base CX0 12 f fd ["_law_script"] (spLaw K) := by
  refine F.ok scLaw (fun vs H Q E h => ?_) (fun cdv A outer s H vs Q E hr h => ?_)
  · obtain ⟨a, ns, rfl, _⟩ := h
    rfl
  obtain ⟨a, ns, rfl, hS, h63, k⟩ := h
  have nd := scLaw.nd
  have hr1 : Room 1 _ := hr.mono (by decide)
  have hr3 : Room 3 _ := hr.mono (by decide)
  have hr7 : Room 7 _ := hr.mono (by decide)
  have n1 : (["_law_own_here", "_law_scene", "_law_world_here"] : List Str).Nodup := by decide +kernel
  refine ⟨_, pss_cons (ps_for PassesOwn.never rfl (pi_range1 rfl B.range (pa_cons (pe_callB (call_max2 rfl) rfl hmax boot_max (pa_cons pe_int (pa_cons (pe_callB (call_min2 rfl) rfl hmin boot_min (pa_cons (pe_callB call_len_seq rfl B.len PySem.boot_len (pa_cons (pv 0) pa_nil)) (pa_cons pe_int pa_nil))) pa_nil))) pa_nil)) (pg_name (i := 1) nd rfl (Or.inl rfl))
      (pss_cons (ps_set (i := 2) nd rfl (Or.inl rfl) (pe_call GP hr1 rfl mP kP bP .nil pass0 (pa_cons (pv 0) (pa_cons (pv 1) pa_nil))))
      (pss_cons (ps_asg (pe_call GA hr rfl mA kA bA .nil pass0 (pa_cons (pv 2) pa_nil)) (pg_tup rfl (pgs_cons (pg_name (i := 3) nd rfl (Or.inl rfl)) (pgs_cons (pg_name (i := 4) nd rfl (Or.inl rfl)) (pgs_cons (pg_name (i := 5) nd rfl (Or.inl rfl)) (pgs_cons (pg_name (i := 6) nd rfl (Or.inl rfl)) pgs_nil))))))
      (pss_one (ps_for PassesOwn.never rfl (pi_tup (pe_tup (pa_cons (pv 6) (pa_cons (pe_revT (pv 6) (pe_un un_neg pe_int)) (pa_cons (pe_slice sl_tupA (pv 6) (po_some (pe_un un_neg pe_int)) po_none) pa_nil))))) (pg_name (i := 7) nd rfl (Or.inl rfl))
        (pss_cons (ps_set (i := 8) nd rfl (Or.inr rfl) (pe_tup (pa_cons (pv 3) (pa_cons (pv 4) (pa_cons (pv 5) (pa_cons (pv 7) pa_nil))))))
        (pss_cons (ps_set (i := 9) nd rfl (Or.inr rfl) (pe_call GB hr3 rfl mB kB bB .nil pass0 (pa_cons (pv 8) pa_nil)))
        (pss_cons (ps_for PassesOwn.never rfl (pi_range1 rfl B.range (pa_cons (pe_op op_mul pe_int (pe_callB call_len_seq rfl B.len PySem.boot_len (pa_cons (pv 7) pa_nil))) pa_nil)) (pg_name (i := 10) nd rfl (Or.inl rfl))
          (pss_one (ps_if (pt_not (pt_val (pe_call GS hr7 rfl mS kS bS .nil pass0 (pa_cons (pe_call GT hr3 rfl mT kT bT .nil pass0 (pa_cons (pv 8) (pa_cons (pv 9) (pa_cons (pe_call GK hr1 rfl mK kK bK .nil pass0 (pa_cons (pv 2) (pa_cons (pe_callB call_len_seq rfl B.len PySem.boot_len (pa_cons (pv 7) pa_nil)) pa_nil))) pa_nil)))) (pa_cons (pe_tup (pa_cons pe_str pa_nil)) pa_nil))))) (pss_one (ps_ret pe_bl)) pss_nil)))
        (pss_one (ps_if (pt_not (pt_val (pe_callB (call_allL rfl) rfl hall boot_all (pa_cons (pe_comp (N := ["_law_own_here", "_law_scene", "_law_world_here"]) caughtLaw rfl (pi_range1 rfl B.range (pa_cons (pe_callB call_len_seq rfl B.len PySem.boot_len (pa_cons (pv 7) pa_nil)) pa_nil)) (fun C s H fp => pg_name (i := 0) n1 rfl (Or.inl rfl)) (fun C s H fp => pf_nil)
          (fun C s H fp => pe_call GS hr7 rfl mS kS bS .nil pass0 (pa_cons (pe_call GT hr3 rfl mT kT bT .nil pass0 (pa_cons (pv 2) (pa_cons (pv 1) (pa_cons (pv 0) pa_nil)))) (pa_cons (pe_tup (pa_cons pe_str pa_nil)) pa_nil)))) pa_nil)))) (pss_one (ps_ret pe_bl)) pss_nil))))))))))
    (pss_one (ps_ret pe_bl)), ?_⟩
  refine ⟨_, rfl, a, _, rfl, .inl hS, _, _, rfl, _, _, rfl, ?_⟩
  generalize hN : (if (if (8 : Int) < (((ns.map V.int).length : Nat) : Int) then (8 : Int) else (((ns.map V.int).length : Nat) : Int)) > 1 then (if (8 : Int) < (((ns.map V.int).length : Nat) : Int) then (8 : Int) else (((ns.map V.int).length : Nat) : Int)) else 1) = N
  have bN : 1 ≤ N ∧ N ≤ 8 := by
    rw [← hN]
    split <;> split <;> omega
  refine ⟨N, rfl, by omega, by omega, ?_⟩
  refine for_range (lo := 0) (n := N.toNat) (fun i σ H' => ∃ (v1 v2 v3 v4 v5 v6 v7 v8 v9 v10 : Option V), σ = [some (.ref a), v1, v2, v3, v4, v5, v6, v7, v8, v9, v10] ∧ Same H H')
    ⟨none, none, none, none, none, none, none, none, none, none, rfl, Same.refl _⟩ ?_ ?_
  · rintro i σ H1 hi ⟨v1, v2, v3, v4, v5, v6, v7, v8, v9, v10, rfl, s1⟩
    refine seq_asg ⟨_, rfl, _, rfl, a, ns, i, (by rw [Int.zero_add]; rfl), sqL_same hS s1, fun p H2 hp2 f2 s2 g2 => ?_⟩
    refine ⟨_, rfl, p, rfl, hp2, fun wd d H3 hW hp3 ex3 => ?_⟩
    obtain ⟨⟨r, pp, sh, hh, rs, ps, ss, hs, h0, h1, h2, h3, h4, h5, h6, h7, h8⟩, l1, l2, l3, l4⟩ := hW
    refine ⟨wd, _, rfl, SqT.of h0, rfl, _, _, rfl, _, _, rfl, _, _, rfl, _, _, rfl, rfl, ?_⟩
    have sH3 : Same H H3 := fun b o z => ex3.keep b o (fun e => by have := s1 _ _ z; rw [e, f2] at this; cases this) (s2 _ _ (s1 _ _ z))
    have npH : ∀ b o, H b = some o → b ≠ p := fun b o z e => by have := s1 _ _ z; rw [e, f2] at this; cases this
    have l8 := paired_len h8
    have S0 : SomeR H3 (.ref hh) := ⟨hh, hs, d.hands, rfl, h7, h8, l4⟩
    refine ⟨_, rfl, _, rfl, 1, rfl, rfl, hh, hs, rfl, SqT.of h7, fun rv hrv => ?_⟩
    have zr := same_upd hrv (.tup hs.reverse)
    have S1 : SomeR (upd H3 rv (.tup hs.reverse)) (.ref rv) := ⟨rv, _, d.hands.reverse, rfl, upd_same, paired_rev (L2.Paired.mapP h8 fun _ _ z => z.tk (Tk.same zr)), by rw [List.length_reverse]; exact l4⟩
    have x4 := Ex.new (p := p) (o := .tup hs.reverse) hrv
    have hp4 := hp3.new (o := .tup hs.reverse) hrv
    have f4 : ∀ b, upd H3 rv (.tup hs.reverse) b = none → H3 b = none := fun b z => free_upd z
    generalize upd H3 rv (.tup hs.reverse) = H4 at zr S1 x4 hp4 f4 ⊢
    refine ⟨_, rfl, 1, rfl, -1, rfl, ?_⟩
    refine sl_use2 (SqT.of (zr _ _ h7)) fun ct H5 hct => ?_
    obtain ⟨S2, hp5, x5⟩ : SomeR H5 (.ref ct) ∧ PotW H5 p ∧ Ex p H4 H5 := by
      rcases hct with ⟨rfl, rfl⟩ | ⟨hct, rfl⟩
      · exact ⟨S0.tk (Tk.same zr), hp4, Ex.refl⟩
      · refine ⟨⟨ct, _, _, rfl, upd_same, L2.Paired.mapP (paired_take _ (paired_drop _ h8)) (fun _ _ z => z.tk ((Tk.same zr).trans (Tk.same (same_upd hct _)))), ?_⟩, hp4.new hct, Ex.new hct⟩
        rw [List.length_take, List.length_drop]
        omega
    have tk35 : Tk H3 H5 := (Tk.same zr).trans (x5.tk hp4)
    refine ⟨(by show 3 ≤ sizeLine; decide), fun t ht => ⟨t, rfl, ⟨_, SqT.of upd_same⟩, ?_⟩⟩
    have z6 := same_upd ht (.tup [.ref hh, .ref rv, .ref ct])
    have hp6 := hp5.new (o := .tup [.ref hh, .ref rv, .ref ct]) ht
    have x6 : Ex p H3 (upd H5 t (.tup [.ref hh, .ref rv, .ref ct])) := x4.trans (x5.trans (Ex.new ht))
    have e6 : upd H5 t (.tup [.ref hh, .ref rv, .ref ct]) t = some (.tup [.ref hh, .ref rv, .ref ct]) := upd_same
    have A0 := S0.tk (tk35.trans (Tk.same z6))
    have A1 := S1.tk ((x5.tk hp4).trans (Tk.same z6))
    have A2 := S2.tk (Tk.same z6)
    have tk36 := tk35.trans (Tk.same z6)
    generalize upd H5 t (.tup [.ref hh, .ref rv, .ref ct]) = H6 at z6 hp6 x6 e6 A0 A1 A2 tk36 ⊢
    refine for_tup (K := K) (a := t) (xs := [.ref hh, .ref rv, .ref ct]) (fun _ σ H' => ∃ (v7 v8 v9 v10 : Option V), σ = [some (.ref a), some (.int (0 + i)), some (.ref p), some (.ref r), some (.ref pp), some (.ref sh), some (.ref hh), v7, v8, v9, v10] ∧ PotW H' p ∧ Ex p H6 H')
      ⟨_, _, _, _, rfl, hp6, Ex.refl⟩ (fun _ σ H' _ ⟨_, _, _, _, _, _, x⟩ => SqT.of (x.tk hp6 _ _ e6)) ?_ ?_
    · rintro j x σ H7 hj ⟨v7, v8, v9, v10, rfl, hp7, x7⟩
      have hx : SomeR H6 x := by
        match j, hj with
        | 0, hj => cases hj; exact A0
        | 1, hj => cases hj; exact A1
        | 2, hj => cases hj; exact A2
        | j + 3, hj => cases hj
      have tk67 := x7.tk hp6
      obtain ⟨sa, us, ds, rfl, b1, b2, b3⟩ := hx.tk tk67
      have lus := paired_len b2
      have tk37 := tk36.trans tk67
      refine seq_asg ⟨_, rfl, _, rfl, _, rfl, _, rfl, (by show 4 ≤ sizeLine; decide), fun z hz => ?_⟩
      have zz := same_upd hz (.tup [.ref r, .ref pp, .ref sh, .ref sa])
      have tk38 := tk37.trans (Tk.same zz)
      have hW8 : WorldAt (upd H7 z (.tup [.ref r, .ref pp, .ref sh, .ref sa])) z ⟨d.rooms, d.passes, d.shared, ds⟩ := ⟨⟨r, pp, sh, sa, rs, ps, ss, us, upd_same, tk38 _ _ h1, L2.Paired.mapP h2 (fun _ _ z => z.tk tk38), tk38 _ _ h3, pairs_tk tk38 h4, tk38 _ _ h5, pairs_tk tk38 h6, zz _ _ b1, L2.Paired.mapP b2 fun _ _ z => z.tk (Tk.same zz)⟩, l1, l2, l3, b3⟩
      have x8 : Ex p H6 (upd H7 z (.tup [.ref r, .ref pp, .ref sh, .ref sa])) := x7.trans (Ex.new hz)
      have hp8 := hp7.new (o := .tup [.ref r, .ref pp, .ref sh, .ref sa]) hz
      have b1' := zz _ _ b1
      generalize upd H7 z (.tup [.ref r, .ref pp, .ref sh, .ref sa]) = H8 at zz tk38 hW8 x8 hp8 b1' ⊢
      refine seq_asg ⟨_, rfl, z, _, rfl, hW8, fun v H9 hv9 s9 f9 => ?_⟩
      have hW9 := hW8.tk (Tk.same s9)
      have hp9 := hp8.same s9
      have x9 := x8.trans (Ex.same s9 f9)
      have b9 := s9 _ _ b1'
      have lw : ds.length = us.length := lus.symm
      refine ⟨_, rfl, sa, us, rfl, .inr (SqT.of b9), _, _, rfl, rfl, .inl ⟨by decide, by decide⟩, 2 * (us.length : Int), rfl, by omega, by omega, ?_⟩
      refine for_range (lo := 0) (n := (2 * (us.length : Int)).toNat) (fun _ σ H' => ∃ (v10 : Option V), σ = [some (.ref a), some (.int (0 + i)), some (.ref p), some (.ref r), some (.ref pp), some (.ref sh), some (.ref hh), some (.ref sa), some (.ref z), some v, v10] ∧ PotW H' p ∧ Ex p H9 H')
        ⟨_, rfl, hp9, Ex.refl⟩ ?_ ?_
      · rintro m σ H10 hm ⟨v10, rfl, hp10, x10⟩
        have lu0 : 0 < us.length := by omega
        have b10 := x10.tk hp9 _ _ b9
        refine ⟨_, rfl, _, rfl, _, rfl, _, rfl, sa, us, rfl, .inr (SqT.of b10), p, _, rfl, hp10, by omega, by omega, fun g H11 g0 g1 hp11 x11 => ?_⟩
        obtain ⟨gn, rfl⟩ : ∃ j : Nat, g = j := ⟨g.toNat, by omega⟩
        have x911 := x10.trans x11
        refine ⟨z, v, _, gn, rfl, hW9.tk (x911.tk hp9), hv9.kp (x911.kp hp9), (by show gn < ds.length; omega), fun o H12 eo s12 f12 => ⟨(by show 1 ≤ sizeLine; decide), fun b hb => ?_⟩⟩
        have zb := same_upd hb (.tup [.str "out"])
        refine ⟨_, _, .tuple [.str "out"], 5, rfl, rfl, .tup (zb _ _ eo) (.cons (.str _) .nil), .tup upd_same (.cons (.str _) .nil), ti_out, fun H13 s13 f13 => ⟨_, rfl, iteF ?_⟩⟩
        have s1113 : Same H11 H13 := fun x o y => s13 _ _ (zb _ _ (s12 _ _ y))
        exact ⟨_, rfl, hp11.same s1113, x911.trans (Ex.same s1113 fun x y => f12 x (free_upd (f13 x y)))⟩
      · rintro σ H10 ⟨v10, rfl, hp10, x10⟩
        have b10 := x10.tk hp9 _ _ b9
        have hW10 := hW9.tk (x10.tk hp9)
        have hv10 := hv9.kp (x10.kp hp9)
        refine ⟨_, rfl, sa, us, rfl, .inr (SqT.of b10), _, rfl, by omega, by omega, fun D hD => ?_⟩
        refine comp_range (lo := 0) (n := ((us.length : Nat) : Int).toNat) (fun m σ' H' => ∃ v0 : Option V, σ' = [v0, some v, some (.ref z)] ∧ H' D = some (.lst ((List.replicate m true).map V.bl)) ∧ Same H10 H' ∧ ∀ x, H' x = none → H10 x = none)
          ⟨none, rfl, upd_same, same_upd hD _, fun x y => free_upd y⟩ ?_ ?_
        · rintro m σ' H11 hm ⟨v0, rfl, gD, s11, f11⟩
          refine ⟨_, rfl, _, rfl, _, rfl, z, v, _, m, (by rw [Int.zero_add]; rfl), hW10.tk (Tk.same s11), hv10.kp (Kp.same s11), (by show m < ds.length; omega), fun o H12 eo s12 f12 => ⟨(by show 1 ≤ sizeLine; decide), fun b hb => ?_⟩⟩
          have zb := same_upd hb (.tup [.str "out"])
          refine ⟨_, _, .tuple [.str "out"], 5, rfl, rfl, .tup (zb _ _ eo) (.cons (.str _) .nil), .tup upd_same (.cons (.str _) .nil), ti_out, fun H13 s13 f13 => ?_⟩
          have s1113 : Same H11 H13 := fun x o y => s13 _ _ (zb _ _ (s12 _ _ y))
          refine ⟨_, s1113 _ _ gD, ?_, _, rfl, ?_, fun x o y => ?_, fun x y => f11 x (f12 x (free_upd (f13 x (free_upd y))))⟩
          · rw [List.length_map, List.length_replicate]
            exact s1000 (by omega)
          · rw [upd_same, List.replicate_succ', List.map_append]
            rfl
          · rw [upd_ne (ne_of_none y hD)]
            exact s1113 _ _ (s11 _ _ y)
        · rintro σ' H11 ⟨v0, rfl, gD, s11, f11⟩
          refine ⟨D, _, rfl, SqL.of gD, ?_⟩
          refine ⟨_, rfl, ite2 (fun c => ?_) (fun _ => ⟨_, _, _, _, rfl, hp10.same s11, x9.trans (x10.trans (Ex.same s11 f11))⟩)⟩
          exfalso
          simp at c
    · rintro σ H7 ⟨v7, v8, v9, v10, rfl, hp7, x7⟩
      exact ⟨_, _, _, _, _, _, _, _, _, _, rfl, fun b o y => (x6.trans x7).keep b o (npH b o y) (sH3 _ _ y)⟩
  · rintro σ H1 ⟨v1, v2, v3, v4, v5, v6, v7, v8, v9, v10, rfl, s1⟩
    exact k _
end
end K14

set_option Elab.async false
set_option linter.all false
set_option maxRecDepth 100000
set_option maxHeartbeats 4000000
namespace K14
open PySem L2 PyProof.Rows
theorem all_mk {l : PySem.W.OpenLaw} {w : World} {K : PySem.W.Frag} {h : Heap} {mg : Str → Option Value} {fa f1 f2 f3 f4 f5 f6 f7 f8 f9 f10 f11 f12 f13 f14 f15 f16 f17 f18 f19 f20 f21 f22 f23 : Addr} {tO tN : Tok} (X : K.In h) (G : h.Ns mainGlobals mg) (hfa : mg "law" = some (.ref fa))
    {od1 an1 od2 an2 od3 an3 od4 an4 od5 an5 od6 an6 od7 an7 od8 an8 od9 an9 od10 an10 od11 an11 od12 an12 od13 an13 od14 an14 od15 an15 od16 an16 od17 an17 od18 an18 od19 an19 od20 an20 od21 an21 od22 an22 od23 an23 : Option Addr} {sl1 sl2 sl3 sl4 sl5 sl6 sl7 sl8 sl9 sl10 sl11 sl12 sl13 sl14 sl15 sl16 sl17 sl18 sl19 sl20 sl21 sl22 sl23 : Array (Option Value)} {oc1 kV1 dc1 pm1 cd1 ct1 oc2 kV2 dc2 pm2 cd2 ct2 oc3 kV3 dc3 pm3 cd3 ct3 oc4 kV4 dc4 pm4 cd4 ct4 oc5 kV5 dc5 pm5 cd5 ct5 oc6 kV6 dc6 pm6 cd6 ct6 oc7 kV7 dc7 pm7 cd7 ct7 oc8 kV8 dc8 pm8 cd8 ct8 oc9 kV9 dc9 pm9 cd9 ct9 oc10 kV10 dc10 pm10 cd10 ct10 oc11 kV11 dc11 pm11 cd11 ct11 oc12 kV12 dc12 pm12 cd12 ct12 oc13 kV13 dc13 pm13 cd13 ct13 oc14 kV14 dc14 pm14 cd14 ct14 oc15 kV15 dc15 pm15 cd15 ct15 oc16 kV16 dc16 pm16 cd16 ct16 oc17 kV17 dc17 pm17 cd17 ct17 oc18 kV18 dc18 pm18 cd18 ct18 oc19 kV19 dc19 pm19 cd19 ct19 oc20 kV20 dc20 pm20 cd20 ct20 oc21 kV21 dc21 pm21 cd21 ct21 oc22 kV22 dc22 pm22 cd22 ct22 oc23 kV23 dc23 pm23 cd23 ct23 : Value}
    (a1 : PySem.W.nsIn K mainGlobals "values_of" = some (some (.ref f1))) (l1 : K.lookup f1 = some ⟨oc1, od1, .func (PySem.W.fnOf "values_of" "values_of" (defArgs sVals) (defBody sVals) (defScope sVals) .none kV1 dc1 pm1 an1 cd1 ct1), sl1⟩) (c1 : PySem.W.codeIn K cd1 "values_of" = true) (k1 : PySem.W.keepIn K (.ref f1) = true)
    (a2 : PySem.W.nsIn K mainGlobals "begun" = some (some (.ref f2))) (l2 : K.lookup f2 = some ⟨oc2, od2, .func (PySem.W.fnOf "begun" "begun" (defArgs sBegun) (defBody sBegun) (defScope sBegun) .none kV2 dc2 pm2 an2 cd2 ct2), sl2⟩) (c2 : PySem.W.codeIn K cd2 "begun" = true) (k2 : PySem.W.keepIn K (.ref f2) = true)
    (a3 : PySem.W.nsIn K mainGlobals "begun_room" = some (some (.ref f3))) (l3 : K.lookup f3 = some ⟨oc3, od3, .func (PySem.W.fnOf "begun_room" "begun_room" (defArgs sBRoom) (defBody sBRoom) (defScope sBRoom) .none kV3 dc3 pm3 an3 cd3 ct3), sl3⟩) (c3 : PySem.W.codeIn K cd3 "begun_room" = true) (k3 : PySem.W.keepIn K (.ref f3) = true)
    (a4 : PySem.W.nsIn K mainGlobals "_law_pot" = some (some (.ref f4))) (l4 : K.lookup f4 = some ⟨oc4, od4, .func (PySem.W.fnOf "_law_pot" "_law_pot" (defArgs sPot) (defBody sPot) (defScope sPot) .none kV4 dc4 pm4 an4 cd4 ct4), sl4⟩) (c4 : PySem.W.codeIn K cd4 "_law_pot" = true) (k4 : PySem.W.keepIn K (.ref f4) = true)
    (a5 : PySem.W.nsIn K mainGlobals "_law_take" = some (some (.ref f5))) (l5 : K.lookup f5 = some ⟨oc5, od5, .func (PySem.W.fnOf "_law_take" "_law_take" (defArgs sTake) (defBody sTake) (defScope sTake) .none kV5 dc5 pm5 an5 cd5 ct5), sl5⟩) (c5 : PySem.W.codeIn K cd5 "_law_take" = true) (k5 : PySem.W.keepIn K (.ref f5) = true)
    (a6 : PySem.W.nsIn K mainGlobals "_law_pick" = some (some (.ref f6))) (l6 : K.lookup f6 = some ⟨oc6, od6, .func (PySem.W.fnOf "_law_pick" "_law_pick" (defArgs sPick) (defBody sPick) (defScope sPick) .none kV6 dc6 pm6 an6 cd6 ct6), sl6⟩) (c6 : PySem.W.codeIn K cd6 "_law_pick" = true) (k6 : PySem.W.keepIn K (.ref f6) = true)
    (a7 : PySem.W.nsIn K mainGlobals "_law_words" = some (some (.ref f7))) (l7 : K.lookup f7 = some ⟨oc7, od7, .func (PySem.W.fnOf "_law_words" "_law_words" (defArgs sWords) (defBody sWords) (defScope sWords) .none kV7 dc7 pm7 an7 cd7 ct7), sl7⟩) (c7 : PySem.W.codeIn K cd7 "_law_words" = true) (k7 : PySem.W.keepIn K (.ref f7) = true)
    (a8 : PySem.W.nsIn K mainGlobals "_law_sum" = some (some (.ref f8))) (l8 : K.lookup f8 = some ⟨oc8, od8, .func (PySem.W.fnOf "_law_sum" "_law_sum" (defArgs sSum) (defBody sSum) (defScope sSum) .none kV8 dc8 pm8 an8 cd8 ct8), sl8⟩) (c8 : PySem.W.codeIn K cd8 "_law_sum" = true) (k8 : PySem.W.keepIn K (.ref f8) = true)
    (a9 : PySem.W.nsIn K mainGlobals "_law_waits" = some (some (.ref f9))) (l9 : K.lookup f9 = some ⟨oc9, od9, .func (PySem.W.fnOf "_law_waits" "_law_waits" (defArgs sWaits) (defBody sWaits) (defScope sWaits) .none kV9 dc9 pm9 an9 cd9 ct9), sl9⟩) (c9 : PySem.W.codeIn K cd9 "_law_waits" = true) (k9 : PySem.W.keepIn K (.ref f9) = true)
    (a10 : PySem.W.nsIn K mainGlobals "_law_do" = some (some (.ref f10))) (l10 : K.lookup f10 = some ⟨oc10, od10, .func (PySem.W.fnOf "_law_do" "_law_do" (defArgs sDo) (defBody sDo) (defScope sDo) .none kV10 dc10 pm10 an10 cd10 ct10), sl10⟩) (c10 : PySem.W.codeIn K cd10 "_law_do" = true) (k10 : PySem.W.keepIn K (.ref f10) = true)
    (a11 : PySem.W.nsIn K mainGlobals "_law_deed" = some (some (.ref f11))) (l11 : K.lookup f11 = some ⟨oc11, od11, .func (PySem.W.fnOf "_law_deed" "_law_deed" (defArgs sDeed) (defBody sDeed) (defScope sDeed) .none kV11 dc11 pm11 an11 cd11 ct11), sl11⟩) (c11 : PySem.W.codeIn K cd11 "_law_deed" = true) (k11 : PySem.W.keepIn K (.ref f11) = true)
    (a12 : PySem.W.nsIn K mainGlobals "_law_room" = some (some (.ref f12))) (l12 : K.lookup f12 = some ⟨oc12, od12, .func (PySem.W.fnOf "_law_room" "_law_room" (defArgs sRoom) (defBody sRoom) (defScope sRoom) .none kV12 dc12 pm12 an12 cd12 ct12), sl12⟩) (c12 : PySem.W.codeIn K cd12 "_law_room" = true) (k12 : PySem.W.keepIn K (.ref f12) = true)
    (a13 : PySem.W.nsIn K mainGlobals "_law_rooms" = some (some (.ref f13))) (l13 : K.lookup f13 = some ⟨oc13, od13, .func (PySem.W.fnOf "_law_rooms" "_law_rooms" (defArgs sRooms) (defBody sRooms) (defScope sRooms) .none kV13 dc13 pm13 an13 cd13 ct13), sl13⟩) (c13 : PySem.W.codeIn K cd13 "_law_rooms" = true) (k13 : PySem.W.keepIn K (.ref f13) = true)
    (a14 : PySem.W.nsIn K mainGlobals "_law_own" = some (some (.ref f14))) (l14 : K.lookup f14 = some ⟨oc14, od14, .func (PySem.W.fnOf "_law_own" "_law_own" (defArgs sOwn) (defBody sOwn) (defScope sOwn) .none kV14 dc14 pm14 an14 cd14 ct14), sl14⟩) (c14 : PySem.W.codeIn K cd14 "_law_own" = true) (k14 : PySem.W.keepIn K (.ref f14) = true)
    (a15 : PySem.W.nsIn K mainGlobals "_law_world" = some (some (.ref f15))) (l15 : K.lookup f15 = some ⟨oc15, od15, .func (PySem.W.fnOf "_law_world" "_law_world" (defArgs sWorld) (defBody sWorld) (defScope sWorld) .none kV15 dc15 pm15 an15 cd15 ct15), sl15⟩) (c15 : PySem.W.codeIn K cd15 "_law_world" = true) (k15 : PySem.W.keepIn K (.ref f15) = true)
    (a16 : PySem.W.nsIn K mainGlobals "_law_any_world" = some (some (.ref f16))) (l16 : K.lookup f16 = some ⟨oc16, od16, .func (PySem.W.fnOf "_law_any_world" "_law_any_world" (defArgs sAny) (defBody sAny) (defScope sAny) .none kV16 dc16 pm16 an16 cd16 ct16), sl16⟩) (c16 : PySem.W.codeIn K cd16 "_law_any_world" = true) (k16 : PySem.W.keepIn K (.ref f16) = true)
    (a17 : PySem.W.nsIn K mainGlobals "_law_same" = some (some (.ref f17))) (l17 : K.lookup f17 = some ⟨oc17, od17, .func (PySem.W.fnOf "_law_same" "_law_same" (defArgs sSame) (defBody sSame) (defScope sSame) .none kV17 dc17 pm17 an17 cd17 ct17), sl17⟩) (c17 : PySem.W.codeIn K cd17 "_law_same" = true) (k17 : PySem.W.keepIn K (.ref f17) = true)
    (a18 : PySem.W.nsIn K mainGlobals "last_frame" = some (some (.ref f18))) (l18 : K.lookup f18 = some ⟨oc18, od18, .func (PySem.W.fnOf "last_frame" "last_frame" (defArgs sLast) (defBody sLast) (defScope sLast) .none kV18 dc18 pm18 an18 cd18 ct18), sl18⟩) (c18 : PySem.W.codeIn K cd18 "last_frame" = true) (k18 : PySem.W.keepIn K (.ref f18) = true)
    (a19 : PySem.W.nsIn K mainGlobals "program_of" = some (some (.ref f19))) (l19 : K.lookup f19 = some ⟨oc19, od19, .func (PySem.W.fnOf "program_of" "program_of" (defArgs sProg) (defBody sProg) (defScope sProg) .none kV19 dc19 pm19 an19 cd19 ct19), sl19⟩) (c19 : PySem.W.codeIn K cd19 "program_of" = true) (k19 : PySem.W.keepIn K (.ref f19) = true)
    (a20 : PySem.W.nsIn K mainGlobals "stands" = some (some (.ref f20))) (l20 : K.lookup f20 = some ⟨oc20, od20, .func (PySem.W.fnOf "stands" "stands" (defArgs sStands) (defBody sStands) (defScope sStands) .none kV20 dc20 pm20 an20 cd20 ct20), sl20⟩) (c20 : PySem.W.codeIn K cd20 "stands" = true) (k20 : PySem.W.keepIn K (.ref f20) = true)
    (a21 : PySem.W.nsIn K mainGlobals "place_in_a_row" = some (some (.ref f21))) (l21 : K.lookup f21 = some ⟨oc21, od21, .func (PySem.W.fnOf "place_in_a_row" "place_in_a_row" (defArgs sPlace) (defBody sPlace) (defScope sPlace) .none kV21 dc21 pm21 an21 cd21 ct21), sl21⟩) (c21 : PySem.W.codeIn K cd21 "place_in_a_row" = true) (k21 : PySem.W.keepIn K (.ref f21) = true)
    (a22 : PySem.W.nsIn K mainGlobals "hands_at" = some (some (.ref f22))) (l22 : K.lookup f22 = some ⟨oc22, od22, .func (PySem.W.fnOf "hands_at" "hands_at" (defArgs sHands) (defBody sHands) (defScope sHands) .none kV22 dc22 pm22 an22 cd22 ct22), sl22⟩) (c22 : PySem.W.codeIn K cd22 "hands_at" = true) (k22 : PySem.W.keepIn K (.ref f22) = true)
    (a23 : PySem.W.nsIn K mainGlobals "law" = some (some (.ref f23))) (l23 : K.lookup f23 = some ⟨oc23, od23, .func (PySem.W.fnOf "law" "law" (defArgs sLaw) (defBody sLaw) (defScope sLaw) .none kV23 dc23 pm23 an23 cd23 ct23), sl23⟩) (c23 : PySem.W.codeIn K cd23 "law" = true) (k23 : PySem.W.keepIn K (.ref f23) = true)
    (hO : PySem.W.nsIn K mainGlobals "OWN" = some (some (.int (-1) tO)))
    (hNb : PySem.W.nsIn K mainGlobals "NOBODY" = some (some (.int (-1) tN)))
    (z_len : PySem.W.nsIn K mainGlobals "len" = some none) (z_isinstance : PySem.W.nsIn K mainGlobals "isinstance" = some none) (z_int : PySem.W.nsIn K mainGlobals "int" = some none) (z_bool : PySem.W.nsIn K mainGlobals "bool" = some none) (z_str : PySem.W.nsIn K mainGlobals "str" = some none) (z_tuple : PySem.W.nsIn K mainGlobals "tuple" = some none) (z_all : PySem.W.nsIn K mainGlobals "all" = some none) (z_zip : PySem.W.nsIn K mainGlobals "zip" = some none) (z_abs : PySem.W.nsIn K mainGlobals "abs" = some none) (z_range : PySem.W.nsIn K mainGlobals "range" = some none) (z_sorted : PySem.W.nsIn K mainGlobals "sorted" = some none) (z_min : PySem.W.nsIn K mainGlobals "min" = some none) (z_max : PySem.W.nsIn K mainGlobals "max" = some none) :
    ∃ fd : FuncData, (∀ (s : Shared) (v : Value), BindsTo s fd ⟨[v], []⟩ [("_law_script", v)]) ∧ ∀ base : Heap, K.In base → base.Ns mainGlobals mg → FnOk l.prog w K mg base CX0 12 fa fd ["_law_script"] (spLaw K) := by
  have e := hfa.symm.trans (PySem.W.mg_of X G a23)
  cases e
  have F1 := fun_mk (st := sVals) l1 c1 k1
  have F2 := fun_mk (st := sBegun) l2 c2 k2
  have F3 := fun_mk (st := sBRoom) l3 c3 k3
  have F4 := fun_mk (st := sPot) l4 c4 k4
  have F5 := fun_mk (st := sTake) l5 c5 k5
  have F6 := fun_mk (st := sPick) l6 c6 k6
  have F7 := fun_mk (st := sWords) l7 c7 k7
  have F8 := fun_mk (st := sSum) l8 c8 k8
  have F9 := fun_mk (st := sWaits) l9 c9 k9
  have F10 := fun_mk (st := sDo) l10 c10 k10
  have F11 := fun_mk (st := sDeed) l11 c11 k11
  have F12 := fun_mk (st := sRoom) l12 c12 k12
  have F13 := fun_mk (st := sRooms) l13 c13 k13
  have F14 := fun_mk (st := sOwn) l14 c14 k14
  have F15 := fun_mk (st := sWorld) l15 c15 k15
  have F16 := fun_mk (st := sAny) l16 c16 k16
  have F17 := fun_mk (st := sSame) l17 c17 k17
  have F18 := fun_mk (st := sLast) l18 c18 k18
  have F19 := fun_mk (st := sProg) l19 c19 k19
  have F20 := fun_mk (st := sStands) l20 c20 k20
  have F21 := fun_mk (st := sPlace) l21 c21 k21
  have F22 := fun_mk (st := sHands) l22 c22 k22
  have F23 := fun_mk (st := sLaw) l23 c23 k23
  have b1 := F1.binds (ps := ["things"]) fun _ _ _ _ _ _ us hl => match us, hl with | [_], _ => rfl
  have b2 := F2.binds (ps := ["world"]) fun _ _ _ _ _ _ us hl => match us, hl with | [_], _ => rfl
  have b3 := F3.binds (ps := ["room"]) fun _ _ _ _ _ _ us hl => match us, hl with | [_], _ => rfl
  have b4 := F4.binds (ps := ["_law_script", "_law_k"]) fun _ _ _ _ _ _ us hl => match us, hl with | [_, _], _ => rfl
  have b5 := F5.binds (ps := ["_law_pot_here", "_law_many"]) fun _ _ _ _ _ _ us hl => match us, hl with | [_, _], _ => rfl
  have b6 := F6.binds (ps := ["_law_pot_here", "_law_some"]) fun _ _ _ _ _ _ us hl => match us, hl with | [_, _], _ => rfl
  have b7 := F7.binds (ps := ["_law_pot_here", "_law_stem", "_law_many"]) fun _ _ _ _ _ _ us hl => match us, hl with | [_, _, _], _ => rfl
  have b8 := F8.binds (ps := ["_law_pot_here", "_law_words_here", "_law_bells", "_law_deep"]) fun _ _ _ _ _ _ us hl => match us, hl with | [_, _, _, _], _ => rfl
  have b9 := F9.binds (ps := ["_law_pot_here", "_law_words_here", "_law_bells", "_law_at"]) fun _ _ _ _ _ _ us hl => match us, hl with | [_, _, _, _], _ => rfl
  have b10 := F10.binds (ps := ["_law_pot_here", "_law_goals", "_law_things", "_law_words_here"]) fun _ _ _ _ _ _ us hl => match us, hl with | [_, _, _, _], _ => rfl
  have b11 := F11.binds (ps := ["_law_pot_here", "_law_room_here", "_law_goals", "_law_most"]) fun _ _ _ _ _ _ us hl => match us, hl with | [_, _, _, _], _ => rfl
  have b12 := F12.binds (ps := ["_law_pot_here", "_law_name", "_law_goals", "_law_manners", "_law_bells_most"]) fun _ _ _ _ _ _ us hl => match us, hl with | [_, _, _, _, _], _ => rfl
  have b13 := F13.binds (ps := ["_law_pot_here", "_law_many", "_law_manners", "_law_bells_most"]) fun _ _ _ _ _ _ us hl => match us, hl with | [_, _, _, _], _ => rfl
  have b14 := F14.binds (ps := ["_law_pot_here", "_law_goals", "_law_words_here", "_law_passes", "_law_most"]) fun _ _ _ _ _ _ us hl => match us, hl with | [_, _, _, _, _], _ => rfl
  have b15 := F15.binds (ps := ["_law_pot_here", "_law_rooms_here", "_law_hands", "_law_passes_most"]) fun _ _ _ _ _ _ us hl => match us, hl with | [_, _, _, _], _ => rfl
  have b16 := F16.binds (ps := ["_law_pot_here"]) fun _ _ _ _ _ _ us hl => match us, hl with | [_], _ => rfl
  have b17 := F17.binds (ps := ["_law_found", "_law_due"]) fun _ _ _ _ _ _ us hl => match us, hl with | [_, _], _ => rfl
  have b18 := F18.binds (ps := ["scene", "hand"]) fun _ _ _ _ _ _ us hl => match us, hl with | [_, _], _ => rfl
  have b19 := F19.binds (ps := ["world", "hand", "frame"]) fun _ _ _ _ _ _ us hl => match us, hl with | [_, _, _], _ => rfl
  have b20 := F20.binds (ps := ["world", "scene", "hand"]) fun _ _ _ _ _ _ us hl => match us, hl with | [_, _, _], _ => rfl
  have b21 := F21.binds (ps := ["world", "scene", "hand"]) fun _ _ _ _ _ _ us hl => match us, hl with | [_, _, _], _ => rfl
  have b22 := F22.binds (ps := ["line"]) fun _ _ _ _ _ _ us hl => match us, hl with | [_], _ => rfl
  have b23 := F23.binds (ps := ["_law_script"]) fun _ _ _ _ _ _ us hl => match us, hl with | [_], _ => rfl
  have m1 := PySem.W.mg_of X G a1
  have m2 := PySem.W.mg_of X G a2
  have m3 := PySem.W.mg_of X G a3
  have m4 := PySem.W.mg_of X G a4
  have m5 := PySem.W.mg_of X G a5
  have m6 := PySem.W.mg_of X G a6
  have m7 := PySem.W.mg_of X G a7
  have m8 := PySem.W.mg_of X G a8
  have m9 := PySem.W.mg_of X G a9
  have m10 := PySem.W.mg_of X G a10
  have m11 := PySem.W.mg_of X G a11
  have m12 := PySem.W.mg_of X G a12
  have m13 := PySem.W.mg_of X G a13
  have m14 := PySem.W.mg_of X G a14
  have m15 := PySem.W.mg_of X G a15
  have m16 := PySem.W.mg_of X G a16
  have m17 := PySem.W.mg_of X G a17
  have m18 := PySem.W.mg_of X G a18
  have m19 := PySem.W.mg_of X G a19
  have m20 := PySem.W.mg_of X G a20
  have m21 := PySem.W.mg_of X G a21
  have m22 := PySem.W.mg_of X G a22
  have m23 := PySem.W.mg_of X G a23
  have y_len := PySem.W.mg_none_of X G z_len
  have y_isinstance := PySem.W.mg_none_of X G z_isinstance
  have y_int := PySem.W.mg_none_of X G z_int
  have y_bool := PySem.W.mg_none_of X G z_bool
  have y_str := PySem.W.mg_none_of X G z_str
  have y_tuple := PySem.W.mg_none_of X G z_tuple
  have y_all := PySem.W.mg_none_of X G z_all
  have y_zip := PySem.W.mg_none_of X G z_zip
  have y_abs := PySem.W.mg_none_of X G z_abs
  have y_range := PySem.W.mg_none_of X G z_range
  have y_sorted := PySem.W.mg_none_of X G z_sorted
  have y_min := PySem.W.mg_none_of X G z_min
  have y_max := PySem.W.mg_none_of X G z_max
  have B : Bg mg := ⟨y_len, y_abs, y_int, y_tuple, y_range, y_sorted⟩
  have BS : Bs mg := ⟨y_len, y_isinstance, y_int, y_bool, y_str, y_tuple, y_all, y_zip⟩
  refine ⟨PySem.W.fnOf "law" "law" (defArgs sLaw) (defBody sLaw) (defScope sLaw) .none kV23 dc23 pm23 an23 cd23 ct23, fun s v => .of_eq rfl, fun base _ _ => ?_⟩
  have G1 := ok_vals (P := l.prog) (w := w) (base := base) (mg := mg) F1 y_tuple
  have G3 := ok_broom (P := l.prog) (w := w) (base := base) (mg := mg) F3 y_tuple (PySem.W.mg_of X G hNb) G1 b1 k1 m1
  have G2 := ok_begun (P := l.prog) (w := w) (base := base) (mg := mg) F2 y_tuple (PySem.W.mg_of X G hO) G1 b1 k1 m1 G3 b3 k3 m3
  have G4 := ok_pot (P := l.prog) (w := w) (base := base) (mg := mg) F4 B
  have G5 := ok_take (P := l.prog) (w := w) (base := base) (mg := mg) F5
  have G6 := ok_pick (P := l.prog) (w := w) (base := base) (mg := mg) F6 B G5 b5 k5 m5
  have G7 := ok_words (P := l.prog) (w := w) (base := base) (mg := mg) F7 B G5 b5 k5 m5
  have G8 := all_sum (P := l.prog) (w := w) (base := base) (mg := mg) F8 B b8 m8 G5 b5 k5 m5 G6 b6 k6 m6 3
  have G9 := ok_waits (P := l.prog) (w := w) (base := base) (mg := mg) F9 G8 b8 k8 m8 G5 b5 k5 m5 G6 b6 k6 m6
  have G10 := ok_do (P := l.prog) (w := w) (base := base) (mg := mg) F10 G8 b8 k8 m8 G6 b6 k6 m6
  have G11 := ok_deed (P := l.prog) (w := w) (base := base) (mg := mg) F11 B G5 b5 k5 m5 G6 b6 k6 m6 G8 b8 k8 m8 G9 b9 k9 m9 G10 b10 k10 m10
  have G12 := ok_room (P := l.prog) (w := w) (base := base) (mg := mg) F12 B G5 b5 k5 m5 G6 b6 k6 m6 G7 b7 k7 m7 G11 b11 k11 m11
  have G13 := ok_rooms (P := l.prog) (w := w) (base := base) (mg := mg) F13 B G5 b5 k5 m5 G7 b7 k7 m7 G12 b12 k12 m12
  have G14 := ok_own (P := l.prog) (w := w) (base := base) (mg := mg) F14 B G5 b5 k5 m5 G6 b6 k6 m6 G8 b8 k8 m8 G10 b10 k10 m10
  have G15 := ok_world (P := l.prog) (w := w) (base := base) (mg := mg) F15 B G5 b5 k5 m5 G7 b7 k7 m7 G14 b14 k14 m14
  have G16 := ok_any (P := l.prog) (w := w) (base := base) (mg := mg) F16 G5 b5 k5 m5 G13 b13 k13 m13 G15 b15 k15 m15
  have G17 := all_same (P := l.prog) (w := w) (base := base) (mg := mg) F17 BS b17 m17 6
  have G18 := ok_last (P := l.prog) (w := w) (base := base) (mg := mg) F18
  have G19 := ok_prog (P := l.prog) (w := w) (base := base) (mg := mg) F19 (PySem.W.mg_of X G hO)
  have G22 := ok_hands (P := l.prog) (w := w) (base := base) (mg := mg) F22
  have G21 := ok_place (P := l.prog) (w := w) (base := base) (mg := mg) F21 y_zip G22 b22 k22 m22
  have G20 := ok_stands (P := l.prog) (w := w) (base := base) (mg := mg) F20 (PySem.W.mg_of X G hO) y_len G21 b21 k21 m21 G18 b18 k18 m18 G19 b19 k19 m19
  exact ok_law F23 B y_all y_min y_max G5 b5 k5 m5 G4 b4 k4 m4 G16 b16 k16 m16 G17 b17 k17 m17 G2 b2 k2 m2 G20 b20 k20 m20
theorem walk {l : PySem.W.OpenLaw} {q : Program} {loose : List Str} {XP : (Str → Option Value) → Heap → Prop} {YP : World → Heap → Prop} {d : DefRec} {K : Params → PySem.W.Frag} (hn : l.most = some 63) (hdf : d.params.defaults = [])
    (hY : ∀ (w : World) (h : Heap), YP w h → (K w.params).In h)
    (F : ∀ (w : World) (mg : Str → Option Value) (fa : Addr) (h : Heap), (K w.params).In h → h.Ns mainGlobals mg → mg d.name = some (.ref fa) →
      ∃ fd : FuncData, (∀ (s : Shared) (u : Value), BindsTo s fd ⟨[u], []⟩ [("_law_script", u)]) ∧ ∀ base : Heap, (K w.params).In base → base.Ns mainGlobals mg → FnOk l.prog w (K w.params) mg base CX0 12 fa fd ["_law_script"] (spLaw (K w.params))) :
    PySem.W.WalkO q loose XP YP l.row.toRowW d [] (fun f vs => PySem.call f vs) :=
  L2.walk_of (n := 63) (k := 12) (x := "_law_script") (CX := fun _ => CX0) (sp := fun w => spLaw (K w.params)) hn (by decide) hdf ⟨rfl, by decide, by decide⟩ hY F (fun _ _ a ns hl _ hS => ⟨a, ns, rfl, hS, hl, fun _ => rfl⟩) fun _ _ _ _ _ z => z
end K14
open PySem PySem.W PyProof.Rows
set_option maxRecDepth 100000 in
set_option maxHeartbeats 0 in
theorem PySem.Challenge.cw_calledroom_k14_all_out_at_first_holds : PySem.Challenge.rw_calledroom_k14_all_out_at_first.Holds := by
  w_on; o_law; k_head; (case hw => w_witness2)
  k_fill
  refine K14.walk (l := PySem.Challenge.rw_calledroom_k14_all_out_at_first) rfl rfl (fun w h Y => PySem.W.kIn_of Y) ?F
  case F =>
    intro w mg fa h KX G hmg
    refine' K14.all_mk KX G hmg ?a1 ?l1 ?c1 ?k1 ?a2 ?l2 ?c2 ?k2 ?a3 ?l3 ?c3 ?k3 ?a4 ?l4 ?c4 ?k4 ?a5 ?l5 ?c5 ?k5 ?a6 ?l6 ?c6 ?k6 ?a7 ?l7 ?c7 ?k7 ?a8 ?l8 ?c8 ?k8 ?a9 ?l9 ?c9 ?k9 ?a10 ?l10 ?c10 ?k10 ?a11 ?l11 ?c11 ?k11 ?a12 ?l12 ?c12 ?k12 ?a13 ?l13 ?c13 ?k13 ?a14 ?l14 ?c14 ?k14 ?a15 ?l15 ?c15 ?k15 ?a16 ?l16 ?c16 ?k16 ?a17 ?l17 ?c17 ?k17 ?a18 ?l18 ?c18 ?k18 ?a19 ?l19 ?c19 ?k19 ?a20 ?l20 ?c20 ?k20 ?a21 ?l21 ?c21 ?k21 ?a22 ?l22 ?c22 ?k22 ?a23 ?l23 ?c23 ?k23 ?hO ?hNb ?z_len ?z_isinstance ?z_int ?z_bool ?z_str ?z_tuple ?z_all ?z_zip ?z_abs ?z_range ?z_sorted ?z_min ?z_max
    (case a1 => k_is)
    (case l1 => k_is)
    (case c1 => k_is)
    (case k1 => k_is)
    (case a2 => k_is)
    (case l2 => k_is)
    (case c2 => k_is)
    (case k2 => k_is)
    (case a3 => k_is)
    (case l3 => k_is)
    (case c3 => k_is)
    (case k3 => k_is)
    (case a4 => k_is)
    (case l4 => k_is)
    (case c4 => k_is)
    (case k4 => k_is)
    (case a5 => k_is)
    (case l5 => k_is)
    (case c5 => k_is)
    (case k5 => k_is)
    (case a6 => k_is)
    (case l6 => k_is)
    (case c6 => k_is)
    (case k6 => k_is)
    (case a7 => k_is)
    (case l7 => k_is)
    (case c7 => k_is)
    (case k7 => k_is)
    (case a8 => k_is)
    (case l8 => k_is)
    (case c8 => k_is)
    (case k8 => k_is)
    (case a9 => k_is)
    (case l9 => k_is)
    (case c9 => k_is)
    (case k9 => k_is)
    (case a10 => k_is)
    (case l10 => k_is)
    (case c10 => k_is)
    (case k10 => k_is)
    (case a11 => k_is)
    (case l11 => k_is)
    (case c11 => k_is)
    (case k11 => k_is)
    (case a12 => k_is)
    (case l12 => k_is)
    (case c12 => k_is)
    (case k12 => k_is)
    (case a13 => k_is)
    (case l13 => k_is)
    (case c13 => k_is)
    (case k13 => k_is)
    (case a14 => k_is)
    (case l14 => k_is)
    (case c14 => k_is)
    (case k14 => k_is)
    (case a15 => k_is)
    (case l15 => k_is)
    (case c15 => k_is)
    (case k15 => k_is)
    (case a16 => k_is)
    (case l16 => k_is)
    (case c16 => k_is)
    (case k16 => k_is)
    (case a17 => k_is)
    (case l17 => k_is)
    (case c17 => k_is)
    (case k17 => k_is)
    (case a18 => k_is)
    (case l18 => k_is)
    (case c18 => k_is)
    (case k18 => k_is)
    (case a19 => k_is)
    (case l19 => k_is)
    (case c19 => k_is)
    (case k19 => k_is)
    (case a20 => k_is)
    (case l20 => k_is)
    (case c20 => k_is)
    (case k20 => k_is)
    (case a21 => k_is)
    (case l21 => k_is)
    (case c21 => k_is)
    (case k21 => k_is)
    (case a22 => k_is)
    (case l22 => k_is)
    (case c22 => k_is)
    (case k22 => k_is)
    (case a23 => k_is)
    (case l23 => k_is)
    (case c23 => k_is)
    (case k23 => k_is)
    (case hO => k_is)
    (case hNb => k_is)
    (case z_len => k_is)
    (case z_isinstance => k_is)
    (case z_int => k_is)
    (case z_bool => k_is)
    (case z_str => k_is)
    (case z_tuple => k_is)
    (case z_all => k_is)
    (case z_zip => k_is)
    (case z_abs => k_is)
    (case z_range => k_is)
    (case z_sorted => k_is)
    (case z_min => k_is)
    (case z_max => k_is)
