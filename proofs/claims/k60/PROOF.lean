
import PyProof.Rows.All
import Wide.All
import OpenK.AllK
import Wide.FinOn
import Lean
import PyProof.EqAt
import PyProof.EqKinds
import PyProof.TupleCall
import PyProof.NeData
import PyProof.ZipIter
import PyProof.WalksEnum
import PyProof.Rows.SetFrom
import PyProof.StrLawsTight
import PyProof.StrLawsChain
import PyProof.StrCalls2
import PyProof.ListStr
import PyProof.Rows.StrOrd
import KE.KRevIter
import PyProof.ExcInit
import PyProof.InstStoreFacts
import PyProof.ExcArgs
import PyProof.ExcAttrAll.ValueError
import PyProof.NsDelKeeps
import PyProof.RulesAs
import OpenK.KCls
import PyProof.Rows.TupAssign
import PyProof.StrLawsIn
import KE.KDictSum
import PyProof.DictWalks
import PyProof.Rows.CountFlat
import KE.KTryMore
import KE.KxWritten
import KE.KStrOpen
import PySem.Challenge.RW_turnleaf_k60_leaves_of_a_line
set_option maxHeartbeats 4000000
set_option Elab.async false
set_option linter.all false
set_option maxRecDepth 100000
/-! THE HAND LAYER, for ints, bools, texts, own classes, LISTS and tuples (index, slices, in, append, pop ..), calls, loops. Paste it whole ahead of your own text; what your proof does not reach may be deleted. -/
namespace L2
open PySem PySem.Spec PyProof.Rows

/-- a key: an int or a str -/
abbrev Key := Sum Int Str
def keyIs : Key → Value → Bool
  | .inl k, v => Value.isInt k v
  | .inr x, v => Value.isStrOf x v
def keyH (w : World) : Key → Int
  | .inl k => hashInt k
  | .inr x => hashStr w x
theorem keyIs_shape : ∀ {k : Key} {v : Value}, keyIs k v = true → (∃ i t, k = Sum.inl i ∧ v = Value.int i t) ∨ (∃ x t, k = Sum.inr x ∧ v = Value.str x t)
  | .inl i, v, h => by
    obtain ⟨t, e⟩ := Value.isInt_shape (k := i) (v := v) h
    exact .inl ⟨i, t, rfl, e⟩
  | .inr x, v, h => by
    obtain ⟨t, e⟩ := Value.isStrOf_shape (x := x) (v := v) h
    exact .inr ⟨x, t, rfl, e⟩
theorem keyIs_int (i : Int) (t : Tok) : keyIs (.inl i) (.int i t) = true := by simp [keyIs, Value.isInt]
theorem keyIs_str (x : Str) (t : Tok) : keyIs (.inr x) (.str x t) = true := by simp [keyIs, Value.isStrOf]
theorem key_ll (a b : Int) : decide ((Sum.inl a : Key) = Sum.inl b) = (a == b) := by
  by_cases e : a = b
  · subst e; simp
  · have h : ¬ (Sum.inl a : Key) = Sum.inl b := fun q => e (Sum.inl.inj q)
    rw [decide_eq_false h]
    exact (beq_eq_false_iff_ne.mpr e).symm
theorem key_rr (a b : Str) : decide ((Sum.inr a : Key) = Sum.inr b) = decide (a = b) := by
  by_cases e : a = b
  · subst e; simp
  · have h : ¬ (Sum.inr a : Key) = Sum.inr b := fun q => e (Sum.inr.inj q)
    rw [decide_eq_false h, decide_eq_false e]
theorem key_lr (a : Int) (b : Str) : decide ((Sum.inl a : Key) = Sum.inr b) = false := decide_eq_false (fun q => nomatch q)
theorem key_rl (a : Str) (b : Int) : decide ((Sum.inr a : Key) = Sum.inl b) = false := decide_eq_false (fun q => nomatch q)

def mixKind (prog : Program) (w : World) : PySem.KeyKind prog w Key where
  is := keyIs
  hash := keyH w
  inj := fun v a b ha hb => by
    rcases keyIs_shape ha with ⟨i, t, rfl, rfl⟩ | ⟨x, t, rfl, rfl⟩
    · rcases keyIs_shape hb with ⟨j, u, rfl, e⟩ | ⟨y, u, rfl, e⟩
      · injection e with e1 _; rw [e1]
      · exact nomatch e
    · rcases keyIs_shape hb with ⟨j, u, rfl, e⟩ | ⟨y, u, rfl, e⟩
      · exact nomatch e
      · injection e with e1 _; rw [e1]
  byValue := fun k v h => by
    rcases keyIs_shape h with ⟨i, t, rfl, rfl⟩ | ⟨x, t, rfl, rfl⟩ <;> rfl
  pyHash := fun hv h => by
    rcases keyIs_shape hv with ⟨i, t, rfl, rfl⟩ | ⟨x, t, rfl, rfl⟩
    · exact wpAny_pyHash_int h
    · exact wpAny_pyHash_str h
  eqBool := fun hu hv h => by
    rcases keyIs_shape hu with ⟨i, t, rfl, rfl⟩ | ⟨x, t, rfl, rfl⟩
    · rcases keyIs_shape hv with ⟨j, u, rfl, rfl⟩ | ⟨y, u, rfl, rfl⟩
      · rw [key_ll] at h; exact wpAny_eqBool_int h
      · rw [key_lr] at h; exact SeqAt.EqAt.int_str i t y u _ _ _ _ h
    · rcases keyIs_shape hv with ⟨j, u, rfl, rfl⟩ | ⟨y, u, rfl, rfl⟩
      · rw [key_rl] at h; exact SeqAt.EqAt.str_int x t j u _ _ _ _ h
      · rw [key_rr] at h; exact wpAny_eqBool_str h
  «strs» := fun k x t v h => by
    rcases keyIs_shape h with ⟨i, u, rfl, e⟩ | ⟨y, u, rfl, e⟩
    · exact nomatch e
    · injection e with e1 _
      subst e1
      cases v <;> rfl

theorem mixKind_int (prog : Program) (w : World) (i : Int) (t : Tok) : (mixKind prog w).is (.inl i) (.int i t) = true := keyIs_int i t
theorem mixKind_str (prog : Program) (w : World) (x : Str) (t : Tok) : (mixKind prog w).is (.inr x) (.str x t) = true := keyIs_str x t
end L2

namespace L2
open PySem PySem.Spec PyProof.Rows

/-- a value, without the heap -/
inductive V where
  | non | bl (b : Bool) | int (i : Int) | str (x : Str) | byt (b : Array UInt8) | flt (b : UInt64) | ref (a : Addr) | ty (n : String)
  deriving DecidableEq

def RelV : V → Value → Prop
  | .non, u => u = Value.none
  | .bl b, u => u = Value.bool b
  | .int i, u => ∃ t, u = Value.int i t
  | .str x, u => ∃ t, u = Value.str x t
  | .byt b, u => ∃ t, u = Value.bytes b t
  | .flt b, u => ∃ t, u = Value.float b t
  | .ref a, u => u = Value.ref a
  | .ty n, u => u = Value.type n

abbrev Vals : List V → List Value → Prop := Paired RelV
theorem Vals.length {xs : List V} {us : List Value} (r : Vals xs us) : xs.length = us.length := Paired.length r
theorem Vals.get : ∀ {xs : List V} {us : List Value} {i : Nat} {x : V}, Vals xs us → xs[i]? = some x → ∃ u, us[i]? = some u ∧ RelV x u
  | _, _, _, _, .nil, e => by simp at e
  | _, _, 0, _, .cons r _, e => by simp at e; subst e; exact ⟨_, rfl, r⟩
  | _, _, i + 1, x, .cons _ t, e => by
    obtain ⟨u, h1, h2⟩ := Vals.get (i := i) (x := x) t (by simpa using e)
    exact ⟨u, by simpa using h1, h2⟩
theorem Vals.append : ∀ {xs ys : List V} {us ws : List Value}, Vals xs us → Vals ys ws → Vals (xs ++ ys) (us ++ ws)
  | _, _, _, _, .nil, s => s
  | _, _, _, _, .cons r t, s => .cons r (Vals.append t s)
theorem Vals.take : ∀ {xs : List V} {us : List Value} (n : Nat), Vals xs us → Vals (xs.take n) (us.take n)
  | _, _, 0, _ => .nil
  | _, _, _ + 1, .nil => .nil
  | _, _, n + 1, .cons r t => .cons r (Vals.take n t)
theorem Vals.drop : ∀ {xs : List V} {us : List Value} (n : Nat), Vals xs us → Vals (xs.drop n) (us.drop n)
  | _, _, 0, r => r
  | _, _, _ + 1, .nil => .nil
  | _, _, n + 1, .cons _ t => Vals.drop n t
def RelO : Option V → Option Value → Prop
  | some v, some u => RelV v u
  | none, none => True
  | _, _ => False
def KV {κ : Type} : List (κ × V) → List (κ × Value) → Prop := Paired fun (p : κ × V) (q : κ × Value) => p.1 = q.1 ∧ RelV p.2 q.2

/-- a key of a dict (00_mix): an int or a text -/
def kV : Key → V
  | .inl i => .int i
  | .inr x => .str x

/-- what stands at a tracked address -/
inductive HO where
  /-- a list -/
  | lst (xs : List V)
  /-- a tuple (never changes) -/
  | tup (xs : List V)
  /-- a dict whose keys are ints and texts; one whose keys are tuples of ints and texts (the empty one is both) -/
  | dK (kvs : List (Key × V)) | dT (kvs : List (List Key × V))
  /-- a set of ints: its members, its size -/
  | set (S : Int → Bool) (n : Nat)
  /-- an instance of the class at C, its dict at dx, its attributes -/
  | ins (C dx : Addr) (fs : List (Str × V))
  /-- the dict of the instance at x -/
  | own (x : Addr)
  /-- the dict of an exception -/
  | xd (fs : List (Str × V))
  /-- a bound method, f of x -/
  | met (f x : Addr)
  /-- a range object lo, lo + 1, .. below hi -/
  | rng (lo hi : Int)
  /-- a thing that is known to the object (the script; a dict while a loop walks it): read, never written while it is so -/
  | frz (o : Obj) (u : HO)
  /-- a code object's table -/
  | tbl (ps : Array Value)
  /-- any other thing, by what is true of its one object (a def of one's own: SetO a S n := HO.ext fun h => ..) -/
  | ext (φ : Heap → Prop)

abbrev Hp := Addr → Option HO
def upd (H : Hp) (a : Addr) (o : HO) : Hp := fun b => if b = a then some o else H b
theorem upd_same {H : Hp} {a : Addr} {o : HO} : upd H a o a = some o := by unfold upd; rw [if_pos rfl]
theorem upd_ne {H : Hp} {a b : Addr} {o : HO} (h : b ≠ a) : upd H a o b = H b := by unfold upd; rw [if_neg h]
/-- two objects of different content stand apart -/
theorem ne_of {H : Hp} {a b : Addr} {o u : HO} (h : H a = some o) (h' : H b = some u) (d : o ≠ u) : a ≠ b := by
  intro e; subst e; rw [h] at h'; exact d (Option.some.inj h')
theorem ne_of_none {H : Hp} {a b : Addr} {o : HO} (h : H a = some o) (h' : H b = none) : a ≠ b := by
  intro e; subst e; rw [h] at h'; cases h'

section
variable (P : Program) (w : World)
def ObjOk (H : Hp) (h : Heap) (a : Addr) : HO → Prop
  | .lst xs => xs.length ≤ sizeLine ∧ ∃ (its : List Value) (n : Nat), Vals xs its ∧ h.get? a = some { cls := .type "list", data := .seq its.toArray n }
  | .tup xs => xs.length ≤ sizeLine ∧ ∃ its : List Value, Vals xs its ∧ IsTup h a its.toArray
  | .dK kvs => kvs.length ≤ sizeLine ∧ (a == sysModules) = false ∧ ∃ vs, KV kvs vs ∧ h.DictOf (mixKind P w) a vs
  | .dT kvs => kvs.length ≤ sizeLine ∧ (a == sysModules) = false ∧ ∃ xs : List (List Key × Addr × Value),
      Paired (fun (p : List Key × V) (q : List Key × Addr × Value) => p.1 = q.1 ∧ H q.2.1 = some (.tup (p.1.map kV)) ∧ RelV p.2 q.2.2) kvs xs ∧
      ∃ o es ep, h.get? a = some o ∧ o.ExactDict ∧ o.data = .dict es ep ∧ es.toList = xs.map (entryOfKey (tupleKind (mixKind P w))) ∧ (xs.map (·.1)).Nodup
  | .set S n => h.SetOf (intKind P w) a S n
  | .ins C dx fs => H dx = some (.own a) ∧ fs.length ≤ 1000 ∧ dx ≠ a ∧ h.get? a = some (PySem.W.instObj C dx) ∧
      ∃ mA, h.Ns1 dx mA ∧ (∀ f, RelO (fs.lookup f) (mA f)) ∧ PySem.Within mA (fs.map (·.1))
  | .own _ => ∃ o, h.get? a = some o
  | .xd fs => ∃ mA, h.Ns1 a mA ∧ ∀ f, RelO (fs.lookup f) (mA f)
  | .rng lo hi => ∃ t u v, h.get? a = some { cls := .type "range", data := .fields #[.int lo t, .int hi u, .int 1 v] }
  | .frz o u => h.get? a = some o ∧ ObjOk H h a u
  | .tbl ps => h.get? a = some { cls := .none, data := .fields ps }
  | .met f x => h.get? a = some (PySem.W.methodObj (.ref f) (.ref x))
  | .ext φ => φ h ∧ (∃ o, h.get? a = some o) ∧ ∀ h1 h2 : Heap, φ h1 → (∀ o, h1.get? a = some o → h2.get? a = some o) → φ h2
/-- the abstract heap is held -/
def HOk (H : Hp) (h : Heap) : Prop := ∀ a o, H a = some o → ObjOk P w H h a o
end

section
variable {P : Program} {w : World} {H H' : Hp} {h h' : Heap} {a : Addr} {o : HO}
theorem ObjOk.lt (x : ObjOk P w H h a o) : a < h.objs.size := by
  cases o with
  | lst xs => obtain ⟨_, _, _, _, e⟩ := x; exact Heap.lt_size e
  | tup xs => obtain ⟨_, _, _, p⟩ := x; exact p.lt
  | dK kvs => obtain ⟨_, _, _, _, o, _, _, e, _⟩ := x; exact Heap.lt_size e
  | dT kvs => obtain ⟨_, _, _, _, o, _, _, e, _⟩ := x; exact Heap.lt_size e
  | set S n => obtain ⟨o, _, _, _, e, _⟩ := x; exact Heap.lt_size e
  | ins C dx fs => obtain ⟨_, _, _, e, _⟩ := x; exact Heap.lt_size e
  | own y => obtain ⟨_, e⟩ := x; exact Heap.lt_size e
  | xd fs => obtain ⟨_, ⟨_, _, _, e, _⟩, _⟩ := x; exact Heap.lt_size e
  | rng lo hi => obtain ⟨_, _, _, e⟩ := x; exact Heap.lt_size e
  | frz ob u => obtain ⟨e, _⟩ := x; exact Heap.lt_size e
  | tbl ps => exact Heap.lt_size (show h.get? a = some _ from x)
  | met f y => exact Heap.lt_size (show h.get? a = some _ from x)
  | ext φ => obtain ⟨_, ⟨_, e⟩, _⟩ := x; exact Heap.lt_size e
theorem Paired.mapP {α β : Type} {F G : α → β → Prop} : ∀ {l₁ : List α} {l₂ : List β}, Paired F l₁ l₂ → (∀ a b, F a b → G a b) → Paired G l₁ l₂
  | _, _, .nil, _ => .nil
  | _, _, .cons r t, f => .cons (f _ _ r) (Paired.mapP t f)
/-- what an object's description leans on: its own object, its own dict, the tuples -/
theorem ObjOk.stay (x : ObjOk P w H h a o) (k : ∀ b u, (b = a ∨ H b = some (.own a)) → h.get? b = some u → h'.get? b = some u)
    (ho : ∀ b, H b = some (.own a) → H' b = some (.own a)) (ht : ∀ b xs, H b = some (.tup xs) → H' b = some (.tup xs)) : ObjOk P w H' h' a o := by
  induction o with
  | lst xs => obtain ⟨z, its, n, r, e⟩ := x; exact ⟨z, its, n, r, k _ _ (.inl rfl) e⟩
  | tup xs => obtain ⟨z, its, r, ob, e, c⟩ := x; exact ⟨z, its, r, ob, k _ _ (.inl rfl) e, c⟩
  | dK kvs => obtain ⟨z, y, vs, r, ob, es, ep, e, c⟩ := x; exact ⟨z, y, vs, r, ob, es, ep, k _ _ (.inl rfl) e, c⟩
  | dT kvs =>
    obtain ⟨z, y, xs, r, ob, es, ep, e, c⟩ := x
    exact ⟨z, y, xs, Paired.mapP r fun p q z => ⟨z.1, ht _ _ z.2.1, z.2.2⟩, ob, es, ep, k _ _ (.inl rfl) e, c⟩
  | set S n => obtain ⟨ob, es, ep, t, e, c⟩ := x; exact ⟨ob, es, ep, t, k _ _ (.inl rfl) e, c⟩
  | ins C dx fs =>
    obtain ⟨d, z, ne, e, mA, ⟨od, es, ep, e2, c⟩, r⟩ := x
    exact ⟨ho _ d, z, ne, k _ _ (.inl rfl) e, mA, ⟨od, es, ep, k _ _ (.inr d) e2, c⟩, r⟩
  | own y => obtain ⟨ob, e⟩ := x; exact ⟨ob, k _ _ (.inl rfl) e⟩
  | xd fs => obtain ⟨mA, ⟨od, es, ep, e, c⟩, r⟩ := x; exact ⟨mA, ⟨od, es, ep, k _ _ (.inl rfl) e, c⟩, r⟩
  | rng lo hi => obtain ⟨t, u, v, e⟩ := x; exact ⟨t, u, v, k _ _ (.inl rfl) e⟩
  | frz ob u ih => obtain ⟨e, q⟩ := x; exact ⟨k _ _ (.inl rfl) e, ih q⟩
  | tbl ps =>
    have e : h.get? a = some { cls := .none, data := .fields ps } := x
    show h'.get? a = some { cls := .none, data := .fields ps }
    exact k a _ (.inl rfl) e
  | met f y =>
    have e : h.get? a = some (PySem.W.methodObj (.ref f) (.ref y)) := x
    show h'.get? a = some (PySem.W.methodObj (.ref f) (.ref y))
    exact k a _ (.inl rfl) e
  | ext φ => obtain ⟨p, ⟨o, e⟩, st⟩ := x; exact ⟨st _ _ p fun o q => k _ _ (.inl rfl) q, ⟨o, k _ _ (.inl rfl) e⟩, st⟩
theorem HOk.lt (x : HOk P w H h) (e : H a = some o) : a < h.objs.size := (x a o e).lt
theorem HOk.fresh (x : HOk P w H h) (e : h.objs.size ≤ a) : H a = none := by
  cases q : H a with
  | none => rfl
  | some u => exact absurd (Nat.lt_of_lt_of_le (x.lt q) e) (Nat.lt_irrefl _)
/-- every object of the heap is kept -/
theorem HOk.kept (x : HOk P w H h) (k : ∀ b u, h.get? b = some u → h'.get? b = some u) : HOk P w H h' := fun a o e =>
  (x a o e).stay (fun b u _ q => k b u q) (fun _ q => q) fun _ _ q => q
/-- a new object is laid and tracked -/
theorem HOk.laid (x : HOk P w H h) (k : ∀ b u, h.get? b = some u → h'.get? b = some u) (hp : h.objs.size ≤ a) (new : ObjOk P w (upd H a o) h' a o) : HOk P w (upd H a o) h' := fun b u e => by
  have hn := x.fresh hp
  by_cases hb : b = a
  · subst hb; rw [upd_same] at e; cases e; exact new
  · rw [upd_ne hb] at e
    exact (x b u e).stay (fun c v _ q => k c v q) (fun c q => by rw [upd_ne (ne_of_none q hn)]; exact q) fun c xs q => by rw [upd_ne (ne_of_none q hn)]; exact q
end

/-- what may be read as u: it is u, or a known u -/
def Rd (H : Hp) (a : Addr) (u : HO) : Prop := H a = some u ∨ ∃ o, H a = some (.frz o u)
theorem Rd.ok {P : Program} {w : World} {H : Hp} {h : Heap} {a : Addr} {u : HO} (r : Rd H a u) (x : HOk P w H h) : ObjOk P w H h a u := by
  rcases r with r | ⟨o, r⟩
  · exact x a u r
  · obtain ⟨_, q⟩ := x a _ r
    exact q
/-- what may be written -/
def Mut : Option HO → Prop
  | some (.lst _) => True
  | some (.dK _) => True
  | some (.dT _) => True
  | some (.set _ _) => True
  | some (.ins _ _ _) => True
  | some (.ext _) => True
  | _ => False
section
variable {P : Program} {w : World} {H : Hp} {h h' : Heap} {x e : Addr} {o' : HO}
/-- the object at e is changed: x itself, or the dict of the instance x -/
theorem HOk.write (ok : HOk P w H h) (mu : Mut (H x)) (he : e = x ∨ H e = some (.own x)) (k : ∀ b u, b ≠ e → h.get? b = some u → h'.get? b = some u) (heo : ∃ u, h'.get? e = some u)
    (new : ObjOk P w (upd H x o') h' x o') : HOk P w (upd H x o') h' := fun b u q => by
  have nown : ∀ c y, H c = some (.own y) → c ≠ x := fun c y r z => by subst z; rw [r] at mu; exact mu
  have ntup : ∀ c xs, H c = some (.tup xs) → c ≠ x := fun c xs r z => by subst z; rw [r] at mu; exact mu
  by_cases hb : b = x
  · subst hb; rw [upd_same] at q; cases q; exact new
  · rw [upd_ne hb] at q
    by_cases hbe : b = e
    · have q' : H b = some (.own x) := by
        rcases he with z | z
        · exact absurd (hbe.trans z) hb
        · rw [hbe]; exact z
      rw [q] at q'; cases q'
      obtain ⟨v, hv⟩ := heo
      exact ⟨v, by rw [hbe]; exact hv⟩
    · refine (ok b u q).stay (fun c v hc r => k c v ?_ r) (fun c r => by rw [upd_ne (nown c b r)]; exact r) fun c xs r => by rw [upd_ne (ntup c xs r)]; exact r
      rcases hc with rfl | hc
      · exact hbe
      · rintro rfl
        rcases he with z | z
        · exact nown c b hc z
        · rw [hc] at z; cases z; exact hb rfl
end

/-! ### kept unless tracked; of the frames at fs (the callers') the slots may change (an exception that passes writes there); of the records at ex (iterators) nothing is said -/
structure Un (fs ex : List Addr) (H H' : Hp) (h h' : Heap) : Prop where
  keep : ∀ b o, h.get? b = some o → H b = none → b ∉ fs → b ∉ ex → h'.get? b = some o
  slot : ∀ b o, h.get? b = some o → H b = none → b ∈ fs → b ∉ ex → ∃ sl, h'.get? b = some { o with slots := sl }
  free : ∀ b o, h.get? b = some o → H b = none → b ∉ ex → H' b = none
  there : ∀ b o, h.get? b = some o → b ∉ ex → ∃ o', h'.get? b = some o'
  tups : ∀ b xs, H b = some (.tup xs) → H' b = some (.tup xs)
  frzs : ∀ b o u, H b = some (.frz o u) → H' b = some (.frz o u)
  tbls : ∀ b ps, H b = some (.tbl ps) → ∃ more, H' b = some (.tbl (ps ++ more))
section
variable {fs fs' ex ex' : List Addr} {H H1 H2 : Hp} {h h1 h2 h' : Heap} {a x e : Addr} {o : HO}
theorem Un.any (u : Un fs ex H H1 h h1) {b : Addr} {ob : Obj} (q : h.get? b = some ob) (n : H b = none) (hx : b ∉ ex) : ∃ sl, h1.get? b = some { ob with slots := sl } := by
  by_cases hb : b ∈ fs
  · exact u.slot b ob q n hb hx
  · exact ⟨ob.slots, u.keep b ob q n hb hx⟩
theorem Un.kept (k : ∀ b u, h.get? b = some u → h'.get? b = some u) : Un fs ex H H h h' :=
  ⟨fun b ob q _ _ _ => k b ob q, fun b ob q _ _ _ => ⟨ob.slots, k b ob q⟩, fun _ _ _ n _ => n, fun b ob q _ => ⟨ob, k b ob q⟩, fun _ _ q => q, fun _ _ _ q => q, fun _ ps q => ⟨#[], by rw [q]; simp⟩⟩
theorem Un.refl : Un fs ex H H h h := Un.kept fun _ _ q => q
theorem Un.laid (k : ∀ b u, h.get? b = some u → h'.get? b = some u) (hp : h.objs.size ≤ a) (hn : H a = none) : Un fs ex H (upd H a o) h h' where
  keep := fun b u q _ _ _ => k b u q
  slot := fun b u q _ _ _ => ⟨u.slots, k b u q⟩
  free := fun b u q n _ => by rw [upd_ne (Nat.ne_of_lt (Nat.lt_of_lt_of_le (Heap.lt_size q) hp))]; exact n
  there := fun b u q _ => ⟨u, k b u q⟩
  tups := fun b xs q => by rw [upd_ne (ne_of_none q hn)]; exact q
  frzs := fun b u xs q => by rw [upd_ne (ne_of_none q hn)]; exact q
  tbls := fun b ps q => ⟨#[], by rw [upd_ne (ne_of_none q hn), q]; simp⟩
theorem Un.write (mu : Mut (H x)) (he : e = x ∨ H e = some (.own x)) (k : ∀ b u, b ≠ e → h.get? b = some u → h'.get? b = some u) (heo : ∃ u, h'.get? e = some u) : Un fs ex H (upd H x o) h h' := by
  have hx : ∀ b, H b = none → b ≠ x := fun b n z => by subst z; rw [n] at mu; exact mu
  have hb : ∀ b, H b = none → b ≠ e := fun b n z => by
    subst z
    rcases he with r | r
    · exact hx b n r
    · rw [n] at r; cases r
  have hm : ∀ b u, H b = some u → ¬ Mut (some u) → b ≠ x := fun b u q nm z => by subst z; rw [q] at mu; exact nm mu
  refine ⟨fun b u q n _ _ => k b u (hb b n) q, fun b u q n _ _ => ⟨u.slots, k b u (hb b n) q⟩, fun b u q n _ => by rw [upd_ne (hx b n)]; exact n, fun b u q _ => ?_,
    fun b xs q => by rw [upd_ne (hm b _ q fun z => z)]; exact q, fun b u xs q => by rw [upd_ne (hm b _ q fun z => z)]; exact q, fun b ps q => ⟨#[], by rw [upd_ne (hm b _ q fun z => z), q]; simp⟩⟩
  by_cases hbe : b = e
  · subst hbe; exact heo
  · exact ⟨u, k b u hbe q⟩
end

/-! ### the heap without what is tracked -/
def trk (h : Heap) (H : Hp) : List Addr := (List.range h.objs.size).filter fun a => (H a).isSome
def hidT (h : Heap) (H : Hp) : Heap := PySem.W.hideAll h (trk h H)
theorem hidT_size (h : Heap) (H : Hp) : (hidT h H).objs.size = h.objs.size := PySem.W.hideAll_size _ _
theorem hidT_get {h : Heap} {H : Hp} {b : Addr} {o : Obj} (e : h.get? b = some o) (n : H b = none) : (hidT h H).get? b = some o :=
  PySem.W.hideAll_get _ e fun hm => by
    have q : (H b).isSome = true := (List.mem_filter.mp hm).2
    rw [n] at q; simp at q
theorem of_hidT {h : Heap} {H : Hp} {b : Addr} {o : Obj} (e : (hidT h H).get? b = some o) : h.get? b = some o ∧ H b = none := by
  have e' : h.get? b = some o := PySem.W.of_hideAll (trk h H) e
  refine ⟨e', ?_⟩
  cases q : H b with
  | none => rfl
  | some x =>
    have hm : b ∈ trk h H := List.mem_filter.mpr ⟨List.mem_range.mpr (Heap.lt_size e'), by simp [q]⟩
    have z : (hidT h H).get? b = none := PySem.W.hideAll_none (trk h H) hm
    rw [z] at e; cases e

/-! ### OpenK's ledger, filled with every new object but one -/
def allNews (g h : Heap) (L : Addr) : List (Addr × Obj) := (List.range h.objs.size).filterMap fun a => if a = L ∨ (g.get? a).isSome = true then none else (h.get? a).map fun o => (a, o)
def rest (g h : Heap) (L d : Addr) : List (Addr × Obj) := (allNews g h L).filter fun p => decide (p.1 ≠ d)
end L2

namespace L2
open PySem PySem.Spec PyProof.Rows

/-- the module's facts, over the base: the heap at the law's entry without what is tracked there -/
structure Mod (K : PySem.W.Frag) (mg : Str → Option Value) (base : Heap) : Prop where
  kin : K.In base
  glob : base.Ns mainGlobals mg
  blt : ∃ mb, base.Ns builtinsNs mb ∧ ∀ x : Str, x ≠ "__name__" → mb x = bootBuiltins x
  nolimit : base.NoLimit

/-- the context: a def's body (or a comprehension's block) running. base: fixed through the whole law; s₀, H₀: the entry; outer: the frames whose slots others may change (a def's callers); stack: all frames that run;
   ex: iterators that were made ahead of the entry and are walked here (a comprehension's); fn: the names whose cells were made at the entry (a def: all; a comprehension's block: its own); calm: not within an except suite; pn: pins that every state bears; xe: what is wanted of an exception that leaves the code -/
structure Cx where
  prog : Program
  w : World
  K : PySem.W.Frag
  mg : Str → Option Value
  base : Heap
  A : Around
  N : List Str
  s₀ : Shared
  H₀ : Hp
  env : Env
  outer : List Env
  stack : List Env
  ex : List Addr
  fn : Str → Bool
  calm : Bool
  pn : List (Addr × Obj)
  xe : Value → Shared → Prop
/-- the callers' frames -/
def frs (l : List Env) : List Addr := l.filterMap (·.frame)
abbrev Cx.fs (X : Cx) : List Addr := frs X.outer

def Vis (sc : Scope) (x : Str) : Prop := sc.names.lookup x = some .local ∨ sc.names.lookup x = some .cell ∨ sc.names.lookup x = some .free
def Loc (sc : Scope) (x : Str) : Prop := sc.names.lookup x = some .local ∨ sc.names.lookup x = some .cell
def Look (env : Env) (h : Heap) (m : Str → Option Value) (x : Str) (u : Value) : Prop :=
  (env.kindOf x = some .local ∧ m x = some u) ∨ ((env.kindOf x = some .cell ∨ env.kindOf x = some .free) ∧ ∃ c, env.cells.lookup x = some c ∧ h.IsCell c (some u))

structure Cx.Ok (X : Cx) : Prop where
  mod : Mod X.K X.mg X.base
  kind : X.env.scope.kind = .function
  glob : X.env.globals = mainGlobals
  blt : X.env.builtins = builtinsNs
  above : X.s₀.heap.objs.size ≤ X.env.locals
  inj : ∀ x y c, X.env.cells.lookup x = some c → X.env.cells.lookup y = some c → x = y
  has : ∀ x, (X.env.kindOf x = some .cell ∨ X.env.kindOf x = some .free) → ∃ c, X.env.cells.lookup x = some c
  cab : ∀ x c, X.fn x = true → X.env.cells.lookup x = some c → X.s₀.heap.objs.size ≤ c
  hd : X.calm = true → X.A.handled = none
  frames : X.A.frames = some X.stack
  stk : X.stack = X.outer ∨ (X.stack = X.env :: X.outer ∧ X.env.frame = some X.env.locals)
  exf : ∀ b ∈ X.ex, b ≠ X.env.locals ∧ ∀ x c, X.env.cells.lookup x = some c → c ≠ b
  bs : ∀ b o, X.base.get? b = some o → X.s₀.heap.get? b = some o ∧ X.H₀ b = none
  bsz : X.base.objs.size ≤ X.s₀.heap.objs.size
  noex : ∀ b o, X.base.get? b = some o → b ∉ X.ex
  exfs : ∀ b ∈ X.ex, b ∉ X.fs
  funs : X.s₀.heap.FunFrames X.base X.outer
  frf : ∀ b ∈ X.fs, X.H₀ b = none

structure Inv (X : Cx) (pins : List (Addr × Obj)) (σ : List (Option V)) (H : Hp) (s : Shared) : Prop where
  ok : X.Ok
  os : s.os = X.s₀.os
  bare : AllBare s.gens
  base : Un X.fs X.ex X.H₀ H X.s₀.heap s.heap
  loc : ∃ m, s.heap.Ns X.env.locals m ∧ ∀ (i : Nat) (x : Str) (v : V), X.N[i]? = some x → σ[i]? = some (some v) → Vis X.env.scope x → ∃ u, RelV v u ∧ Look X.env s.heap m x u
  cell : ∀ x c, X.env.cells.lookup x = some c → ∃ v, s.heap.IsCell c v
  free : H X.env.locals = none
  freeC : ∀ x c, X.env.cells.lookup x = some c → H c = none
  pin : ∀ p ∈ X.pn ++ pins, s.heap.get? p.1 = some p.2 ∧ H p.1 = none ∧ p.1 ≠ X.env.locals ∧ p.1 ∉ X.fs ∧ ∀ v, p.2.data ≠ .cell v
  hok : HOk X.prog X.w H s.heap
  len : σ.length = X.N.length

section
variable {X : Cx} {pins : List (Addr × Obj)} {σ : List (Option V)} {H H' : Hp} {s : Shared} {h' : Heap}

theorem Cx.Ok.nofr (ok : X.Ok) {b : Addr} {o : Obj} (e : X.base.get? b = some o) : b ∉ X.fs := fun hb => by
  have := (ok.funs.mem hb).1
  rw [e] at this; cases this
theorem Inv.bs (I : Inv X pins σ H s) : ∀ b o, X.base.get? b = some o → s.heap.get? b = some o ∧ H b = none := fun b o e =>
  ⟨I.base.keep b o (I.ok.bs b o e).1 (I.ok.bs b o e).2 (I.ok.nofr e) (I.ok.noex b o e), I.base.free b o (I.ok.bs b o e).1 (I.ok.bs b o e).2 (I.ok.noex b o e)⟩
theorem Inv.bk (I : Inv X pins σ H s) : ∀ b o, X.base.get? b = some o → s.heap.get? b = some o := fun b o e => (I.bs b o e).1
theorem Inv.mod (I : Inv X pins σ H s) : Mod X.K X.mg X.base := I.ok.mod
theorem Inv.kIn (I : Inv X pins σ H s) : X.K.In s.heap := I.ok.mod.kin.keeps I.bk
theorem Inv.lt (I : Inv X pins σ H s) : X.env.locals < s.heap.objs.size := let ⟨_, hn, _⟩ := I.loc; hn.lt
theorem Inv.sz (I : Inv X pins σ H s) : X.s₀.heap.objs.size ≤ s.heap.objs.size := Nat.le_trans I.ok.above (Nat.le_of_lt I.lt)
theorem Inv.nofs (I : Inv X pins σ H s) {a : Addr} (h : s.heap.objs.size ≤ a) : a ∉ X.fs := fun hb => by
  obtain ⟨_, o, ho, _⟩ := I.ok.funs.mem hb
  exact absurd (Nat.lt_of_lt_of_le (Heap.lt_size ho) (Nat.le_trans I.sz h)) (Nat.lt_irrefl _)
theorem Inv.cne (I : Inv X pins σ H s) : ∀ x c, X.env.cells.lookup x = some c → c ≠ X.env.locals := fun x c e z => by
  obtain ⟨v, o, ho, hd⟩ := I.cell x c e
  obtain ⟨m, ⟨o', es, ep, ho', hd', _⟩, _⟩ := I.loc
  rw [z, ho'] at ho; cases ho; rw [hd'] at hd; cases hd
theorem Inv.funs (I : Inv X pins σ H s) : s.heap.FunFrames X.base X.outer := by
  have all : ∀ (l : List Env), (∀ b ∈ frs l, b ∈ X.fs) → X.s₀.heap.FunFrames X.base l → s.heap.FunFrames X.base l := by
    intro l
    induction l with
    | nil => intro _ _; trivial
    | cons env r ih =>
      intro hs hl
      obtain ⟨hk, ⟨L, o, hf, hn, ho, hd⟩, hr⟩ := hl
      have hL : L ∈ X.fs := hs L (by unfold frs; rw [List.filterMap_cons, hf]; exact List.mem_cons_self)
      obtain ⟨sl, e⟩ := I.base.slot L o ho (I.ok.frf L hL) hL fun z => I.ok.exfs L z hL
      exact ⟨hk, ⟨L, _, hf, hn, e, hd⟩, ih (fun b hb => hs b (by unfold frs; rw [List.filterMap_cons, hf]; exact List.mem_cons_of_mem _ hb)) hr⟩
  exact all X.outer (fun _ hb => hb) I.ok.funs

/-- the frames that run, for a call -/
theorem Inv.stack (I : Inv X pins σ H s) : s.heap.FunFrames X.base X.stack := by
  rcases I.ok.stk with e | ⟨e, hf⟩
  · rw [e]; exact I.funs
  · rw [e]
    obtain ⟨m, hn, _⟩ := I.loc
    refine .cons (by rw [I.ok.kind]; decide) hf hn ?_ I.funs
    exact Heap.get?_none_of_le (Nat.le_trans I.ok.bsz I.ok.above)
theorem Inv.stkSub (I : Inv X pins σ H s) : ∀ b ∈ frs X.stack, b ∈ X.env.locals :: X.fs := fun b hb => by
  rcases I.ok.stk with e | ⟨e, hf⟩
  · rw [e] at hb; exact List.mem_cons_of_mem _ hb
  · rw [e] at hb
    unfold frs at hb
    rw [List.filterMap_cons, hf] at hb
    exact hb
theorem Inv.stkFree (I : Inv X pins σ H s) : ∀ b ∈ frs X.stack, H b = none := fun b hb => by
  rcases List.mem_cons.mp (I.stkSub b hb) with e | hb
  · rw [e]; exact I.free
  · obtain ⟨_, o, ho, _⟩ := I.ok.funs.mem hb
    exact I.base.free b o ho (I.ok.frf b hb) fun z => I.ok.exfs b z hb

/-- THE STEP: the untracked objects but the frame and the records at ch are kept (the callers' frames up to slots), the frame's map is kept, the new abstract heap is held -/
theorem Inv.step {g' : Array GenState} {t' : Nat} {d' : Drawn} {ch : List Addr} (I : Inv X pins σ H s)
    (hch : ∀ b ∈ ch, (b ∈ X.ex ∨ X.s₀.heap.get? b = none) ∧ b ≠ X.env.locals ∧ (∀ x c, X.env.cells.lookup x = some c → c ≠ b) ∧ ∀ p ∈ X.pn ++ pins, p.1 ≠ b)
    (keep : ∀ b o, b ≠ X.env.locals → b ∉ X.fs → b ∉ ch → s.heap.get? b = some o → H b = none → h'.get? b = some o)
    (slot : ∀ b o, b ≠ X.env.locals → b ∈ X.fs → b ∉ ch → s.heap.get? b = some o → H b = none → ∃ sl, h'.get? b = some { o with slots := sl }) (free : ∀ b o, b ∉ ch → s.heap.get? b = some o → H b = none → H' b = none)
    (there : ∀ b o, b ∉ ch → s.heap.get? b = some o → ∃ o', h'.get? b = some o')
    (tups : ∀ b xs, H b = some (.tup xs) → H' b = some (.tup xs)) (frzs : ∀ b o u, H b = some (.frz o u) → H' b = some (.frz o u)) (tbls : ∀ b ps, H b = some (.tbl ps) → ∃ more, H' b = some (.tbl (ps ++ more)))
    (ns : ∀ m, s.heap.Ns X.env.locals m → h'.Ns X.env.locals m) (hok : HOk X.prog X.w H' h') (hg : AllBare g') :
    Inv X pins σ H' { s with heap := h', gens := g', drawn := d', toks := t' } := by
  have neL : ∀ b o, X.s₀.heap.get? b = some o → b ≠ X.env.locals := fun b o e => Nat.ne_of_lt (Nat.lt_of_lt_of_le (Heap.lt_size e) I.ok.above)
  have neC : ∀ b o, X.s₀.heap.get? b = some o → b ∉ X.ex → b ∉ ch := fun b o e hx hb => by
    rcases (hch b hb).1 with z | z
    · exact hx z
    · rw [e] at z; cases z
  have cellK : ∀ x c, X.env.cells.lookup x = some c → ∀ v, s.heap.IsCell c v → h'.IsCell c v := fun x c e v ⟨o, ho, hd⟩ => by
    have nch : c ∉ ch := fun z => (hch c z).2.2.1 x c e rfl
    by_cases hc : c ∈ X.fs
    · obtain ⟨sl, q⟩ := slot c o (I.cne x c e) hc nch ho (I.freeC x c e)
      exact ⟨_, q, hd⟩
    · exact ⟨o, keep c o (I.cne x c e) hc nch ho (I.freeC x c e), hd⟩
  refine ⟨I.ok, I.os, hg, ⟨fun b o e n hb hx => ?_, fun b o e n hb hx => ?_, fun b o e n hx => ?_, fun b o e hx => ?_, fun b xs e => tups b xs (I.base.tups b xs e), fun b o xs e => frzs b o xs (I.base.frzs b o xs e), fun b ps e => ?_⟩, ?_, fun x c e => ?_, ?_, fun x c e => ?_, fun p hp => ?_, hok, I.len⟩
  · exact keep b o (neL b o e) hb (neC b o e hx) (I.base.keep b o e n hb hx) (I.base.free b o e n hx)
  · obtain ⟨sl, e1⟩ := I.base.slot b o e n hb hx
    obtain ⟨sl', e2⟩ := slot b _ (neL b o e) hb (neC b o e hx) e1 (I.base.free b o e n hx)
    exact ⟨sl', e2⟩
  · obtain ⟨o', e1⟩ := I.base.there b o e hx
    exact free b o' (neC b o e hx) e1 (I.base.free b o e n hx)
  · obtain ⟨o', e1⟩ := I.base.there b o e hx
    exact there b o' (neC b o e hx) e1
  · obtain ⟨m1, e1⟩ := I.base.tbls b ps e
    obtain ⟨m2, e2⟩ := tbls b _ e1
    exact ⟨m1 ++ m2, by rw [e2, Array.append_assoc]⟩
  · obtain ⟨m, hn, hl⟩ := I.loc
    refine ⟨m, ns m hn, fun i x v e1 e2 e3 => ?_⟩
    obtain ⟨u, r, l⟩ := hl i x v e1 e2 e3
    refine ⟨u, r, ?_⟩
    rcases l with l | ⟨k, c, e, z⟩
    · exact .inl l
    · exact .inr ⟨k, c, e, cellK x c e _ z⟩
  · obtain ⟨v, z⟩ := I.cell x c e
    exact ⟨v, cellK x c e v z⟩
  · obtain ⟨m, ⟨o, _, _, ho, _⟩, _⟩ := I.loc
    exact free _ o (fun z => (hch _ z).2.1 rfl) ho I.free
  · obtain ⟨v, o, ho, hd⟩ := I.cell x c e
    exact free c o (fun z => (hch c z).2.2.1 x c e rfl) ho (I.freeC x c e)
  · obtain ⟨e, n, ne, nf, d⟩ := I.pin p hp
    have nch : p.1 ∉ ch := fun z => (hch p.1 z).2.2.2 p hp rfl
    exact ⟨keep p.1 p.2 ne nf nch e n, free p.1 p.2 nch e n, ne, nf, d⟩
/-- .. where the frame's own object is kept too -/
theorem Inv.un {t' : Nat} (I : Inv X pins σ H s) (u : Un X.fs [] H H' s.heap h') (hok : HOk X.prog X.w H' h') : Inv X pins σ H' { s with heap := h', toks := t' } := by
  obtain ⟨m, ⟨o, es, ep, ho, r⟩, _⟩ := id I.loc
  obtain ⟨sl, hL⟩ := u.any ho I.free (by simp)
  exact I.step (g' := s.gens) (d' := s.drawn) (ch := []) (fun _ z => nomatch z) (fun b o _ hb _ e n => u.keep b o e n hb (by simp)) (fun b o _ hb _ e n => u.slot b o e n hb (by simp)) (fun b o _ e n => u.free b o e n (by simp)) (fun b o _ e => u.there b o e (by simp)) u.tups u.frzs u.tbls (fun m' hm => by
    obtain ⟨o', es', ep', ho', r'⟩ := hm
    rw [ho] at ho'; cases ho'
    exact ⟨_, es', ep', hL, r'⟩) hok I.bare
/-- behind a call (or a comprehension's block): the slots of this frame may have changed too, the records at ch may have turned -/
theorem Inv.call {g' : Array GenState} {t' : Nat} {d' : Drawn} {ch : List Addr} (I : Inv X pins σ H s) (u : Un (frs X.stack) ch H H' s.heap h') (hok : HOk X.prog X.w H' h') (hg : AllBare g')
    (hch : ∀ b ∈ ch, (b ∈ X.ex ∨ X.s₀.heap.get? b = none) ∧ b ≠ X.env.locals ∧ (∀ x c, X.env.cells.lookup x = some c → c ≠ b) ∧ ∀ p ∈ X.pn ++ pins, p.1 ≠ b) :
    Inv X pins σ H' { s with heap := h', gens := g', drawn := d', toks := t' } := by
  obtain ⟨m, ⟨o, es, ep, ho, r⟩, _⟩ := id I.loc
  obtain ⟨sl, hL⟩ := u.any ho I.free fun z => (hch _ z).2.1 rfl
  exact I.step (ch := ch) hch (fun b o hL hb hc e n => u.keep b o e n (fun z => (List.mem_cons.mp (I.stkSub b z)).elim hL hb) hc) (fun b o _ _ hc e n => u.any e n hc) (fun b o hc e n => u.free b o e n hc) (fun b o hc e => u.there b o e hc) u.tups u.frzs u.tbls (fun m' hm => by
    obtain ⟨o', es', ep', ho', r'⟩ := hm
    rw [ho] at ho'; cases ho'
    exact ⟨_, es', ep', hL, r'⟩) hok hg
/-- an untracked record of ours (an iterator) has turned -/
theorem Inv.turned {t' : Nat} {it : Addr} (I : Inv X pins σ H s) (k : ∀ b o, b ≠ it → s.heap.get? b = some o → h'.get? b = some o) (hn : H it = none) (hL : it ≠ X.env.locals)
    (h1 : it ∈ X.ex ∨ X.s₀.heap.get? it = none) (h2 : ∀ x c, X.env.cells.lookup x = some c → c ≠ it) (h3 : ∀ p ∈ X.pn ++ pins, p.1 ≠ it) : Inv X pins σ H { s with heap := h', toks := t' } := by
  have nit : ∀ b u, H b = some u → b ≠ it := fun b u e z => by rw [z, hn] at e; cases e
  refine I.step (g' := s.gens) (d' := s.drawn) (ch := [it]) (fun b hb => ?_) (fun b o _ _ hc e _ => k b o (fun z => hc (by simp [z])) e) (fun b o _ _ hc e _ => ⟨o.slots, k b o (fun z => hc (by simp [z])) e⟩) (fun _ _ _ _ n => n)
    (fun b o hc e => ⟨o, k b o (fun z => hc (by simp [z])) e⟩) (fun _ _ e => e) (fun _ _ _ e => e) (fun b ps e => ⟨#[], by rw [e]; simp⟩) (fun m hm => ?_) (fun b u e => ?_) I.bare
  · have e : b = it := by simpa using hb
    subst e
    exact ⟨h1, hL, h2, h3⟩
  · obtain ⟨o, es, ep, ho, r⟩ := hm
    exact ⟨o, es, ep, k _ o (Ne.symm hL) ho, r⟩
  · refine (I.hok b u e).stay (fun c v hc q => k c v ?_ q) (fun _ q => q) fun _ _ q => q
    rcases hc with z | z
    · rw [z]; exact nit b u e
    · exact nit c _ z
theorem Inv.tok (I : Inv X pins σ H s) (t : Nat) : Inv X pins σ H { s with toks := t } := I.un (h' := s.heap) (t' := t) Un.refl I.hok
/-- all objects kept -/
theorem Inv.kept {t' : Nat} (I : Inv X pins σ H s) (k : ∀ b u, s.heap.get? b = some u → h'.get? b = some u) : Inv X pins σ H { s with heap := h', toks := t' } := I.un (Un.kept k) (I.hok.kept k)
/-- a new object laid and tracked -/
theorem Inv.laid {a : Addr} {o : HO} {t' : Nat} (I : Inv X pins σ H s) (k : ∀ b u, s.heap.get? b = some u → h'.get? b = some u) (hp : s.heap.objs.size ≤ a) (new : ObjOk X.prog X.w (upd H a o) h' a o) :
    Inv X pins σ (upd H a o) { s with heap := h', toks := t' } := I.un (Un.laid k hp (I.hok.fresh hp)) (I.hok.laid k hp new)
/-- an object written -/
theorem Inv.write {x e : Addr} {o : HO} {t' : Nat} (I : Inv X pins σ H s) (mu : Mut (H x)) (he : e = x ∨ H e = some (.own x)) (k : ∀ b u, b ≠ e → s.heap.get? b = some u → h'.get? b = some u) (heo : ∃ u, h'.get? e = some u)
    (new : ObjOk X.prog X.w (upd H x o) h' x o) : Inv X pins σ (upd H x o) { s with heap := h', toks := t' } := I.un (Un.write mu he k heo) (I.hok.write mu he k heo new)
theorem Inv.pins_of {pins' : List (Addr × Obj)} (I : Inv X pins σ H s) (h : ∀ p ∈ pins', s.heap.get? p.1 = some p.2 ∧ H p.1 = none ∧ p.1 ≠ X.env.locals ∧ p.1 ∉ X.fs ∧ ∀ v, p.2.data ≠ .cell v) : Inv X pins' σ H s :=
  ⟨I.ok, I.os, I.bare, I.base, I.loc, I.cell, I.free, I.freeC, fun p hp => (List.mem_append.mp hp).elim (fun z => I.pin p (List.mem_append_left _ z)) (h p), I.hok, I.len⟩

theorem nodup_ix {N : List Str} (hN : N.Nodup) {i j : Nat} {x : Str} (a : N[i]? = some x) (b : N[j]? = some x) : i = j := by
  obtain ⟨h1, e1⟩ := List.getElem?_eq_some_iff.mp a
  obtain ⟨h2, e2⟩ := List.getElem?_eq_some_iff.mp b
  exact (List.getElem_inj hN).mp (e1.trans e2.symm)

/-- a name is stored; what changed -/
theorem store_ok2 {M : Model} {A : Around} {E : Value → Shared → Prop} {i : Nat} {x : Str} {v : V} {u : Value} {Q : Unit → Shared → Prop} (I : Inv X pins σ H s) (hN : X.N.Nodup) (hi : X.N[i]? = some x) (hx : Loc X.env.scope x) (r : RelV v u)
    (h : ∀ s', Inv X pins (σ.set i (some v)) H s' → (∃ a, Heap.SameBut a s.heap s'.heap ∧ (a = X.env.locals ∨ X.env.cells.lookup x = some a)) → Q () s') (hf : X.fn x = true ∨ X.env.scope.names.lookup x = some .local := by first | exact .inl rfl | exact .inr rfl | assumption) : wpAny M A (storeName X.env x u) Q E s := by
  obtain ⟨m, hn, hl⟩ := id I.loc
  have hcls : (X.env.scope.kind == .class || (X.env.scope.kind == .module && X.env.locals != X.env.globals)) = false := by rw [I.ok.kind]; rfl
  have hiσ : i < σ.length := by rw [I.len]; exact (List.getElem?_eq_some_iff.mp hi).1
  have cne := I.cne
  have tracked : ∀ {a : Addr} {h' : Heap}, (∃ o, s.heap.get? a = some o ∧ H a = none) → Heap.SameBut a s.heap h' → HOk X.prog X.w H h' := fun {a h'} ha hs b ob e => by
    obtain ⟨_, _, hfree⟩ := ha
    refine (I.hok b ob e).stay (fun c w' hc q => (hs.2 c ?_).trans q) (fun _ q => q) fun _ _ q => q
    rintro rfl
    rcases hc with rfl | hc
    · rw [hfree] at e; cases e
    · rw [hfree] at hc; cases hc
  rcases hx with hk | hk
  · refine wpAny_storeName_local hk hn (fun h' hn' hs => ?_) hcls
    obtain ⟨oL, _, _, hoL, _⟩ := id hn
    refine h _ ⟨I.ok, I.os, I.bare, ⟨fun b o e n hb hx => ?_, fun b o e n hb hx => ?_, I.base.free, fun b o e hx => ?_, I.base.tups, I.base.frzs, I.base.tbls⟩, ⟨_, hn', fun j y v' e1 e2 e3 => ?_⟩, fun y c e => ?_, I.free, I.freeC, fun p hp => ?_, tracked ⟨oL, hoL, I.free⟩ hs, by simpa using I.len⟩ ⟨_, hs, .inl rfl⟩
    · exact (hs.2 b (Nat.ne_of_lt (Nat.lt_of_lt_of_le (Heap.lt_size e) I.ok.above))).trans (I.base.keep b o e n hb hx)
    · obtain ⟨sl, e1⟩ := I.base.slot b o e n hb hx
      exact ⟨sl, (hs.2 b (Nat.ne_of_lt (Nat.lt_of_lt_of_le (Heap.lt_size e) I.ok.above))).trans e1⟩
    · obtain ⟨o', e1⟩ := I.base.there b o e hx
      exact ⟨o', (hs.2 b (Nat.ne_of_lt (Nat.lt_of_lt_of_le (Heap.lt_size e) I.ok.above))).trans e1⟩
    · by_cases hj : j = i
      · subst hj
        rw [hi] at e1; cases e1
        rw [List.getElem?_set_self hiσ] at e2
        cases e2
        exact ⟨u, r, .inl ⟨hk, by simp⟩⟩
      · rw [List.getElem?_set_ne (Ne.symm hj)] at e2
        obtain ⟨u', r', q⟩ := hl j y v' e1 e2 e3
        refine ⟨u', r', ?_⟩
        rcases q with ⟨k, e⟩ | ⟨k, c, e, z⟩
        · refine .inl ⟨k, ?_⟩
          have : y ≠ x := fun e => hj (nodup_ix hN e1 (e ▸ hi))
          simp [this, e]
        · exact .inr ⟨k, c, e, z.sameBut hs (cne y c e)⟩
    · obtain ⟨w', z⟩ := I.cell y c e
      exact ⟨w', z.sameBut hs (cne y c e)⟩
    · obtain ⟨e, n, ne, nf, d⟩ := I.pin p hp
      exact ⟨(hs.2 p.1 ne).trans e, n, ne, nf, d⟩
  · have hfn : X.fn x = true := by
      rcases hf with z | z
      · exact z
      · rw [z] at hk; cases hk
    obtain ⟨c, hc⟩ := I.ok.has x (.inl hk)
    obtain ⟨w', z⟩ := I.cell x c hc
    refine wpAny_storeName_cell I.ok.kind hk hc z (fun h' hc' hs => ?_)
    obtain ⟨oc, hoc, hocd⟩ := id z
    refine h { s with heap := h' } ⟨I.ok, I.os, I.bare, ⟨fun b o e n hb hx => ?_, fun b o e n hb hx => ?_, I.base.free, fun b o e hx => ?_, I.base.tups, I.base.frzs, I.base.tbls⟩, ⟨m, hn.sameBut hs (Ne.symm (cne x c hc)), fun j y v' e1 e2 e3 => ?_⟩, fun y c' e => ?_, I.free, I.freeC, fun p hp => ?_, tracked ⟨oc, hoc, I.freeC x c hc⟩ hs, by simpa using I.len⟩ ⟨c, hs, .inr hc⟩
    · exact (hs.2 b (Nat.ne_of_lt (Nat.lt_of_lt_of_le (Heap.lt_size e) (I.ok.cab x c hfn hc)))).trans (I.base.keep b o e n hb hx)
    · obtain ⟨sl, e1⟩ := I.base.slot b o e n hb hx
      exact ⟨sl, (hs.2 b (Nat.ne_of_lt (Nat.lt_of_lt_of_le (Heap.lt_size e) (I.ok.cab x c hfn hc)))).trans e1⟩
    · obtain ⟨o', e1⟩ := I.base.there b o e hx
      exact ⟨o', (hs.2 b (Nat.ne_of_lt (Nat.lt_of_lt_of_le (Heap.lt_size e) (I.ok.cab x c hfn hc)))).trans e1⟩
    · by_cases hj : j = i
      · subst hj
        rw [hi] at e1; cases e1
        rw [List.getElem?_set_self hiσ] at e2
        cases e2
        exact ⟨u, r, .inr ⟨.inl hk, c, hc, hc'⟩⟩
      · rw [List.getElem?_set_ne (Ne.symm hj)] at e2
        obtain ⟨u', r', q⟩ := hl j y v' e1 e2 e3
        refine ⟨u', r', ?_⟩
        rcases q with q | ⟨k, c', e, z'⟩
        · exact .inl q
        · refine .inr ⟨k, c', e, z'.sameBut hs ?_⟩
          rintro rfl
          exact hj (nodup_ix hN e1 (I.ok.inj _ _ _ e hc ▸ hi))
    · by_cases hcc : c' = c
      · subst hcc; exact ⟨_, hc'⟩
      · obtain ⟨w2, z2⟩ := I.cell y c' e
        exact ⟨w2, z2.sameBut hs hcc⟩
    · obtain ⟨e, n, ne, nf, d⟩ := I.pin p hp
      refine ⟨(hs.2 p.1 ?_).trans e, n, ne, nf, d⟩
      intro q
      rw [q, hoc] at e
      have q' : oc = p.2 := Option.some.inj e
      exact d w' (by rw [← q']; exact hocd)
theorem store_ok {M : Model} {A : Around} {E : Value → Shared → Prop} {i : Nat} {x : Str} {v : V} {u : Value} {Q : Unit → Shared → Prop} (I : Inv X pins σ H s) (hN : X.N.Nodup) (hi : X.N[i]? = some x) (hx : Loc X.env.scope x) (r : RelV v u)
    (h : ∀ s', Inv X pins (σ.set i (some v)) H s' → Q () s') (hf : X.fn x = true ∨ X.env.scope.names.lookup x = some .local := by first | exact .inl rfl | exact .inr rfl | assumption) : wpAny M A (storeName X.env x u) Q E s :=
  store_ok2 I hN hi hx r (fun s' I' _ => h s' I') hf
/-- behind a call or a block, the state as it is -/
theorem Inv.call' {s' : Shared} {ch : List Addr} (I : Inv X pins σ H s) (ho : s'.os = s.os) (u : Un (frs X.stack) ch H H' s.heap s'.heap) (hok : HOk X.prog X.w H' s'.heap) (hg : AllBare s'.gens)
    (hch : ∀ b ∈ ch, (b ∈ X.ex ∨ X.s₀.heap.get? b = none) ∧ b ≠ X.env.locals ∧ (∀ x c, X.env.cells.lookup x = some c → c ≠ b) ∧ ∀ p ∈ X.pn ++ pins, p.1 ≠ b) : Inv X pins σ H' s' := by
  obtain ⟨h', g', d', t', o'⟩ := s'
  have e : o' = s.os := ho
  subst e
  exact I.call (g' := g') (t' := t') (d' := d') u hok hg hch
end

/-! ### the judgements -/
/-- an exception: its class, its own dict's address (where it has one), the abstract heap behind it -/
abbrev XK := Value → Option Addr × Bool → Hp → Prop
abbrev St := List (Option V)
abbrev VK := V → Hp → Prop
/-- an expression's reading; a test's; an argument list's -/
abbrev TE := St → Hp → VK → Prop
abbrev TT := St → Hp → (Bool → Hp → Prop) → Prop
abbrev TA := St → Hp → (List V → Hp → Prop) → Prop
/-- what is wanted behind a statement -/
structure Ends where
  nx : St → Hp → Prop
  rt : VK
  bk : St → Hp → Prop := fun _ _ => False
  ct : St → Hp → Prop := fun _ _ => False
abbrev TS := Ends → St → Hp → Prop

def EP (X : Cx) (pins : List (Addr × Obj)) (σ : St) (Q : VK) (u : Value) (s' : Shared) : Prop := ∃ v H', Inv X pins σ H' s' ∧ RelV v u ∧ Q v H'
def TP (X : Cx) (pins : List (Addr × Obj)) (σ : St) (Q : Bool → Hp → Prop) (b : Bool) (s' : Shared) : Prop := ∃ H', Inv X pins σ H' s' ∧ Q b H'
def AP (X : Cx) (pins : List (Addr × Obj)) (σ : St) (Q : List V → Hp → Prop) (us : List Value) (s' : Shared) : Prop := ∃ vs H', Inv X pins σ H' s' ∧ Vals vs us ∧ Q vs H'
def SP (X : Cx) (pins : List (Addr × Obj)) (D : Ends) (f : Flow) (s' : Shared) : Prop :=
  match f with
  | .next => ∃ σ' H', Inv X pins σ' H' s' ∧ D.nx σ' H'
  | .brk => ∃ σ' H', Inv X pins σ' H' s' ∧ D.bk σ' H'
  | .cont => ∃ σ' H', Inv X pins σ' H' s' ∧ D.ct σ' H'
  | .ret u => ∃ v σ' H', Inv X pins σ' H' s' ∧ RelV v u ∧ D.rt v H'

def PE (X : Cx) (e : Expr) (t : TE) : Prop :=
  ∀ (pins : List (Addr × Obj)) (s : Shared) (σ : St) (H : Hp) (Q : VK), Inv X pins σ H s → t σ H Q → wpAny (model X.prog X.w) X.A (eval e X.env) (EP X pins σ Q) X.xe s
def PT (X : Cx) (e : Expr) (t : TT) : Prop :=
  ∀ (pins : List (Addr × Obj)) (s : Shared) (σ : St) (H : Hp) (Q : Bool → Hp → Prop), Inv X pins σ H s → t σ H Q → wpAny (model X.prog X.w) X.A (isTrue e X.env (eval e X.env)) (TP X pins σ Q) X.xe s
/-- a test whatever its 'whole' is (and, or) -/
def PW (X : Cx) (e : Expr) (t : TT) : Prop :=
  ∀ (whole : Sem Value) (pins : List (Addr × Obj)) (s : Shared) (σ : St) (H : Hp) (Q : Bool → Hp → Prop), Inv X pins σ H s → t σ H Q → wpAny (model X.prog X.w) X.A (isTrue e X.env whole) (TP X pins σ Q) X.xe s
theorem PW.pt {X : Cx} {e : Expr} {t : TT} (h : PW X e t) : PT X e t := h _
/-- an argument list (no star), from the left -/
def PA (X : Cx) (es : List Expr) (t : TA) : Prop :=
  ∀ (pos : Pos) (pins : List (Addr × Obj)) (s : Shared) (σ : St) (H : Hp) (Q : List V → Hp → Prop), Inv X pins σ H s → t σ H Q → wpAny (model X.prog X.w) X.A (spliced (backTo pos (starEach es X.env))) (AP X pins σ Q) X.xe s
def PS (X : Cx) (st : Stmt) (t : TS) : Prop :=
  ∀ (pins : List (Addr × Obj)) (s : Shared) (σ : St) (H : Hp) (D : Ends), Inv X pins σ H s → t D σ H → wpAny (model X.prog X.w) X.A (exec st X.env) (SP X pins D) X.xe s
def PSs (X : Cx) (st : List Stmt) (t : TS) : Prop :=
  ∀ (pins : List (Addr × Obj)) (s : Shared) (σ : St) (H : Hp) (D : Ends), Inv X pins σ H s → t D σ H → wpAny (model X.prog X.w) X.A (execs st X.env) (SP X pins D) X.xe s
/-- weaken the end -/
theorem thn {α : Type} {t : Sem α} {Q Q' : α → Shared → Prop} {M : Model} {A : Around} {E : Value → Shared → Prop} {s : Shared} (h : wpAny M A t Q E s) (hQ : ∀ a s, Q a s → Q' a s) : wpAny M A t Q' E s := wpAny_mono h hQ fun _ _ x => x
end L2

namespace L2
open PySem PySem.Spec PyProof.Rows
section
variable {X : Cx}

/-! ### names and constants -/
def tVar (i : Nat) : TE := fun σ H Q => ∃ v, σ[i]? = some (some v) ∧ Q v H
def tC (v : V) : TE := fun _ H Q => Q v H
theorem pe_var {i : Nat} {x : Str} {pos : Pos} (hN : X.N[i]? = some x) (hv : Vis X.env.scope x) (hd : (x == ("__debug__" : Str)) = false := by decide) (hcd : (x == ("__classdict__" : Str)) = false := by decide) : PE X (.Name x pos) (tVar i) := by
  intro pins s σ H Q I h
  obtain ⟨v, e, h⟩ := h
  obtain ⟨m, hn, hl⟩ := I.loc
  obtain ⟨u, r, l⟩ := hl i x v hN e hv
  have fin : EP X pins σ Q u s := ⟨v, H, I, r, h⟩
  rcases l with ⟨hk, hm⟩ | ⟨hk, c, hc, hcell⟩
  · exact wpAny_Name (wpAny_loadName_local I.ok.kind hk hn hm fin) hd
  · rcases hk with hk | hk
    · exact wpAny_Name (wpAny_loadName_cell I.ok.kind hk hc hcell fin) hd
    · exact wpAny_Name (wpAny_loadName_free I.ok.kind hk hc hcell fin hcd) hd
theorem pe_int {i j pos} : PE X (.Constant (.int i) j pos) (tC (.int i)) := fun _ _ _ H _ I h => wpAny_Constant_int ⟨.int i, H, I.tok _, ⟨_, rfl⟩, h⟩
theorem pe_bl {b j pos} : PE X (.Constant (.bool b) j pos) (tC (.bl b)) := fun _ _ _ H _ I h => Constant_bool ⟨.bl b, H, I, rfl, h⟩
theorem pe_non {j pos} : PE X (.Constant .none j pos) (tC .non) := fun _ _ _ H _ I h => Constant_none ⟨.non, H, I, rfl, h⟩
theorem pe_str {x j pos} : PE X (.Constant (.str x) j pos) (tC (.str x)) := fun _ _ _ H _ I h => Calls.Constant_str ⟨.str x, H, I.tok _, ⟨_, rfl⟩, h⟩

/-- a global name of the def -/
def Gl (X : Cx) (x : Str) : Prop := X.env.kindOf x = some .globalImplicit
theorem ld_glob {E : Value → Shared → Prop} {pins : List (Addr × Obj)} {s : Shared} {σ : St} {H : Hp} {x : Str} {u : Value} {pos : Pos} {Q : Value → Shared → Prop} (I : Inv X pins σ H s) (hg : Gl X x) (hm : X.mg x = some u) (h : Q u s)
    (hd : (x == ("__debug__" : Str)) = false := by decide) : wpAny (model X.prog X.w) X.A (eval (.Name x pos) X.env) Q E s :=
  Calls.Name_function_global I.ok.kind hg (Calls.loadGlobal_global (by rw [I.ok.glob]; exact I.mod.glob.keeps I.bk) hm h) hd
theorem ld_blt {E : Value → Shared → Prop} {pins : List (Addr × Obj)} {s : Shared} {σ : St} {H : Hp} {x : Str} {u : Value} {pos : Pos} {Q : Value → Shared → Prop} (I : Inv X pins σ H s) (hg : Gl X x) (hm : X.mg x = none) (hv : bootBuiltins x = some u) (h : Q u s)
    (hn : x ≠ "__name__" := by decide) (hd : (x == ("__debug__" : Str)) = false := by decide) : wpAny (model X.prog X.w) X.A (eval (.Name x pos) X.env) Q E s := by
  obtain ⟨mb, h1, h2⟩ := I.mod.blt
  exact Calls.Name_function_global I.ok.kind hg (Calls.loadGlobal_builtin (by rw [I.ok.glob]; exact I.mod.glob.keeps I.bk) hm (by rw [I.ok.blt]; exact h1.keeps I.bk) ((h2 x hn).trans hv) h) hd
/-- a module's constant, a class, a function, as a value -/
theorem pe_glob {x : Str} {v : V} {u : Value} {pos : Pos} (hg : Gl X x) (hm : X.mg x = some u) (r : RelV v u) (hd : (x == ("__debug__" : Str)) = false := by decide) : PE X (.Name x pos) (tC v) :=
  fun _ _ _ H _ I h => ld_glob I hg hm ⟨v, H, I, r, h⟩ hd
theorem pe_bltn {x : Str} {v : V} {u : Value} {pos : Pos} (hg : Gl X x) (hm : X.mg x = none) (hv : bootBuiltins x = some u) (r : RelV v u) (hn : x ≠ "__name__" := by decide) (hd : (x == ("__debug__" : Str)) = false := by decide) : PE X (.Name x pos) (tC v) :=
  fun _ _ _ H _ I h => ld_blt I hg hm hv ⟨v, H, I, r, h⟩ hn hd

/-! ### arithmetic -/
/-- two ints -/
def t2I (ta tb : TE) (k : Int → Int → Hp → Prop) : St → Hp → Prop := fun σ H => ta σ H fun x H1 => tb σ H1 fun y H2 => ∃ i j, x = .int i ∧ y = .int j ∧ k i j H2
def tAdd (ta tb : TE) : TE := fun σ H Q => t2I ta tb (fun i j H2 => Q (.int (i + j)) H2) σ H
def tSub (ta tb : TE) : TE := fun σ H Q => t2I ta tb (fun i j H2 => Q (.int (i - j)) H2) σ H
/-- the left factor below 2^64 -/
def tMul (ta tb : TE) : TE := fun σ H Q => t2I ta tb (fun i j H2 => (-(2 ^ 64) < i ∧ i < 2 ^ 64) ∧ Q (.int (i * j)) H2) σ H
variable {a b : Expr} {ta tb : TE} {pos : Pos}
/-! ### comparisons -/
def PC (X : Cx) (op : CmpOp) (a b : Expr) (t : TE) : Prop :=
  ∀ (pins : List (Addr × Obj)) (s : Shared) (σ : St) (H : Hp) (Q : VK), Inv X pins σ H s → t σ H Q →
    wpAny (model X.prog X.w) X.A (eval a X.env) (fun v s₁ => wpAny (model X.prog X.w) X.A (eval b X.env) (fun u s₂ => wpAny (model X.prog X.w) X.A (compareOp op v u) (EP X pins σ Q) X.xe s₂) X.xe s₁) X.xe s
def tCmp (p : Int → Int → Bool) (ta tb : TE) : TE := fun σ H Q => t2I ta tb (fun i j H2 => Q (.bl (p i j)) H2) σ H
abbrev tLt : TE → TE → TE := tCmp fun i j => decide (i < j)
abbrev tLe : TE → TE → TE := tCmp fun i j => decide (i ≤ j)
abbrev tGt : TE → TE → TE := tCmp fun i j => decide (j < i)
abbrev tGe : TE → TE → TE := tCmp fun i j => decide (j ≤ i)
abbrev tEqI : TE → TE → TE := tCmp fun i j => decide (i = j)
abbrev tNeI : TE → TE → TE := tCmp fun i j => !decide (i = j)
/-- is None -/
def tIsN (ta : TE) : TE := fun σ H Q => ta σ H fun x H1 => Q (.bl (decide (x = .non))) H1
def tNotN (ta : TE) : TE := fun σ H Q => ta σ H fun x H1 => Q (.bl (!decide (x = .non))) H1
/-- a comparison as a value, as a test -/
def tB (t : TE) : TT := fun σ H Q => t σ H fun x H1 => ∃ c, x = .bl c ∧ Q c H1
/-! ### and, or, not -/
variable {tA tB' : TT} {rest : List Expr}
def tAnd (t u : TT) : TT := fun σ H Q => t σ H fun c H1 => if c = true then u σ H1 Q else Q false H1
def tOr (t u : TT) : TT := fun σ H Q => t σ H fun c H1 => if c = true then Q true H1 else u σ H1 Q
def tNot (t : TT) : TT := fun σ H Q => t σ H fun c H1 => Q (!c) H1
theorem pw_and1 (ha : PT X a tA) : PW X (.BoolOp .And [a] pos) tA := by
  intro wh pins s σ H Q I h
  refine isTrue_and (thn (ha pins s σ H Q I h) fun c s1 e => ?_)
  cases c with
  | true => exact isTrue_and_nil e
  | false => exact e
theorem pw_or1 (ha : PT X a tA) : PW X (.BoolOp .Or [a] pos) tA := by
  intro wh pins s σ H Q I h
  refine isTrue_or (thn (ha pins s σ H Q I h) fun c s1 e => ?_)
  cases c with
  | false => exact isTrue_or_nil e
  | true => exact e
theorem pw_and (ha : PT X a tA) (hb : PW X (.BoolOp .And (b :: rest) pos) tB') : PW X (.BoolOp .And (a :: b :: rest) pos) (tAnd tA tB') := by
  intro wh pins s σ H Q I h
  refine isTrue_and (thn (ha pins s σ H _ I h) fun c s1 ⟨H1, I1, q1⟩ => ?_)
  cases c with
  | true => exact hb wh pins s1 σ H1 Q I1 q1
  | false => exact ⟨H1, I1, q1⟩
theorem pw_or (ha : PT X a tA) (hb : PW X (.BoolOp .Or (b :: rest) pos) tB') : PW X (.BoolOp .Or (a :: b :: rest) pos) (tOr tA tB') := by
  intro wh pins s σ H Q I h
  refine isTrue_or (thn (ha pins s σ H _ I h) fun c s1 ⟨H1, I1, q1⟩ => ?_)
  cases c with
  | true => exact ⟨H1, I1, q1⟩
  | false => exact hb wh pins s1 σ H1 Q I1 q1
theorem pt_not (ha : PT X a tA) : PT X (.UnaryOp .Not a pos) (tNot tA) := by
  intro pins s σ H Q I h
  exact isTrue_not (ha pins s σ H (fun c H1 => Q (!c) H1) I h)
/-- .. as values (bools) -/
def tAndV (ta tb : TE) : TE := fun σ H Q => ta σ H fun x H1 => ∃ c, x = .bl c ∧ if c = true then tb σ H1 Q else Q (.bl false) H1
def tOrV (ta tb : TE) : TE := fun σ H Q => ta σ H fun x H1 => ∃ c, x = .bl c ∧ if c = true then Q (.bl true) H1 else tb σ H1 Q
def tNotV (ta : TE) : TE := fun σ H Q => ta σ H fun x H1 => ∃ c, x = .bl c ∧ Q (.bl (!c)) H1
theorem pe_one {op} {t : TE} (h : PE X a t) : PE X (.BoolOp op [a] pos) t := fun pins s σ H Q I hw => BoolOp_one (h pins s σ H Q I hw)
theorem pe_and (ha : PE X a ta) (hb : PE X (.BoolOp .And (b :: rest) pos) tb) : PE X (.BoolOp .And (a :: b :: rest) pos) (tAndV ta tb) := by
  intro pins s σ H Q I h
  refine BoolOp_and (thn (ha pins s σ H _ I h) fun v s1 ⟨x, H1, I1, r1, q1⟩ => ?_)
  obtain ⟨c, rfl, q1⟩ := q1
  cases r1
  refine wpAny_truthy_bool ?_
  cases c with
  | true => exact hb pins s1 σ H1 Q I1 q1
  | false => exact ⟨.bl false, H1, I1, rfl, q1⟩
theorem pe_not (ha : PE X a ta) : PE X (.UnaryOp .Not a pos) (tNotV ta) := by
  intro pins s σ H Q I h
  refine UnaryOp_ (thn (ha pins s σ H _ I h) fun v s1 ⟨x, H1, I1, r1, q1⟩ => ?_)
  obtain ⟨c, rfl, q1⟩ := q1
  cases r1
  exact not_of (wpAny_truthy_bool ⟨.bl (!c), H1, I1, rfl, q1⟩)
/-- a if t else b -/
def tIf (t : TT) (ta tb : TE) : TE := fun σ H Q => t σ H fun c H1 => if c = true then ta σ H1 Q else tb σ H1 Q
theorem pe_ifExp {c : Expr} (hc : PT X c tA) (ha : PE X a ta) (hb : PE X b tb) : PE X (.IfExp c a b pos) (tIf tA ta tb) := by
  intro pins s σ H Q I h
  refine wpAny_IfExp (thn (hc pins s σ H _ I h) fun d s1 ⟨H1, I1, q1⟩ => ?_)
  cases d with
  | true => exact ha pins s1 σ H1 Q I1 q1
  | false => exact hb pins s1 σ H1 Q I1 q1
end
end L2

namespace L2
open PySem PySem.Spec PyProof.Rows

/-! ### a list, a tuple that is read: tracked, frozen, or an object of the module -/
def SqL (K : PySem.W.Frag) (H : Hp) (a : Addr) (xs : List V) : Prop :=
  Rd H a (.lst xs) ∨
    ∃ (o : Obj) (its : Array Value) (n : Nat), K.lookup a = some o ∧ o.cls = .type "list" ∧ o.dict = none ∧ o.data = .seq its n ∧ its.size ≤ sizeLine ∧ Vals xs its.toList
def SqT (K : PySem.W.Frag) (H : Hp) (a : Addr) (xs : List V) : Prop :=
  Rd H a (.tup xs) ∨
    ∃ (o : Obj) (its : Array Value) (n : Nat), K.lookup a = some o ∧ o.cls = .type "tuple" ∧ o.data = .seq its n ∧ its.size ≤ sizeLine ∧ Vals xs its.toList
def absV : Value → Option V
  | .none => some .non
  | .bool b => some (.bl b)
  | .int i _ => some (.int i)
  | .str x _ => some (.str x)
  | .bytes b _ => some (.byt b)
  | .float b _ => some (.flt b)
  | .ref a => some (.ref a)
  | .type n => some (.ty n)
  | _ => none
theorem RelV.abs {x : V} {u : Value} (r : RelV x u) : absV u = some x := by
  cases x with
  | non => cases r; rfl
  | bl _ => cases r; rfl
  | int _ => obtain ⟨t, rfl⟩ := r; rfl
  | str _ => obtain ⟨t, rfl⟩ := r; rfl
  | byt _ => obtain ⟨t, rfl⟩ := r; rfl
  | flt _ => obtain ⟨t, rfl⟩ := r; rfl
  | ref _ => cases r; rfl
  | ty _ => cases r; rfl
theorem RelV.inj {x y : V} {u : Value} (r : RelV x u) (q : RelV y u) : x = y := Option.some.inj (r.abs.symm.trans q.abs)
theorem Vals.inj : ∀ {xs ys : List V} {us : List Value}, Vals xs us → Vals ys us → xs = ys
  | _, _, _, .nil, .nil => rfl
  | _, _, _, .cons r t, .cons r' t' => by rw [r.inj r', Vals.inj t t']
section
variable {X : Cx} {pins : List (Addr × Obj)} {σ : St} {H : Hp} {s : Shared} {a : Addr} {xs ys : List V}
theorem SqL.of {K : PySem.W.Frag} (h : H a = some (.lst xs)) : SqL K H a xs := .inl (.inl h)
theorem SqT.of {K : PySem.W.Frag} (h : H a = some (.tup xs)) : SqT K H a xs := .inl (.inl h)
theorem Inv.list (I : Inv X pins σ H s) (h : SqL X.K H a xs) : ∃ its : List Value, Vals xs its ∧ PlainL s.heap a its.toArray ∧ xs.length ≤ sizeLine := by
  rcases h with h | ⟨o, its, n, hk, hc, hd, hs, hz, r⟩
  · obtain ⟨z, its, n, r, e⟩ := h.ok I.hok
    exact ⟨its, r, ⟨_, n, e, rfl, rfl, rfl⟩, z⟩
  · refine ⟨its.toList, r, ⟨o, n, I.kIn a o hk, hc, hd, by simpa using hs⟩, ?_⟩
    have e := r.length
    simp only [Array.length_toList] at e
    omega
theorem Inv.tuple (I : Inv X pins σ H s) (h : SqT X.K H a xs) : ∃ its : List Value, Vals xs its ∧ IsTup s.heap a its.toArray ∧ xs.length ≤ sizeLine := by
  rcases h with h | ⟨o, its, n, hk, hc, hs, hz, r⟩
  · obtain ⟨z, its, r, p⟩ := h.ok I.hok
    exact ⟨its, r, p, z⟩
  · refine ⟨its.toList, r, ⟨o, I.kIn a o hk, hc, n, by simpa using hs⟩, ?_⟩
    have e := r.length
    simp only [Array.length_toList] at e
    omega
theorem Inv.list_inj (I : Inv X pins σ H s) (h : SqL X.K H a xs) (h' : SqL X.K H a ys) : xs = ys := by
  obtain ⟨its, r, ⟨o, n, e, _, _, d⟩, _⟩ := I.list h
  obtain ⟨its', r', ⟨o', n', e', _, _, d'⟩, _⟩ := I.list h'
  rw [e] at e'; cases e'
  rw [d] at d'
  injection d' with d1 _
  have : its = its' := by simpa using congrArg Array.toList d1
  subst this
  exact r.inj r'
end

/-! ### another wish about exceptions -/
abbrev Cx.wish (X : Cx) (E : Value → Shared → Prop) : Cx := { X with xe := E }
/-- no exception leaves -/
abbrev Cx.nox (X : Cx) : Cx := X.wish fun _ _ => False
section
variable {X : Cx} {pins : List (Addr × Obj)} {σ : St} {H : Hp} {s : Shared} {E : Value → Shared → Prop}
end

/-! ### blocks and small statements -/
section
variable {X : Cx} {st : Stmt} {rest : List Stmt} {t u : TS} {e : Expr} {te : TE} {pos : Pos}
def tNext : TS := fun D σ H => D.nx σ H
def tSeq (t u : TS) : TS := fun D σ H => t { D with nx := u D } σ H
theorem pss_nil : PSs X [] tNext := fun _ _ σ H _ I h => wpAny_execs_nil ⟨σ, H, I, h⟩
theorem pss_cons (h1 : PS X st t) (h2 : PSs X rest u) : PSs X (st :: rest) (tSeq t u) := by
  intro pins s σ H D I h
  refine wpAny_execs_cons (thn (h1 pins s σ H { D with nx := u D } I h) fun f s1 q => ?_)
  cases f with
  | next =>
    obtain ⟨σ', H', I', q⟩ := q
    exact h2 pins s1 σ' H' D I' q
  | ret v => exact q
  | brk => exact q
  | cont => exact q
theorem pss_one (h1 : PS X st t) : PSs X [st] t := by
  intro pins s σ H D I h
  refine wpAny_execs_cons (thn (h1 pins s σ H D I h) fun f s1 q => ?_)
  cases f with
  | next => exact wpAny_execs_nil q
  | ret v => exact q
  | brk => exact q
  | cont => exact q
def tBreak : TS := fun D σ H => D.bk σ H
def tCont : TS := fun D σ H => D.ct σ H
/-- in a def's body nothing is shown -/
theorem Inv.quiet {pins : List (Addr × Obj)} {σ : St} {H : Hp} {s : Shared} (I : Inv X pins σ H s) : interactive X.env = false := by simp [interactive, I.ok.kind]
/-- an expression whose value is dropped -/
def tDrop (te : TE) : TS := fun D σ H => te σ H fun _ H1 => D.nx σ H1
theorem ps_expr (he : PE X e te) (hs : swapsWith e none pos.line X.env = pure false := by rfl) : PS X (.Expr e pos) (tDrop te) := by
  intro pins s σ H D I h
  exact wpAny_Expr_any (thn (he pins s σ H _ I h) fun v s1 ⟨x, H1, I1, r1, q1⟩ => ⟨σ, H1, I1, q1⟩) I.quiet hs
def tRet (te : TE) : TS := fun D σ H => te σ H D.rt
theorem ps_ret (he : PE X e te) : PS X (.Return (some e) pos) (tRet te) := by
  intro pins s σ H D I h
  exact wpAny_Return_some (thn (he pins s σ H _ I h) fun v s1 ⟨x, H1, I1, r1, q1⟩ => ⟨x, σ, H1, I1, r1, q1⟩)
def tRetN : TS := fun D _ H => D.rt .non H
def tIfS (c : TT) (t u : TS) : TS := fun D σ H => c σ H fun b H1 => if b = true then t D σ H1 else u D σ H1
theorem ps_if {c : Expr} {a b : List Stmt} {tc : TT} (hc : PT X c tc) (ha : PSs X a t) (hb : PSs X b u) : PS X (.If c a b pos) (tIfS tc t u) := by
  intro pins s σ H D I h
  refine wpAny_If (thn (hc pins s σ H _ I h) fun d s1 ⟨H1, I1, q1⟩ => ?_)
  cases d with
  | true => exact ha pins s1 σ H1 D I1 q1
  | false => exact hb pins s1 σ H1 D I1 q1
/-- code that the proof never comes to -/
def tNever : TS := fun _ _ _ => False
end

/-! ### targets -/
abbrev TG := V → St → Hp → (St → Hp → Prop) → Prop
abbrev TGs := List V → St → Hp → (St → Hp → Prop) → Prop
def PG (X : Cx) (target : Expr) (t : TG) : Prop :=
  ∀ (pins : List (Addr × Obj)) (s : Shared) (σ : St) (H : Hp) (v : V) (u : Value) (Q : St → Hp → Prop), Inv X pins σ H s → RelV v u → t v σ H Q →
    wpAny (model X.prog X.w) X.A (assign target X.env u) (fun _ s' => ∃ σ' H', Inv X pins σ' H' s' ∧ Q σ' H') X.xe s
/-- several targets, one after another -/
def PGs (X : Cx) (ts : List Expr) (t : TGs) : Prop :=
  ∀ (pins : List (Addr × Obj)) (s : Shared) (σ : St) (H : Hp) (vs : List V) (us : List Value) (Q : St → Hp → Prop), Inv X pins σ H s → Vals vs us → t vs σ H Q →
    wpAny (model X.prog X.w) X.A (assignInOrder ((assignEach ts X.env).map (·.2)) us) (fun _ s' => ∃ σ' H', Inv X pins σ' H' s' ∧ Q σ' H') X.xe s
/-- o[i] = v, by values -/
abbrev TSet := V → V → V → Hp → (Hp → Prop) → Prop
def PSet (X : Cx) (t : TSet) : Prop :=
  ∀ (pins : List (Addr × Obj)) (s : Shared) (σ : St) (H : Hp) (o i v : V) (ov iv u : Value) (Q : Hp → Prop), Inv X pins σ H s → RelV o ov → RelV i iv → RelV v u → t o i v H Q →
    wpAny (model X.prog X.w) X.A (setItem ov iv u) (fun _ s' => ∃ H', Inv X pins σ H' s' ∧ Q H') X.xe s
/-- a op= b, by values -/
abbrev TIp := V → V → Hp → VK → Prop
def PIp (X : Cx) (op : Operator) (t : TIp) : Prop :=
  ∀ (pins : List (Addr × Obj)) (s : Shared) (σ : St) (H : Hp) (x y : V) (v u : Value) (Q : VK), Inv X pins σ H s → RelV x v → RelV y u → t x y H Q →
    wpAny (model X.prog X.w) X.A (inplaceOp op v u) (EP X pins σ Q) X.xe s
section
variable {X : Cx} {pos : Pos}
def gName (i : Nat) : TG := fun v σ H Q => Q (σ.set i (some v)) H
theorem pg_name {i : Nat} {x : Str} (hN : X.N.Nodup) (hi : X.N[i]? = some x) (hx : Loc X.env.scope x) (hf : X.fn x = true ∨ X.env.scope.names.lookup x = some .local := by first | exact .inl rfl | exact .inr rfl | assumption) : PG X (.Name x pos) (gName i) := by
  intro pins s σ H v u Q I r h
  exact wpAny_assign_Name (store_ok I hN hi hx r (fun s' I' => ⟨_, H, I', h⟩) hf)
def gNil : TGs := fun vs σ H Q => vs = [] ∧ Q σ H
def gCons (t : TG) (u : TGs) : TGs := fun vs σ H Q => ∃ v r, vs = v :: r ∧ t v σ H fun σ' H' => u r σ' H' Q
theorem pgs_nil : PGs X [] gNil := by
  intro pins s σ H vs us Q I r h
  obtain ⟨e, h⟩ := h
  subst e
  cases r
  exact assignInOrder_nil ⟨σ, H, I, h⟩
theorem pgs_cons {e : Expr} {es : List Expr} {t : TG} {u : TGs} (h1 : PG X e t) (h2 : PGs X es u)
    (hs : (assignEach (e :: es) X.env).map (·.2) = assign e X.env :: (assignEach es X.env).map (·.2) := by rfl) : PGs X (e :: es) (gCons t u) := by
  intro pins s σ H vs us Q I r h
  obtain ⟨v, vr, e1, h⟩ := h
  subst e1
  cases r with
  | cons r rr =>
    rw [hs]
    refine assignInOrder_cons (thn (h1 pins s σ H _ _ _ I r h) fun _ s1 ⟨σ1, H1, I1, q1⟩ => ?_)
    exact h2 pins s1 σ1 H1 _ _ Q I1 rr q1
/-- (a, b, ..) = a tuple of that length -/
def gTup (K : PySem.W.Frag) (n : Nat) (t : TGs) : TG := fun v σ H Q => ∃ a xs, v = .ref a ∧ SqT K H a xs ∧ xs.length = n ∧ t xs σ H Q
theorem pg_tup {es : List Expr} {k : Nat} {t : TGs} {n : Nat} (hc : X.calm = true) (h : PGs X es t)
    (hn : (assignEach es X.env).length = n := by rfl) (hst : (assignEach es X.env).findIdx? (·.1) = none := by rfl) : PG X (.Tuple es k pos) (gTup X.K n t) := by
  intro pins s σ H v u Q I r hw
  obtain ⟨a, xs, e1, hq, hl, hw⟩ := hw
  subst e1
  cases r
  obtain ⟨its, rv, ht, hz⟩ := I.tuple hq
  refine assign_Tuple_tuple (I.ok.hd hc) ht (by simp [hn, ← hl, rv.length]) hst fun h' hx => ?_
  have I1 : Inv X pins σ H { s with heap := h' } := I.kept (t' := s.toks) fun b o e => hx b o (Nat.ne_of_lt (Heap.lt_size e)) e
  exact h pins _ σ H xs _ Q I1 (by simpa using rv) hw
/-- o[i] = .. -/
def gSub (to ti : TE) (t : TSet) : TG := fun v σ H Q => to σ H fun o H1 => ti σ H1 fun i H2 => t o i v H2 fun H3 => Q σ H3
/-- target = value -/
def tAsg (te : TE) (g : TG) : TS := fun D σ H => te σ H fun x H1 => g x σ H1 D.nx
/-- name = value -/
theorem ps_set {i : Nat} {x : Str} {e : Expr} {te : TE} {pos' : Pos} (hN : X.N.Nodup) (hi : X.N[i]? = some x) (hx : Loc X.env.scope x) (he : PE X e te) (hs : swapsWith e (some (.Name x pos')) pos.line X.env = pure false := by rfl) (hf : X.fn x = true ∨ X.env.scope.names.lookup x = some .local := by first | exact .inl rfl | exact .inr rfl | assumption) :
    PS X (.Assign [.Name x pos'] e pos) (tAsg te (gName i)) := by
  intro pins s σ H D I h
  refine wpAny_Assign_Name (thn (he pins s σ H _ I h) fun v s1 ⟨y, H1, I1, r1, q1⟩ => ?_) hs
  exact store_ok I1 hN hi hx r1 (fun s2 I2 => ⟨_, H1, I2, q1⟩) hf
/-- a, b = x, y with plain local names: stored from the right; the pair itself is not tracked (the opening rows as in PyProof/Rows/TupAssign.lean:23) -/
def tPar (i j : Nat) (ta : TA) : TS := fun D σ H => ta σ H fun vs H1 => ∃ v w, vs = [v, w] ∧ D.nx ((σ.set i (some v)).set j (some w)) H1
/-- name op= e -/
def tAug (i : Nat) (te : TE) (ti : TIp) : TS := fun D σ H => ∃ x, σ[i]? = some (some x) ∧ te σ H fun y H1 => ti x y H1 fun z H2 => D.nx (σ.set i (some z)) H2
/-- o[i] op= e -/
def tAugS (to ti te : TE) (tget : V → V → Hp → VK → Prop) (tip : TIp) (tset : TSet) : TS := fun D σ H => to σ H fun o H1 => ti σ H1 fun i H2 => tget o i H2 fun x H3 => te σ H3 fun y H4 => tip x y H4 fun z H5 => tset o i z H5 fun H6 => D.nx σ H6
/-- o[i], by values -/
def PGet (X : Cx) (t : V → V → Hp → VK → Prop) : Prop :=
  ∀ (pins : List (Addr × Obj)) (s : Shared) (σ : St) (H : Hp) (o i : V) (ov iv : Value) (Q : VK), Inv X pins σ H s → RelV o ov → RelV i iv → t o i H Q →
    wpAny (model X.prog X.w) X.A (getItem ov iv) (EP X pins σ Q) X.xe s
/-- ints -/
def ipI (f : Int → Int → Int) : TIp := fun x y H Q => ∃ i j, x = .int i ∧ y = .int j ∧ Q (.int (f i j)) H
end

/-! ### while -/
section
variable {X : Cx} {pos : Pos}
/-- the invariant W with its measure -/
def tWhile (c : TT) (tb : TS) : TS := fun D σ H => ∃ W : Nat → St → Hp → Prop, (∃ m, W m σ H) ∧ ∀ m σ H, W m σ H →
  c σ H fun b H1 => if b = true then ∃ N : St → Hp → Prop, (∀ σ' H', N σ' H' → ∃ m', m' < m ∧ W m' σ' H') ∧ tb { D with nx := N, ct := N, bk := D.nx } σ H1 else D.nx σ H1
theorem ps_while {c : Expr} {body : List Stmt} {tc : TT} {tb : TS} (hp : PassesOwn (model X.prog X.w) X.A X.env X.xe) (hc : PT X c tc) (hb : PSs X body tb) : PS X (.While c body [] pos) (tWhile tc tb) := by
  intro pins s σ H D I h
  obtain ⟨W, ⟨m0, w0⟩, turn⟩ := h
  refine wpAny_While (codeAny_whileLoop (fun n s' => ∃ σ' H', Inv X pins σ' H' s' ∧ W n σ' H') ?_ m0 ⟨σ, H, I, w0⟩)
  rintro n s1 ⟨σ1, H1, I1, w1⟩
  refine wpAny_passesOwn hp (thn (hc pins s1 σ1 H1 _ I1 (turn n σ1 H1 w1)) fun b s2 ⟨H2, I2, q2⟩ => ?_)
  cases b with
  | true =>
    obtain ⟨N, hN, q2⟩ := q2
    rw [if_pos rfl]
    refine wpAny_passesOwn hp (thn (hb pins s2 σ1 H2 _ I2 q2) fun f s3 q3 => ?_)
    cases f with
    | next =>
      obtain ⟨σ3, H3, I3, n3⟩ := q3
      obtain ⟨m', hm, w3⟩ := hN σ3 H3 n3
      exact ⟨m', hm, σ3, H3, I3, w3⟩
    | cont =>
      obtain ⟨σ3, H3, I3, n3⟩ := q3
      obtain ⟨m', hm, w3⟩ := hN σ3 H3 n3
      exact ⟨m', hm, σ3, H3, I3, w3⟩
    | brk => exact q3
    | ret v => exact q3
  | false =>
    rw [if_neg Bool.false_ne_true]
    exact wpAny_execs_nil ⟨σ1, H2, I2, q2⟩
end

/-! ### what a loop or a comprehension walks -/
/-- at turn i: it yields x (the heap may grow), or it stops -/
structure It where
  go : Nat → Hp → Prop
  yld : Nat → Hp → V → Hp → Prop
  stop : Nat → Hp → Prop
/-- the iterator's own objects may turn: they are not the frame's, not pinned, younger than the entry (or a comprehension's own) -/
def FpOk (X : Cx) (pins : List (Addr × Obj)) (H : Hp) (b : Addr) : Prop :=
  H b = none ∧ b ≠ X.env.locals ∧ b ∉ X.fs ∧ (b ∈ X.ex ∨ X.s₀.heap.get? b = none) ∧ (∀ x c, X.env.cells.lookup x = some c → c ≠ b) ∧ ∀ p ∈ X.pn ++ pins, p.1 ≠ b
theorem Inv.fpOk {X : Cx} {pins : List (Addr × Obj)} {σ : St} {H H' : Hp} {s : Shared} {b : Addr} (I : Inv X pins σ H s) (hb : s.heap.objs.size ≤ b) (hn : H' b = none) : FpOk X pins H' b := by
  refine ⟨hn, Nat.ne_of_gt (Nat.lt_of_lt_of_le I.lt hb), I.nofs hb, .inr (Heap.get?_none_of_le (Nat.le_trans I.sz hb)), fun x c e z => ?_, fun p hp z => ?_⟩
  · obtain ⟨v, q⟩ := I.cell x c e
    exact absurd (Nat.lt_of_lt_of_le q.lt (by rw [z]; exact hb)) (Nat.lt_irrefl _)
  · exact absurd (Nat.lt_of_lt_of_le (Heap.lt_size (I.pin p hp).1) (by rw [z]; exact hb)) (Nat.lt_irrefl _)
structure Turn (P : Program) (w : World) (K : PySem.W.Frag) (tg : Expr) (J : It) (fp : List Addr) (it : Addr) (tn : Nat → Heap → Prop) : Prop where
  mem : it ∈ fp
  obj : ∀ i h, tn i h → ∀ b ∈ fp, ∃ o, h.get? b = some o ∧ ∀ v, o.data ≠ .cell v
  keep : ∀ i h h', tn i h → (∀ b ∈ fp, ∀ o, h.get? b = some o → h'.get? b = some o) → tn i h'
  item : ∀ (X : Cx), X.prog = P → X.w = w → X.K = K → X.calm = true → ∀ (i : Nat) (pins : List (Addr × Obj)) (s : Shared) (σ : St) (H : Hp) (E : Value → Shared → Prop), Inv X pins σ H s → (∀ b ∈ fp, FpOk X pins H b) → tn i s.heap → J.go i H →
    wpAny (model P w) X.A (pyNext (.ref it)) (fun r s1 => ∃ u, r = some u ∧
      wpAny (model P w) X.A (letOwnedTupleGo tg (.ref it) u) (fun _ s2 => ∃ x H', Inv X pins σ H' s2 ∧ RelV x u ∧ J.yld i H x H' ∧ tn (i + 1) s2.heap ∧ ∀ b ∈ fp, H' b = none) E s1) E s
  done : ∀ (X : Cx), X.prog = P → X.w = w → X.K = K → X.calm = true → ∀ (i : Nat) (pins : List (Addr × Obj)) (s : Shared) (σ : St) (H : Hp) (E : Value → Shared → Prop), Inv X pins σ H s → (∀ b ∈ fp, FpOk X pins H b) → tn i s.heap → J.stop i H →
    wpAny (model P w) X.A (pyNext (.ref it)) (fun r s1 => r = none ∧ Inv X pins σ H s1) E s
  self : ∀ (A : Around) (i : Nat) (s : Shared) (Q : Value → Shared → Prop) (E : Value → Shared → Prop), tn i s.heap → Q (.ref it) s → wpAny (model P w) A (pyIter (.ref it)) Q E s
abbrev TI := St → Hp → (It → Hp → Prop) → Prop
/-- an iterator has come -/
def PIE (X : Cx) (pins : List (Addr × Obj)) (σ : St) (tg : Expr) (R : It → Hp → Prop) (itv : Value) (s2 : Shared) : Prop :=
  ∃ (it : Addr) (fp : List Addr) (tn : Nat → Heap → Prop) (J : It) (H' : Hp), itv = .ref it ∧ Inv X pins σ H' s2 ∧ Turn X.prog X.w X.K tg J fp it tn ∧ tn 0 s2.heap ∧ (∀ b ∈ fp, FpOk X pins H' b) ∧ R J H'
def PI (X : Cx) (tg iter : Expr) (wi : TI) : Prop :=
  ∀ (pins : List (Addr × Obj)) (s : Shared) (σ : St) (H : Hp) (R : It → Hp → Prop), Inv X pins σ H s → wi σ H R →
    wpAny (model X.prog X.w) X.A (eval iter X.env) (fun v s1 => wpAny (model X.prog X.w) X.A (pyIter v) (PIE X pins σ tg R) X.xe s1) X.xe s

/-- the step ahead of the store is nothing for an iterator that keeps no tuple -/
theorem go_of {M : Model} {A : Around} {E : Value → Shared → Prop} {s : Shared} {tg : Expr} {it : Addr} {u : Value} {o : Obj} {n : String} {vs : Array Value} {Q : Unit → Shared → Prop} (ho : s.heap.get? it = some o) (hc : o.cls = .type n) (hd : o.data = .fields vs)
    (hn : ["enumerate", "zip", "dict_itemiterator", "dict_reverseitemiterator", "odict_iterator", "itertools.zip_longest", "itertools.pairwise"].contains n = false) (hQ : Q () s) : wpAny M A (letOwnedTupleGo tg (.ref it) u) Q E s := by
  unfold letOwnedTupleGo
  cases tg <;> first
    | exact wpAny_pure hQ
    | (cases u <;> first
        | exact wpAny_pure hQ
        | (refine wpAny_bind (wpAny_load ho ?_)
           rw [hc, hd]
           show wpAny M A (if (["enumerate", "zip", "dict_itemiterator", "dict_reverseitemiterator", "odict_iterator", "itertools.zip_longest", "itertools.pairwise"].contains n && vs[0]? == some (rawInt _)) = true then _ else _) Q E s
           rw [if_neg (by intro h; rw [hn, Bool.false_and] at h; cases h)]
           exact wpAny_pure hQ))

/-- the list at a, as it stands at each turn (a loop may append to it) -/
def Itl (K : PySem.W.Frag) (a : Addr) : It :=
  ⟨fun i H => ∃ xs x, SqL K H a xs ∧ xs[i]? = some x, fun i H x H' => H' = H ∧ ∀ xs, SqL K H a xs → xs[i]? = some x, fun i H => ∃ xs, SqL K H a xs ∧ xs.length ≤ i⟩
def Itt (K : PySem.W.Frag) (a : Addr) : It :=
  ⟨fun i H => ∃ xs x, SqT K H a xs ∧ xs[i]? = some x, fun i H x H' => H' = H ∧ ∀ xs, SqT K H a xs → xs[i]? = some x, fun i H => ∃ xs, SqT K H a xs ∧ xs.length ≤ i⟩
/-- lo, lo + 1, .. (n of them) -/
def Itr (lo : Int) (n : Nat) : It := ⟨fun i _ => i < n, fun i H x H' => H' = H ∧ x = .int (lo + i), fun i _ => n ≤ i⟩
theorem turn_list {P : Program} {w : World} {K : PySem.W.Frag} {tg : Expr} (a it : Addr) : Turn P w K tg (Itl K a) [it] it (fun i h => h.IsListIter it a i) where
  mem := by simp
  obj := fun i h st b hb => by
    have e : b = it := by simpa using hb
    subst e
    obtain ⟨o, e, c, d⟩ := st
    exact ⟨o, e, fun v z => by rw [d] at z; cases z⟩
  keep := fun i h h' st k => st.at fun o e => k it (by simp) o e
  item := by
    intro X hP hw hK hc i pins s σ H E I hf st hg
    subst hP hw hK
    obtain ⟨xs, x, hq, hx⟩ := hg
    obtain ⟨its, rv, p, hz⟩ := I.list hq
    obtain ⟨u, hu, ru⟩ := rv.get hx
    obtain ⟨f0, f1, f2, f3, f4, f5⟩ := hf it (by simp)
    refine wpAny_pyNext_list_item st p.isList (x := u) (by simpa using hu) fun h' st' sb => ?_
    have I1 : Inv X pins σ H { s with heap := h' } := I.turned (t' := s.toks) (fun b o hb e => (sb.2 b hb).trans e) f0 f1 f3 f4 f5
    obtain ⟨o, e, c, d⟩ := id st'
    exact ⟨u, rfl, go_of (s := { s with heap := h' }) e c d (by decide) ⟨x, H, I1, ru, ⟨rfl, fun ys hy => by rw [I.list_inj hy hq]; exact hx⟩, st', fun b hb => (hf b hb).1⟩⟩
  done := by
    intro X hP hw hK hc i pins s σ H E I hf st hg
    subst hP hw hK
    obtain ⟨xs, hq, hx⟩ := hg
    obtain ⟨its, rv, p, hz⟩ := I.list hq
    obtain ⟨f0, f1, f2, f3, f4, f5⟩ := hf it (by simp)
    have hl := rv.length
    exact wpAny_pyNext_list_end (I.ok.hd hc) st p.isList (by simp; omega) fun h' eb => ⟨rfl, I.turned (t' := s.toks) (fun b o hb e => eb b o hb e) f0 f1 f3 f4 f5⟩
  self := fun _ _ _ _ _ st h => wpAny_pyIter_listiter st h
theorem turn_range {P : Program} {w : World} {K : PySem.W.Frag} {tg : Expr} (it : Addr) (lo : Int) (n : Nat) : Turn P w K tg (Itr lo n) [it] it (fun i h => IsRangeIter h it (lo + (i : Nat) * 1) ((n : Int) - (i : Nat)) 1) where
  mem := by simp
  obj := fun i h st b hb => by
    have e : b = it := by simpa using hb
    subst e
    exact ⟨_, st, fun v z => by
      have z' : Data.fields _ = Data.cell v := z
      cases z'⟩
  keep := fun i h h' st k => k it (by simp) _ st
  item := by
    intro X hP hw hK hc i pins s σ H E I hf st hg
    subst hP hw hK
    obtain ⟨f0, f1, f2, f3, f4, f5⟩ := hf it (by simp)
    have W := Walks.range (prog := X.prog) (w := X.w) (I.ok.hd hc) it lo 1 n
    refine W.item i s _ _ hg st fun v h' tk hv st' kk => ?_
    obtain ⟨t, rfl⟩ := hv
    have I1 : Inv X pins σ H { s with heap := h', toks := tk } := I.turned (fun b o hb e => kk b o (by simpa using hb) e) f0 f1 f3 f4 f5
    refine ⟨_, rfl, go_of (s := { s with heap := h', toks := tk }) (n := "range_iterator") st' rfl rfl (by decide) ⟨.int (lo + i), H, I1, ⟨t, ?_⟩, ⟨rfl, rfl⟩, st', fun b hb => (hf b hb).1⟩⟩
    rw [Int.mul_one]
  done := by
    intro X hP hw hK hc i pins s σ H E I hf st hg
    subst hP hw hK
    obtain ⟨f0, f1, f2, f3, f4, f5⟩ := hf it (by simp)
    exact wpAny_pyNext_range_end (I.ok.hd hc) st (by have : n ≤ i := hg; omega) fun h' eb => ⟨rfl, I.turned (t' := s.toks) (fun b o hb e => eb b o hb e) f0 f1 f3 f4 f5⟩
  self := fun _ _ _ _ _ st h => wpAny_pyIter_rangeiter st h
end L2

namespace L2
open PySem PySem.Spec PyProof.Rows
section
variable {X : Cx} {tg : Expr}
def iList (K : PySem.W.Frag) (tl : TE) : TI := fun σ H R => tl σ H fun x H1 => ∃ a, x = .ref a ∧ (∃ xs, SqL K H1 a xs) ∧ R (Itl K a) H1
def iTup (K : PySem.W.Frag) (tl : TE) : TI := fun σ H R => tl σ H fun x H1 => ∃ a, x = .ref a ∧ (∃ xs, SqT K H1 a xs) ∧ R (Itt K a) H1
theorem pi_list {l : Expr} {tl : TE} (hl : PE X l tl) : PI X tg l (iList X.K tl) := by
  intro pins s σ H R I h
  refine thn (hl pins s σ H _ I h) fun v s1 ⟨x, H1, I1, r1, q1⟩ => ?_
  obtain ⟨a, e, ⟨xs, hq⟩, q⟩ := q1
  subst e
  cases r1
  obtain ⟨its, rv, p, hz⟩ := I1.list hq
  refine wpAny_pyIter_list p.isList ?_
  refine ⟨s1.heap.objs.size, [s1.heap.objs.size], _, _, H1, rfl, I1.kept (t' := s1.toks) fun b o e => Heap.get?_push_of_some _ e, turn_list a _, ⟨_, Heap.get?_push_size _ rfl, rfl, rfl⟩, fun b hb => ?_, q⟩
  have e : b = s1.heap.objs.size := by simpa using hb
  subst e
  exact I1.fpOk (Nat.le_refl _) (I1.hok.fresh (Nat.le_refl _))
/-- a range object just made, walked -/
theorem range_it {pins : List (Addr × Obj)} {σ : St} {H : Hp} {s : Shared} {R : It → Hp → Prop} {E : Value → Shared → Prop} {lo hi : Int} {t u v : Tok} {tk : Nat} (I : Inv X pins σ H s) (h1 : -(2 ^ 62) ≤ lo) (h2 : lo < 2 ^ 62) (h3 : -(2 ^ 62) ≤ hi) (h4 : hi < 2 ^ 62)
    (q : R (Itr lo (hi - lo).toNat) H) : wpAny (model X.prog X.w) X.A (pyIter (.ref s.heap.objs.size)) (PIE X pins σ tg R) E { s with heap := s.heap.push { cls := .type "range", data := .fields #[.int lo t, .int hi u, .int 1 v] }, toks := tk } := by
  refine wpAny_pyIter_range (IsRange.new ..) (small_one h1 h2 h3 h4) ?_
  have I1 : Inv X pins σ H { s with heap := s.heap.push { cls := .type "range", data := .fields #[.int lo t, .int hi u, .int 1 v] }, toks := tk } := I.kept fun b o e => Heap.get?_push_of_some _ e
  refine ⟨(s.heap.push { cls := .type "range", data := .fields #[.int lo t, .int hi u, .int 1 v] }).objs.size, [(s.heap.push { cls := .type "range", data := .fields #[.int lo t, .int hi u, .int 1 v] }).objs.size], _, _, H, rfl,
    I1.kept (t' := tk) fun b o e => Heap.get?_push_of_some _ e, turn_range _ lo (hi - lo).toNat, ?_, fun b hb => ?_, q⟩
  · have e1 : lo + ((0 : Nat) : Int) * 1 = lo := by simp
    have e2 : (((hi - lo).toNat : Nat) : Int) - ((0 : Nat) : Int) = Builtin.Range.rangeSize lo hi 1 := by rw [rangeSize_one]; split <;> omega
    show IsRangeIter _ _ (lo + ((0 : Nat) : Int) * 1) ((((hi - lo).toNat : Nat) : Int) - ((0 : Nat) : Int)) 1
    rw [e1, e2]
    exact Heap.get?_push_size _ rfl
  · have e : b = (s.heap.push { cls := .type "range", data := .fields #[.int lo t, .int hi u, .int 1 v] }).objs.size := by simpa using hb
    subst e
    exact I1.fpOk (Nat.le_refl _) (I1.hok.fresh (Nat.le_refl _))
def iRng1 (ta : TA) : TI := fun σ H R => ta σ H fun vs H1 => ∃ j : Int, vs = [.int j] ∧ -(2 ^ 62) ≤ j ∧ j < 2 ^ 62 ∧ R (Itr 0 j.toNat) H1
def iRng2 (ta : TA) : TI := fun σ H R => ta σ H fun vs H1 => ∃ i j : Int, vs = [.int i, .int j] ∧ (-(2 ^ 62) ≤ i ∧ i < 2 ^ 62 ∧ -(2 ^ 62) ≤ j ∧ j < 2 ^ 62) ∧ R (Itr i (j - i).toNat) H1
theorem pi_range1 {a : Expr} {ta : TA} {p pos : Pos} (hg : Gl X "range") (hm : X.mg "range" = none) (ha : PA X [a] ta) (hs : starEach [a] X.env = [(false, eval a X.env)] := by rfl) : PI X tg (.Call (.Name "range" p) [a] [] pos) (iRng1 ta) := by
  intro pins s σ H R I h
  refine Call_ (ld_blt I hg hm boot_range (PyProof.Rows.callWith_type1 (thn (ha pos pins s σ H _ I h) fun us s1 ⟨vs, H1, I1, r1, q1⟩ => ?_) hs rfl))
  obtain ⟨j, e, q1, q2, q⟩ := q1
  subst e
  cases r1 with
  | cons r rr =>
    cases rr
    obtain ⟨t, rfl⟩ := r
    exact call_range_1 (range_it I1 (by omega) (by omega) q1 q2 (by simpa using q))
/-! ### for -/
/-- W: the invariant by the turn and a measure; N: what the body is to reach -/
def tFor (wi : TI) (g : TG) (tb : TS) : TS := fun D σ H => wi σ H fun J H1 => ∃ W : Nat → Nat → St → Hp → Prop, (∃ m, W 0 m σ H1) ∧ ∀ i m σ H, W i m σ H →
  (J.stop i H ∧ D.nx σ H) ∨ (J.go i H ∧ ∃ N : St → Hp → Prop, (∀ σ' H', N σ' H' → ∃ m', m' < m ∧ W (i + 1) m' σ' H') ∧ ∀ x H', J.yld i H x H' → g x σ H' fun σ2 H2 => tb { D with nx := N, ct := N, bk := D.nx } σ2 H2)
/-- the records at fp as they stand -/
def pinsAt (fp : List Addr) (h : Heap) : List (Addr × Obj) := fp.filterMap fun b => (h.get? b).map fun o => (b, o)
theorem mem_pinsAt {fp : List Addr} {h : Heap} {b : Addr} {o : Obj} (hb : b ∈ fp) (e : h.get? b = some o) : (b, o) ∈ pinsAt fp h := List.mem_filterMap.mpr ⟨b, hb, by rw [e]; rfl⟩
theorem of_pinsAt {fp : List Addr} {h : Heap} {p : Addr × Obj} (hp : p ∈ pinsAt fp h) : p.1 ∈ fp ∧ h.get? p.1 = some p.2 := by
  obtain ⟨b, hb, e⟩ := List.mem_filterMap.mp hp
  cases q : h.get? b with
  | none => rw [q] at e; cases e
  | some o =>
    rw [q] at e
    have e' : (b, o) = p := Option.some.inj e
    subst e'
    exact ⟨hb, q⟩
theorem Inv.pinned {pins : List (Addr × Obj)} {σ : St} {H : Hp} {s : Shared} {fp : List Addr} (I : Inv X pins σ H s) (hf : ∀ b ∈ fp, FpOk X pins H b) (ho : ∀ b ∈ fp, ∃ o, s.heap.get? b = some o ∧ ∀ v, o.data ≠ .cell v) : Inv X (pins ++ pinsAt fp s.heap) σ H s :=
  I.pins_of fun p hp => (List.mem_append.mp hp).elim (fun z => I.pin p (List.mem_append_right _ z)) fun z => by
    obtain ⟨hb, e⟩ := of_pinsAt z
    obtain ⟨f0, f1, f2, _⟩ := hf p.1 hb
    obtain ⟨o, e', d⟩ := ho p.1 hb
    rw [e] at e'; cases e'
    exact ⟨e, f0, f1, f2, d⟩
theorem Inv.unpinned {pins pl : List (Addr × Obj)} {σ : St} {H : Hp} {s : Shared} (I : Inv X (pins ++ pl) σ H s) : Inv X pins σ H s := I.pins_of fun p hp => I.pin p (List.mem_append_right _ (List.mem_append_left _ hp))
theorem ps_for {iter : Expr} {body : List Stmt} {wi : TI} {g : TG} {tb : TS} {pos : Pos} (hp : PassesOwn (model X.prog X.w) X.A X.env X.xe) (hc : X.calm = true) (hi : PI X tg iter wi) (hg : PG X tg g) (hb : PSs X body tb)
    (hs : ∀ x, foldedSetIterable iter X.env x = pure x := by intro _; rfl) : PS X (.For tg iter body [] pos) (tFor wi g tb) := by
  intro pins s σ H D I h
  refine wpAny_For (thn (hi pins s σ H _ I h) fun v s1 h1 => thn h1 fun itv s2 h2 => ?_) hs
  obtain ⟨it, fp, tn, J, H2, e, I2, T, st2, f2, W, ⟨m0, w0⟩, turn⟩ := h2
  subst e
  -- what stays true of the iterator's objects through the loop
  have stat : ∀ {H' : Hp}, (∀ b ∈ fp, H' b = none) → ∀ b ∈ fp, FpOk X pins H' b := fun hn b hb => ⟨hn b hb, (f2 b hb).2⟩
  refine codeAny_forLoop_any (fun n s' => ∃ i σ' H', Inv X pins σ' H' s' ∧ tn i s'.heap ∧ (∀ b ∈ fp, H' b = none) ∧ W i n σ' H') ?_ m0 ⟨0, σ, H2, I2, st2, fun b hb => (f2 b hb).1, w0⟩
  rintro n s3 ⟨i, σ3, H3, I3, st3, fr3, w3⟩
  rcases turn i n σ3 H3 w3 with ⟨stop, qn⟩ | ⟨go, N, hN, step⟩
  · refine wpAny_passesOwn hp (thn (T.done X rfl rfl rfl hc i pins s3 σ3 H3 X.xe I3 (stat fr3) st3 stop) fun r s4 ⟨hr, I4⟩ => ?_)
    subst hr
    exact wpAny_execs_nil ⟨σ3, H3, I4, qn⟩
  · refine wpAny_passesOwn hp (thn (T.item X rfl rfl rfl hc i pins s3 σ3 H3 X.xe I3 (stat fr3) st3 go) fun r s4 ⟨u, hr, h4⟩ => ?_)
    subst hr
    refine wpAny_passesOwn hp (thn h4 fun _ s5 ⟨x, H5, I5, r5, y5, st5, fr5⟩ => ?_)
    have I5' := I5.pinned (stat fr5) (T.obj _ _ st5)
    refine wpAny_passesOwn hp (thn (hg _ s5 σ3 H5 x u _ I5' r5 (step x H5 y5)) fun _ s6 ⟨σ6, H6, I6, q6⟩ => ?_)
    refine wpAny_passesOwn hp (thn (hb _ s6 σ6 H6 _ I6 q6) fun f s7 q7 => ?_)
    have again : ∀ {σ7 : St} {H7 : Hp}, Inv X (pins ++ pinsAt fp s5.heap) σ7 H7 s7 → N σ7 H7 → ∃ m, m < n ∧ ∃ i σ' H', Inv X pins σ' H' s7 ∧ tn i s7.heap ∧ (∀ b ∈ fp, H' b = none) ∧ W i m σ' H' := fun {σ7 H7} I7 n7 => by
      obtain ⟨m', hm, w7⟩ := hN σ7 H7 n7
      refine ⟨m', hm, i + 1, σ7, H7, I7.unpinned, T.keep _ _ _ st5 fun b hb o e => (I7.pin (b, o) (List.mem_append_right _ (List.mem_append_right _ (mem_pinsAt hb e)))).1, fun b hb => ?_, w7⟩
      obtain ⟨o, e, d⟩ := T.obj _ _ st5 b hb
      exact (I7.pin (b, o) (List.mem_append_right _ (List.mem_append_right _ (mem_pinsAt hb e)))).2.1
    cases f with
    | next => obtain ⟨σ7, H7, I7, n7⟩ := q7; exact again I7 n7
    | cont => obtain ⟨σ7, H7, I7, n7⟩ := q7; exact again I7 n7
    | brk => obtain ⟨σ7, H7, I7, q7⟩ := q7; exact ⟨σ7, H7, I7.unpinned, q7⟩
    | ret v => obtain ⟨x7, σ7, H7, I7, r7, q7⟩ := q7; exact ⟨x7, σ7, H7, I7.unpinned, r7, q7⟩
end

/-! ### the forms one uses -/
/-- over a list that the body leaves as it is -/
theorem for_list {K : PySem.W.Frag} {a : Addr} {xs : List V} {g : TG} {tb : TS} {D : Ends} {σ : St} {H : Hp} (Pv : Nat → St → Hp → Prop) (h0 : Pv 0 σ H) (hl : ∀ i σ H, i ≤ xs.length → Pv i σ H → SqL K H a xs)
    (hs : ∀ i x σ H, xs[i]? = some x → Pv i σ H → g x σ H fun σ2 H2 => tb { D with nx := Pv (i + 1), ct := Pv (i + 1), bk := D.nx } σ2 H2) (hd : ∀ σ H, Pv xs.length σ H → D.nx σ H) :
    ∃ W : Nat → Nat → St → Hp → Prop, (∃ m, W 0 m σ H) ∧ ∀ i m σ H, W i m σ H →
      ((Itl K a).stop i H ∧ D.nx σ H) ∨ ((Itl K a).go i H ∧ ∃ N : St → Hp → Prop, (∀ σ' H', N σ' H' → ∃ m', m' < m ∧ W (i + 1) m' σ' H') ∧ ∀ x H', (Itl K a).yld i H x H' → g x σ H' fun σ2 H2 => tb { D with nx := N, ct := N, bk := D.nx } σ2 H2) := by
  refine ⟨fun i m σ H => m = xs.length - i ∧ i ≤ xs.length ∧ Pv i σ H, ⟨xs.length, by simp, Nat.zero_le _, h0⟩, ?_⟩
  rintro i m σ H ⟨rfl, hi, p⟩
  have q := hl i σ H hi p
  by_cases hlt : i < xs.length
  · refine .inr ⟨⟨xs, xs[i], q, by simp [hlt]⟩, Pv (i + 1), fun σ' H' p' => ⟨xs.length - (i + 1), by omega, rfl, hlt, p'⟩, fun x H' y => ?_⟩
    obtain ⟨e, y⟩ := y
    subst e
    exact hs i x σ _ (y xs q) p
  · have e : i = xs.length := by omega
    subst e
    exact .inl ⟨⟨xs, q, Nat.le_refl _⟩, hd σ H p⟩
theorem for_range {lo : Int} {n : Nat} {g : TG} {tb : TS} {D : Ends} {σ : St} {H : Hp} (Pv : Nat → St → Hp → Prop) (h0 : Pv 0 σ H)
    (hs : ∀ i σ H, i < n → Pv i σ H → g (.int (lo + i)) σ H fun σ2 H2 => tb { D with nx := Pv (i + 1), ct := Pv (i + 1), bk := D.nx } σ2 H2) (hd : ∀ σ H, Pv n σ H → D.nx σ H) :
    ∃ W : Nat → Nat → St → Hp → Prop, (∃ m, W 0 m σ H) ∧ ∀ i m σ H, W i m σ H →
      ((Itr lo n).stop i H ∧ D.nx σ H) ∨ ((Itr lo n).go i H ∧ ∃ N : St → Hp → Prop, (∀ σ' H', N σ' H' → ∃ m', m' < m ∧ W (i + 1) m' σ' H') ∧ ∀ x H', (Itr lo n).yld i H x H' → g x σ H' fun σ2 H2 => tb { D with nx := N, ct := N, bk := D.nx } σ2 H2) := by
  refine ⟨fun i m σ H => m = n - i ∧ i ≤ n ∧ Pv i σ H, ⟨n, by simp, Nat.zero_le _, h0⟩, ?_⟩
  rintro i m σ H ⟨rfl, hi, p⟩
  by_cases hlt : i < n
  · refine .inr ⟨hlt, Pv (i + 1), fun σ' H' p' => ⟨n - (i + 1), by omega, rfl, hlt, p'⟩, fun x H' y => ?_⟩
    obtain ⟨e, y⟩ := y
    subst e y
    exact hs i σ _ hlt p
  · have e : i = n := by omega
    subst e
    exact .inl ⟨Nat.le_refl _, hd σ H p⟩
end L2

namespace L2
open PySem PySem.Spec PyProof.Rows

abbrev R2 := V → V → Hp → VK → Prop
/-- a two-place operation on values: f is binaryOp op, inplaceOp op or compareOp op -/
def OpR (X : Cx) (f : Value → Value → Sem Value) (r : R2) : Prop :=
  ∀ (pins : List (Addr × Obj)) (s : Shared) (σ : St) (H : Hp) (x y : V) (v u : Value) (Q : VK), Inv X pins σ H s → RelV x v → RelV y u → r x y H Q →
    wpAny (model X.prog X.w) X.A (f v u) (EP X pins σ Q) X.xe s
/-- a one-place operation -/
def UnR (X : Cx) (f : Value → Sem Value) (r : V → Hp → VK → Prop) : Prop :=
  ∀ (pins : List (Addr × Obj)) (s : Shared) (σ : St) (H : Hp) (x : V) (v : Value) (Q : VK), Inv X pins σ H s → RelV x v → r x H Q →
    wpAny (model X.prog X.w) X.A (f v) (EP X pins σ Q) X.xe s
/-- a call of a value that is known (a builtin, a type) with values -/
def CallR (X : Cx) (f : Value) (r : List V → Hp → VK → Prop) : Prop :=
  ∀ (pins : List (Addr × Obj)) (s : Shared) (σ : St) (H : Hp) (xs : List V) (us : List Value) (Q : VK), Inv X pins σ H s → Vals xs us → r xs H Q →
    wpAny (model X.prog X.w) X.A (call f us) (EP X pins σ Q) X.xe s
/-- a value's truth -/
def TruR (X : Cx) (r : V → Hp → (Bool → Hp → Prop) → Prop) : Prop :=
  ∀ (pins : List (Addr × Obj)) (s : Shared) (σ : St) (H : Hp) (x : V) (v : Value) (Q : Bool → Hp → Prop), Inv X pins σ H s → RelV x v → r x H Q →
    wpAny (model X.prog X.w) X.A (truthy v) (TP X pins σ Q) X.xe s

def tOp (r : R2) (ta tb : TE) : TE := fun σ H Q => ta σ H fun x H1 => tb σ H1 fun y H2 => r x y H2 Q
def tUn (r : V → Hp → VK → Prop) (ta : TE) : TE := fun σ H Q => ta σ H fun x H1 => r x H1 Q
/-- ints in, under C, and a value out -/
def rI (C : Int → Int → Prop) (g : Int → Int → V) : R2 := fun x y H Q => ∃ i j, x = .int i ∧ y = .int j ∧ C i j ∧ Q (g i j) H
def rI0 (g : Int → Int → V) : R2 := fun x y H Q => ∃ i j, x = .int i ∧ y = .int j ∧ Q (g i j) H
def rU (g : Int → V) : V → Hp → VK → Prop := fun x H Q => ∃ i, x = .int i ∧ Q (g i) H

section
variable {X : Cx} {a b c : Expr} {ta tb tc : TE} {pos : Pos}

theorem binT (ha : PE X a ta) (hb : PE X b tb) {pins : List (Addr × Obj)} {s : Shared} {σ : St} {H : Hp} {R : V → V → Hp → Prop} (I : Inv X pins σ H s)
    (h : ta σ H fun x H1 => tb σ H1 fun y H2 => R x y H2) {Q : Value → Shared → Prop} {f : Value → Value → Sem Value}
    (hf : ∀ v u s2 x y H2, Inv X pins σ H2 s2 → RelV x v → RelV y u → R x y H2 → wpAny (model X.prog X.w) X.A (f v u) Q X.xe s2) :
    wpAny (model X.prog X.w) X.A (eval a X.env) (fun v s₁ => wpAny (model X.prog X.w) X.A (eval b X.env) (fun u s₂ => wpAny (model X.prog X.w) X.A (f v u) Q X.xe s₂) X.xe s₁) X.xe s := by
  refine thn (ha pins s σ H _ I h) fun v s1 ⟨x, H1, I1, r1, q1⟩ => ?_
  refine thn (hb pins s1 σ H1 _ I1 q1) fun u s2 ⟨y, H2, I2, r2, q2⟩ => ?_
  exact hf v u s2 x y H2 I2 r1 r2 q2

theorem pe_op {op : Operator} {r : R2} (ho : OpR X (binaryOp op) r) (ha : PE X a ta) (hb : PE X b tb) : PE X (.BinOp a op b pos) (tOp r ta tb) := by
  intro pins s σ H Q I h
  exact wpAny_BinOp (binT ha hb I h fun v u s2 x y H2 I2 rx ry q => ho pins s2 σ H2 x y v u Q I2 rx ry q)
theorem pe_un {op : UnaryOp} {r : V → Hp → VK → Prop} (ho : UnR X (unaryOp op) r) (ha : PE X a ta) : PE X (.UnaryOp op a pos) (tUn r ta) := by
  intro pins s σ H Q I h
  exact UnaryOp_ (thn (ha pins s σ H _ I h) fun v s1 ⟨x, H1, I1, r1, q1⟩ => ho pins s1 σ H1 x v Q I1 r1 q1)
/-! ### ints -/
theorem opI {f : Value → Value → Sem Value} {C : Int → Int → Prop} {g : Int → Int → Int}
    (rule : ∀ (i j : Int) (t u : Tok) (s : Shared) (Q : Value → Shared → Prop) (E : Value → Shared → Prop), C i j → Q (.int (g i j) s.toks) { s with toks := s.toks + 1 } → wpAny (model X.prog X.w) X.A (f (.int i t) (.int j u)) Q E s) :
    OpR X f (rI C fun i j => .int (g i j)) := by
  intro pins s σ H x y v u Q I rx ry h
  obtain ⟨i, j, rfl, rfl, hc, q⟩ := h
  obtain ⟨t, rfl⟩ := rx
  obtain ⟨t', rfl⟩ := ry
  exact rule i j t t' s _ _ hc ⟨.int (g i j), H, I.tok _, ⟨_, rfl⟩, q⟩
theorem opI0 {f : Value → Value → Sem Value} {g : Int → Int → Int}
    (rule : ∀ (i j : Int) (t u : Tok) (s : Shared) (Q : Value → Shared → Prop) (E : Value → Shared → Prop), Q (.int (g i j) s.toks) { s with toks := s.toks + 1 } → wpAny (model X.prog X.w) X.A (f (.int i t) (.int j u)) Q E s) :
    OpR X f (rI0 fun i j => .int (g i j)) := by
  intro pins s σ H x y v u Q I rx ry h
  obtain ⟨i, j, rfl, rfl, q⟩ := h
  obtain ⟨t, rfl⟩ := rx
  obtain ⟨t', rfl⟩ := ry
  exact rule i j t t' s _ _ ⟨.int (g i j), H, I.tok _, ⟨_, rfl⟩, q⟩
theorem opB0 {f : Value → Value → Sem Value} {g : Int → Int → Bool}
    (rule : ∀ (i j : Int) (t u : Tok) (s : Shared) (Q : Value → Shared → Prop) (E : Value → Shared → Prop), Q (.bool (g i j)) s → wpAny (model X.prog X.w) X.A (f (.int i t) (.int j u)) Q E s) :
    OpR X f (rI0 fun i j => .bl (g i j)) := by
  intro pins s σ H x y v u Q I rx ry h
  obtain ⟨i, j, rfl, rfl, q⟩ := h
  obtain ⟨t, rfl⟩ := rx
  obtain ⟨t', rfl⟩ := ry
  exact rule i j t t' s _ _ ⟨.bl (g i j), H, I, rfl, q⟩

def CDiv (i j : Int) : Prop := 0 < j ∧ j < 1073741824
def CDivN (i j : Int) : Prop := j ≠ 0 ∧ j.natAbs < 1073741824
def CPow (i j : Int) : Prop := 0 ≤ j ∧ j ≤ 1000000 ∧ i.natAbs < 2 ^ 64
def CMul (i j : Int) : Prop := (-(2 ^ 64) < i ∧ i < 2 ^ 64) ∨ (-(2 ^ 64) < j ∧ j < 2 ^ 64)
theorem CMul.ok {i j : Int} (h : CMul i j) : IntMulOk i j := by
  rcases h with ⟨h1, h2⟩ | ⟨h1, h2⟩
  · exact .of_left (intBits_le_64 h1 h2)
  · exact .of_right (intBits_le_64 h1 h2)
theorem op_add : OpR X (binaryOp .Add) (rI0 fun i j => .int (i + j)) := opI0 fun _ _ _ _ _ _ _ q => add_int q
theorem op_sub : OpR X (binaryOp .Sub) (rI0 fun i j => .int (i - j)) := opI0 fun _ _ _ _ _ _ _ q => sub_int q
theorem op_mul : OpR X (binaryOp .Mult) (rI CMul fun i j => .int (i * j)) := opI fun _ _ _ _ _ _ _ hc q => mul_int q hc.ok
/-- // by a positive divisor -/
theorem op_fdiv : OpR X (binaryOp .FloorDiv) (rI CDiv fun i j => .int (i / j)) := opI fun i j _ _ _ _ _ hc q => by
  have h1 : (0 : Int) < j := hc.1
  have h2 : j < 1073741824 := hc.2
  exact floordiv_int (by omega) (by rw [Int.fdiv_eq_ediv_of_nonneg i (by omega)]; exact q) (.inl (PyProof.noPylong_small (by omega)))
/-- % by a positive divisor of any size -/
theorem op_mod : OpR X (binaryOp .Mod) (rI (fun _ j => 0 < j) fun i j => .int (i % j)) := opI fun i j _ _ _ _ _ hc q => by
  have h1 : (0 : Int) < j := hc
  exact mod_int' (by omega) (by rw [Int.fmod_eq_emod_of_nonneg i (by omega)]; exact q)
theorem op_pow : OpR X (binaryOp .Pow) (rI CPow fun i j => .int (i ^ j.toNat)) := opI fun _ _ _ _ _ _ _ hc q => pow_int_small hc.1 hc.2.1 hc.2.2 q
theorem unI {f : Value → Sem Value} {g : Int → Int}
    (rule : ∀ (i : Int) (t : Tok) (s : Shared) (Q : Value → Shared → Prop) (E : Value → Shared → Prop), Q (.int (g i) s.toks) { s with toks := s.toks + 1 } → wpAny (model X.prog X.w) X.A (f (.int i t)) Q E s) :
    UnR X f (rU fun i => .int (g i)) := by
  intro pins s σ H x v Q I rx h
  obtain ⟨i, rfl, q⟩ := h
  obtain ⟨t, rfl⟩ := rx
  exact rule i t s _ _ ⟨.int (g i), H, I.tok _, ⟨_, rfl⟩, q⟩
theorem un_neg : UnR X (unaryOp .USub) (rU fun i => .int (-i)) := unI fun _ _ _ _ _ q => neg_int q
/-! ### bools among ints: n += (a < b) -/
end

/-! ### comparisons -/
/-- the scalars that == tells apart as data does -/
def scal : V → V → Bool
  | .non, .non => true | .non, .int _ => true | .int _, .non => true | .non, .bl _ => true | .bl _, .non => true | .non, .str _ => true | .str _, .non => true
  | .int _, .int _ => true | .bl _, .bl _ => true | .str _, .str _ => true | .byt _, .byt _ => true
  | .int _, .str _ => true | .str _, .int _ => true | .bl _, .str _ => true | .str _, .bl _ => true
  | _, _ => false
def rEq : R2 := fun x y H Q => scal x y = true ∧ Q (.bl (decide (x = y))) H
def rNe : R2 := fun x y H Q => scal x y = true ∧ Q (.bl (!decide (x = y))) H

theorem dec_int {i j : Int} : decide (V.int i = V.int j) = (i == j) := by
  rw [Bool.eq_iff_iff]
  simp
theorem dec_bl {i j : Bool} : decide (V.bl i = V.bl j) = (i == j) := by
  rw [Bool.eq_iff_iff]
  simp
theorem dec_str {i j : Str} : decide (V.str i = V.str j) = (i == j) := by
  rw [Bool.eq_iff_iff]
  simp
theorem dec_byt {i j : Array UInt8} : decide (V.byt i = V.byt j) = (i.toList == j.toList) := by
  rw [Bool.eq_iff_iff]
  cases i
  cases j
  simp

section
variable {X : Cx} {a b c : Expr} {ta tb tc : TE} {pos : Pos}
theorem fin_bl {pins : List (Addr × Obj)} {σ : St} {H : Hp} {s : Shared} {Q : VK} {k k' : Bool} (I : Inv X pins σ H s) (q : Q (.bl k) H) (e : k = k') : EP X pins σ Q (.bool k') s := by
  subst e
  exact ⟨.bl k, H, I, rfl, q⟩
theorem op_eq : OpR X (compareOp .Eq) rEq := by
  intro pins s σ H x y v u Q I rx ry h
  obtain ⟨hs, q⟩ := h
  cases x with
  | non =>
    cases rx
    cases y with
    | non => cases ry; exact PySem.EqNone.eq_none_none (fin_bl I q (by simp))
    | bl j => cases ry; exact PySem.EqNone.eq_none_bool (fin_bl I q (by simp))
    | int j => obtain ⟨t', rfl⟩ := ry; exact PySem.EqNone.eq_none_int (fin_bl I q (by simp))
    | str j => obtain ⟨t', rfl⟩ := ry; exact PySem.EqNone.eq_none_str (fin_bl I q (by simp))
    | _ => exact absurd (show false = true from hs) Bool.false_ne_true
  | bl i =>
    cases rx
    cases y with
    | non => cases ry; exact PySem.EqNone.eq_bool_none (fin_bl I q (by simp))
    | bl j => cases ry; exact eq_bool (fin_bl I q dec_bl)
    | str j => obtain ⟨t', rfl⟩ := ry; exact PySem.EqMixed.eq_bool_str (fin_bl I q (by simp))
    | _ => exact absurd (show false = true from hs) Bool.false_ne_true
  | int i =>
    obtain ⟨t, rfl⟩ := rx
    cases y with
    | non => cases ry; exact PySem.EqNone.eq_int_none (fin_bl I q (by simp))
    | int j => obtain ⟨t', rfl⟩ := ry; exact eq_int (fin_bl I q dec_int)
    | str j => obtain ⟨t', rfl⟩ := ry; exact PySem.EqMixed.eq_int_str (fin_bl I q (by simp))
    | _ => exact absurd (show false = true from hs) Bool.false_ne_true
  | str i =>
    obtain ⟨t, rfl⟩ := rx
    cases y with
    | non => cases ry; exact PySem.EqNone.eq_str_none (fin_bl I q (by simp))
    | bl j => cases ry; exact PySem.EqMixed.eq_str_bool (fin_bl I q (by simp))
    | int j => obtain ⟨t', rfl⟩ := ry; exact PySem.EqMixed.eq_str_int (fin_bl I q (by simp))
    | str j => obtain ⟨t', rfl⟩ := ry; exact eq_str (fin_bl I q dec_str)
    | _ => exact absurd (show false = true from hs) Bool.false_ne_true
  | byt i =>
    obtain ⟨t, rfl⟩ := rx
    cases y with
    | byt j => obtain ⟨t', rfl⟩ := ry; exact PySem.W.eq_bytes (fin_bl I q dec_byt)
    | _ => exact absurd (show false = true from hs) Bool.false_ne_true
  | _ => cases y <;> exact absurd (show false = true from hs) Bool.false_ne_true
theorem op_ne : OpR X (compareOp .NotEq) rNe := by
  intro pins s σ H x y v u Q I rx ry h
  obtain ⟨hs, q⟩ := h
  cases x with
  | non =>
    cases rx
    cases y with
    | non => cases ry; exact PySem.EqNone.ne_none_none (fin_bl I q (by simp))
    | bl j => cases ry; exact PySem.EqNone.ne_none_bool (fin_bl I q (by simp))
    | int j => obtain ⟨t', rfl⟩ := ry; exact PySem.EqNone.ne_none_int (fin_bl I q (by simp))
    | str j => obtain ⟨t', rfl⟩ := ry; exact PySem.EqNone.ne_none_str (fin_bl I q (by simp))
    | _ => exact absurd (show false = true from hs) Bool.false_ne_true
  | bl i =>
    cases rx
    cases y with
    | non => cases ry; exact PySem.EqNone.ne_bool_none (fin_bl I q (by simp))
    | bl j => cases ry; exact ne_bool (fin_bl I q (congrArg not dec_bl))
    | str j => obtain ⟨t', rfl⟩ := ry; exact PySem.EqMixed.ne_bool_str (fin_bl I q (by simp))
    | _ => exact absurd (show false = true from hs) Bool.false_ne_true
  | int i =>
    obtain ⟨t, rfl⟩ := rx
    cases y with
    | non => cases ry; exact PySem.EqNone.ne_int_none (fin_bl I q (by simp))
    | int j => obtain ⟨t', rfl⟩ := ry; exact ne_int (fin_bl I q (congrArg not dec_int))
    | str j => obtain ⟨t', rfl⟩ := ry; exact PySem.EqMixed.ne_int_str (fin_bl I q (by simp))
    | _ => exact absurd (show false = true from hs) Bool.false_ne_true
  | str i =>
    obtain ⟨t, rfl⟩ := rx
    cases y with
    | non => cases ry; exact PySem.EqNone.ne_str_none (fin_bl I q (by simp))
    | bl j => cases ry; exact PySem.EqMixed.ne_str_bool (fin_bl I q (by simp))
    | int j => obtain ⟨t', rfl⟩ := ry; exact PySem.EqMixed.ne_str_int (fin_bl I q (by simp))
    | str j => obtain ⟨t', rfl⟩ := ry; exact ne_str (fin_bl I q (congrArg not dec_str))
    | _ => exact absurd (show false = true from hs) Bool.false_ne_true
  | byt i =>
    obtain ⟨t, rfl⟩ := rx
    cases y with
    | byt j => obtain ⟨t', rfl⟩ := ry; exact PySem.W.ne_bytes (fin_bl I q (congrArg not dec_byt))
    | _ => exact absurd (show false = true from hs) Bool.false_ne_true
  | _ => cases y <;> exact absurd (show false = true from hs) Bool.false_ne_true

theorem op_lt : OpR X (compareOp .Lt) (rI0 fun i j => .bl (decide (i < j))) := opB0 fun _ _ _ _ _ _ _ q => lt_int q
theorem op_le : OpR X (compareOp .LtE) (rI0 fun i j => .bl (decide (i ≤ j))) := opB0 fun _ _ _ _ _ _ _ q => le_int q
theorem op_gt : OpR X (compareOp .Gt) (rI0 fun i j => .bl (decide (j < i))) := opB0 fun _ _ _ _ _ _ _ q => gt_int q
theorem op_lt_str : OpR X (compareOp .Lt) (fun x y H Q => ∃ i j, x = .str i ∧ y = .str j ∧ Q (.bl (decide (i.cps.toList < j.cps.toList))) H) := by
  intro pins s σ H x y v u Q I rx ry h
  obtain ⟨i, j, rfl, rfl, q⟩ := h
  obtain ⟨t, rfl⟩ := rx
  obtain ⟨t', rfl⟩ := ry
  exact lt_str (fin_bl I q rfl)
/-- is None, is not None: the right side a value none -/
theorem op_isN : OpR X (compareOp .Is) (fun x y H Q => y = .non ∧ Q (.bl (decide (x = .non))) H) := by
  intro pins s σ H x y v u Q I rx ry h
  obtain ⟨rfl, q⟩ := h
  cases ry
  refine is_none_gen (fin_bl I q ?_)
  cases x <;> first
    | (cases rx; rfl)
    | (obtain ⟨t, rfl⟩ := rx; rfl)
theorem op_notN : OpR X (compareOp .IsNot) (fun x y H Q => y = .non ∧ Q (.bl (!decide (x = .non))) H) := by
  intro pins s σ H x y v u Q I rx ry h
  obtain ⟨rfl, q⟩ := h
  cases ry
  refine isnot_none_gen (fin_bl I q ?_)
  cases x <;> first
    | (cases rx; rfl)
    | (obtain ⟨t, rfl⟩ := rx; rfl)

/-- is, is not of two objects that are tracked lists or instances -/
def isObj : HO → Bool
  | .lst _ => true
  | .ins _ _ _ => true
  | _ => false
theorem nomark (b : Expr) {op : CmpOp} (h : op ≠ .In := by decide) (h2 : op ≠ .NotIn := by decide) : behindInMarks op b = false := by
  have e1 : (op == CmpOp.In) = false := by cases op <;> first | rfl | exact absurd rfl h
  have e2 : (op == CmpOp.NotIn) = false := by cases op <;> first | rfl | exact absurd rfl h2
  cases b <;> simp [behindInMarks, e1, e2]
/-- a comparison as a value; hm: nomark b, or (for in, not in) by with_unfolding_all rfl -/
theorem pe_cmpR {op : CmpOp} {r : R2} (ho : OpR X (compareOp op) r) (ha : PE X a ta) (hb : PE X b tb) (hm : behindInMarks op b = false) : PE X (.Compare a [op] [b] pos) (tOp r ta tb) := by
  intro pins s σ H Q I h
  exact wpAny_Compare1 (binT ha hb I h fun v u s2 x y H2 I2 rx ry q => ho pins s2 σ H2 x y v u Q I2 rx ry q) hm
/-- a reading of a value as a test -/
def tTest (t : TE) : TT := fun σ H Q => t σ H fun x H' => ∃ k, x = .bl k ∧ Q k H'
theorem pt_cmpR {op : CmpOp} {r : R2} (ho : OpR X (compareOp op) r) (ha : PE X a ta) (hb : PE X b tb) (hm : behindInMarks op b = false) : PT X (.Compare a [op] [b] pos) (tTest (tOp r ta tb)) := by
  intro pins s σ H Q I h
  refine wpAny_isTrue_Compare1 (thn (ha pins s σ H _ I h) fun v s1 ⟨x, H1, I1, r1, q1⟩ => thn (hb pins s1 σ H1 _ I1 q1) fun u s2 ⟨y, H2, I2, r2, q2⟩ =>
    thn (ho pins s2 σ H2 x y v u _ I2 r1 r2 q2) fun c s3 ⟨z, H3, I3, r3, k, e, q3⟩ => ?_) hm
  subst e
  cases r3
  exact wpAny_truthy_bool ⟨H3, I3, q3⟩
/-- a op1 b op2 c -/
def tChain (r r' : R2) (ta tb tc : TE) : TE := fun σ H Q => ta σ H fun x H1 => tb σ H1 fun y H2 => r x y H2 fun z H3 => ∃ k, z = .bl k ∧
  (if k = true then tc σ H3 fun w' H4 => r' y w' H4 Q else Q (.bl false) H3)
theorem pt_chain {op op' : CmpOp} {r r' : R2} (ho : OpR X (compareOp op) r) (ho' : OpR X (compareOp op') r') (ha : PE X a ta) (hb : PE X b tb) (hc : PE X c tc)
    (hm : lastMarks [op, op'] [b, c] = false := by with_unfolding_all rfl) : PT X (.Compare a [op, op'] [b, c] pos) (tTest (tChain r r' ta tb tc)) := by
  intro pins s σ H Q I h
  refine isTrue_chain (thn (ha pins s σ H _ I h) fun v s1 ⟨x, H1, I1, r1, q1⟩ => test_link (thn (hb pins s1 σ H1 _ I1 q1) fun u s2 ⟨y, H2, I2, r2, q2⟩ =>
    thn (ho pins s2 σ H2 x y v u _ I2 r1 r2 q2) fun d s3 ⟨z, H3, I3, r3, k, e, q3⟩ => ?_)) hm
  subst e
  cases r3
  refine wpAny_truthy_bool ?_
  cases k with
  | false =>
    obtain ⟨k', e', q'⟩ := q3
    cases e'
    exact ite_ff ⟨H3, I3, q'⟩
  | true =>
    refine ite_tt (test_last (thn (hc pins s3 σ H3 _ I3 q3) fun w' s4 ⟨z', H4, I4, r4, q4⟩ => thn (ho' pins s4 σ H4 y z' u w' _ I4 r2 r4 q4) fun d' s5 ⟨z2, H5, I5, r5, k2, e2, q5⟩ => ?_))
    subst e2
    cases r5
    exact wpAny_truthy_bool ⟨H5, I5, q5⟩

/-! ### truth -/
/-- a value's truth by the abstract heap -/
def TruV (K : PySem.W.Frag) (x : V) (H : Hp) (k : Bool) : Prop :=
  match x with
  | .non => k = false
  | .bl b => k = b
  | .int i => k = (i != 0)
  | .str y => y.length ≤ sizeLine ∧ k = ((y.length : Int) != 0)
  | .byt y => y.size ≤ sizeLine ∧ k = ((y.size : Int) != 0)
  | .ref p => (∃ xs, SqL K H p xs ∧ k = !xs.isEmpty) ∨ (∃ xs, SqT K H p xs ∧ k = !xs.isEmpty) ∨ ∃ kvs, H p = some (.dK kvs) ∧ k = !kvs.isEmpty
  | _ => False
theorem isEmpty_kv {κ : Type} {kvs : List (κ × V)} {vs : List (κ × Value)} (r : KV kvs vs) : (!vs.isEmpty) = !kvs.isEmpty := by
  cases r <;> rfl
theorem isEmpty_of {xs : List V} {its : List Value} (r : Vals xs its) : (!its.toArray.isEmpty) = !xs.isEmpty := by
  cases r <;> simp
theorem line63 : (sizeLine : Nat) < 2 ^ 63 := by rw [sizeLine_eq]; decide
theorem tru_ok : TruR X (fun x H Q => ∃ k, TruV X.K x H k ∧ Q k H) := by
  intro pins s σ H x v Q I rx h
  obtain ⟨k, e, q⟩ := h
  have hl := line63
  have hs : sizeLine = 16777216 := sizeLine_eq
  cases x with
  | non =>
    cases rx
    have e' : k = false := e
    subst e'
    exact truthy_none ⟨H, I, q⟩
  | bl b =>
    cases rx
    have e' : k = b := e
    subst e'
    exact wpAny_truthy_bool ⟨H, I, q⟩
  | int i =>
    obtain ⟨t, rfl⟩ := rx
    have e' : k = (i != 0) := e
    subst e'
    exact PySem.P.truthy_int ⟨H, I, q⟩
  | str y =>
    obtain ⟨t, rfl⟩ := rx
    obtain ⟨hy, e'⟩ : y.length ≤ sizeLine ∧ k = ((y.length : Int) != 0) := e
    subst e'
    exact PySem.P.truthy_str (by omega) ⟨H, I.tok _, q⟩
  | byt y =>
    obtain ⟨t, rfl⟩ := rx
    obtain ⟨hy, e'⟩ : y.size ≤ sizeLine ∧ k = ((y.size : Int) != 0) := e
    subst e'
    exact PySem.W.truthy_bytes (by omega) ⟨H, I.tok _, q⟩
  | ref p =>
    cases rx
    have e' : (∃ xs, SqL X.K H p xs ∧ k = !xs.isEmpty) ∨ (∃ xs, SqT X.K H p xs ∧ k = !xs.isEmpty) ∨ ∃ kvs, H p = some (.dK kvs) ∧ k = !kvs.isEmpty := e
    rcases e' with ⟨xs, hx, e'⟩ | ⟨xs, hx, e'⟩ | ⟨kvs, hx, e'⟩
    · subst e'
      obtain ⟨its, r, pl, hz⟩ := I.list hx
      have hlen := r.length
      exact wpAny_truthy_list pl.isList (by simp only [List.size_toArray]; omega) ⟨H, I.tok _, by rw [isEmpty_of r]; exact q⟩
    · subst e'
      obtain ⟨its, r, pl, hz⟩ := I.tuple hx
      have hlen := r.length
      exact truthy_tuple pl (by simp only [List.size_toArray]; omega) ⟨H, I.tok _, by rw [isEmpty_of r]; exact q⟩
    · subst e'
      obtain ⟨hz, hS, vs, r, m⟩ : kvs.length ≤ sizeLine ∧ (p == sysModules) = false ∧ ∃ vs, KV kvs vs ∧ s.heap.DictOf (mixKind X.prog X.w) p vs := I.hok p _ hx
      have hlen : kvs.length = vs.length := Paired.length r
      exact wpAny_truthy_dict hS m (by omega) ⟨H, I.tok _, by rw [isEmpty_kv r]; exact q⟩
  | _ => exact (show False from e).elim
/-- any expression whose test is its value's truth (a name, a call, a subscript, a field ..: he by fun _ => rfl) -/
theorem pt_truth (ha : PE X a ta) (he : ∀ whole, isTrue a X.env whole = (do let v ← whole; standAt a.pos; holding [v] (truthy v))) :
    PT X a (fun σ H Q => ta σ H fun x H' => ∃ k, TruV X.K x H' k ∧ Q k H') := by
  intro pins s σ H Q I h
  exact isTrue_plain (thn (ha pins s σ H _ I h) fun v s1 ⟨x, H1, I1, r1, q1⟩ => tru_ok pins s1 σ H1 x v Q I1 r1 q1) (he _)

/-! ### strs and bytes -/
theorem op_add_str : OpR X (binaryOp .Add) (fun x y H Q => ∃ i j, x = .str i ∧ y = .str j ∧ i.length + j.length ≤ sizeLine ∧ Q (.str (i ++ j)) H) := by
  intro pins s σ H x y v u Q I rx ry h
  obtain ⟨i, j, rfl, rfl, hz, q⟩ := h
  obtain ⟨t, rfl⟩ := rx
  obtain ⟨t', rfl⟩ := ry
  exact add_str (fun t' tk => ⟨.str (i ++ j), H, I.tok _, ⟨_, rfl⟩, q⟩) hz
def PlainIxT (b : Expr) : Prop := ∀ o i, subscripted b false o i = operate [o, i] (getItem o i)
/-! ### scalar builtins, by CallR -/
theorem vals1 {x : V} {us : List Value} (r : Vals [x] us) : ∃ u, us = [u] ∧ RelV x u := by
  cases r with
  | cons r1 r2 => cases r2; exact ⟨_, rfl, r1⟩
theorem vals2 {x y : V} {us : List Value} (r : Vals [x, y] us) : ∃ u w', us = [u, w'] ∧ RelV x u ∧ RelV y w' := by
  cases r with
  | cons r1 r2 =>
    cases r2 with
    | cons r3 r4 => cases r4; exact ⟨_, _, rfl, r1, r3⟩
theorem call_max2 (hc : X.calm = true) : CallR X (.builtin "max") (fun xs H Q => ∃ i j, xs = [.int i, .int j] ∧ Q (.int (if j > i then j else i)) H) := by
  intro pins s σ H xs us Q I r h
  obtain ⟨i, j, rfl, q⟩ := h
  obtain ⟨u, w', rfl, ⟨t, rfl⟩, ⟨t', rfl⟩⟩ := vals2 r
  refine max_two_ints (I.ok.hd hc) fun h' tk k => ⟨_, H, I.kept k, ?_, q⟩
  by_cases hj : j > i
  · rw [if_pos hj, if_pos hj]; exact ⟨_, rfl⟩
  · rw [if_neg hj, if_neg hj]; exact ⟨_, rfl⟩
theorem call_min2 (hc : X.calm = true) : CallR X (.builtin "min") (fun xs H Q => ∃ i j, xs = [.int i, .int j] ∧ Q (.int (if j < i then j else i)) H) := by
  intro pins s σ H xs us Q I r h
  obtain ⟨i, j, rfl, q⟩ := h
  obtain ⟨u, w', rfl, ⟨t, rfl⟩, ⟨t', rfl⟩⟩ := vals2 r
  refine min_two_ints (I.ok.hd hc) fun h' tk k => ⟨_, H, I.kept k, ?_, q⟩
  by_cases hj : j < i
  · rw [if_pos hj, if_pos hj]; exact ⟨_, rfl⟩
  · rw [if_neg hj, if_neg hj]; exact ⟨_, rfl⟩
/-- len of a str, a bytes, a list, a tuple -/
def LenV (K : PySem.W.Frag) (x : V) (H : Hp) (n : Nat) : Prop :=
  match x with
  | .str y => y.length ≤ sizeLine ∧ n = y.length
  | .byt y => y.size ≤ sizeLine ∧ n = y.size
  | .ref p => (∃ xs, SqL K H p xs ∧ n = xs.length) ∨ ∃ xs, SqT K H p xs ∧ n = xs.length
  | _ => False
end
end L2

namespace L2
open PySem PySem.Spec PyProof.Rows

/-! ### an instance, its attributes a map -/
structure ObjM (h : Heap) (x dx C : Addr) (mA : Str → Option Value) : Prop where
  obj : h.get? x = some (PySem.W.instObj C dx)
  ns : h.Ns1 dx mA
  ne : dx ≠ x

theorem lookIn_ns {h : Heap} {dx : Addr} {mA : Str → Option Value} (n : h.Ns1 dx mA) : ∃ od, h.get? dx = some od ∧ ∀ name, PySem.W.lookIn name od = some (mA name) := by
  obtain ⟨o, es, ep, ho, hd, hk, _, hm⟩ := n
  refine ⟨o, ho, fun name => ?_⟩
  have e := hm name
  unfold nsFind findBy at e
  rw [← Array.find?_toList] at e
  unfold PySem.W.lookIn
  rw [hd]
  dsimp only
  split
  · rename_i y q
    rw [q] at e
    exact congrArg some e
  · rename_i q
    rw [q] at e
    have a : es.toList.any (·.refKey) = false := by
      rw [List.any_eq_false]
      intro y hy
      obtain ⟨z, t, hkey⟩ := hk y (Array.mem_toList_iff.mp hy)
      simp [DictEntry.refKey, hkey]
    have a' : ¬ es.toList.any (·.refKey) = true := by rw [a]; exact Bool.false_ne_true
    rw [if_neg a']
    exact congrArg some e

theorem ObjM.look {h : Heap} {x dx C : Addr} {mA : Str → Option Value} (I : ObjM h x dx C mA) : ∃ od, PySem.W.InstAt h x (PySem.W.instObj C dx) C (some od) ∧ ∀ name, PySem.W.lookIn name od = some (mA name) :=
  let ⟨od, ho, hl⟩ := lookIn_ns I.ns
  ⟨od, ⟨I.obj, rfl, rfl, ho⟩, hl⟩

section
variable {prog : Program} {w : World} {A : Around} {E : Value → Shared → Prop} {s : Shared} {K : PySem.W.Frag} {x dx C f : Addr} {mA : Str → Option Value} {name : Str} {v : Value}

end

/-! ### the attributes as a list of pairs -/
def putF (f : Str) (v : V) : List (Str × V) → List (Str × V)
  | [] => [(f, v)]
  | (g, x) :: r => if g = f then (g, v) :: r else (g, x) :: putF f v r
theorem RelO.some_of {v : V} {o : Option Value} (r : RelO (some v) o) : ∃ u, o = some u ∧ RelV v u := by
  cases o with
  | none => exact (show False from r).elim
  | some u => exact ⟨u, rfl, r⟩
section
variable {P : Program} {w : World} {H H' : Hp} {h h' : Heap} {a C dx : Addr} {fs fs' : List (Str × V)}
theorem ins_get (hok : HOk P w H h) (e : H a = some (.ins C dx fs)) : ∃ mA, ObjM h a dx C mA ∧ (∀ f, RelO (fs.lookup f) (mA f)) ∧ PySem.Within mA (fs.map (·.1)) ∧ fs.length ≤ 1000 ∧ H dx = some (.own a) := by
  obtain ⟨d, z, ne, ob, mA, n, r, q⟩ := (show ObjOk P w H h a (.ins C dx fs) from hok a _ e)
  exact ⟨mA, ⟨ob, n, ne⟩, r, q, z, d⟩
end

/-! ### what of the text a class must have -/
structure Cls (K : PySem.W.Frag) (C : Addr) : Prop where
  pg : PySem.W.plainGet K C Str.empty = true
  hd : PySem.W.hasDictIn K C = true
  po : PySem.W.plainOver K C = true
  sa : PySem.W.findIn K (.ref C) "__setattr__" = some (some (.builtin "object.__setattr__"))
theorem Cls.get {K : PySem.W.Frag} {C : Addr} (c : Cls K C) (f : Str) : PySem.W.plainGet K C f = true := c.pg
/-- no class of it has the name -/
def NoAttr (K : PySem.W.Frag) (C : Addr) (f : Str) : Prop := PySem.W.findIn K (.ref C) f = some none
/-- a constant of the class -/
structure Con (K : PySem.W.Frag) (C : Addr) (f : Str) (v : V) (u : Value) : Prop where
  at_ : PySem.W.findIn K (.ref C) f = some (some u)
  rel : RelV v u
  get : PySem.W.specialIn K u "__get__" = some none
  cp : PySem.W.copiedNames.contains f = false
/-- a method: a plain def of the class or of one above it -/
structure Meth (K : PySem.W.Frag) (C : Addr) (m : Str) (f : Addr) : Prop where
  at_ : PySem.W.findIn K (.ref C) m = some (some (.ref f))
  fn : PySem.W.isFn K (.ref f) = true
  kp : PySem.W.keepIn K (.ref f) = true

section
variable {X : Cx} {pins : List (Addr × Obj)} {σ : St} {H : Hp} {s : Shared} {a C dx : Addr} {fs : List (Str × V)} {f : Str} {v : V} {A : Around} {E : Value → Shared → Prop}

end

/-! ### readings and rules -/
/-- e.f, an attribute of the instance -/
def tFld (K : PySem.W.Frag) (ta : TE) (f : Str) : TE := fun σ H Q => ta σ H fun x H1 => ∃ a C dx fs v, x = .ref a ∧ H1 a = some (.ins C dx fs) ∧ Cls K C ∧ NoAttr K C f ∧ fs.lookup f = some v ∧ Q v H1
/-- e.f, a constant of the class -/
def tCon (K : PySem.W.Frag) (ta : TE) (f : Str) : TE := fun σ H Q => ta σ H fun x H1 => ∃ a C dx fs v u, x = .ref a ∧ H1 a = some (.ins C dx fs) ∧ Cls K C ∧ Con K C f v u ∧ fs.lookup f = none ∧ Q v H1
/-- e.f = value -/
def sFld (K : PySem.W.Frag) (ta tv : TE) (f : Str) : TS := fun D σ H => tv σ H fun y H1 => ta σ H1 fun x H2 => ∃ a C dx fs, x = .ref a ∧ H2 a = some (.ins C dx fs) ∧ Cls K C ∧ NoAttr K C f ∧ fs.length < 1000 ∧
  D.nx σ (upd H2 a (.ins C dx (putF f y fs)))
/-- an augmented operator on two values -/
def InOp (X : Cx) (op : Operator) (rd : V → V → Hp → VK → Prop) : Prop :=
  ∀ (pins : List (Addr × Obj)) (s : Shared) (σ : St) (H : Hp) (x y : V) (u v : Value) (Q : VK), Inv X pins σ H s → RelV x u → RelV y v → rd x y H Q → wpAny (model X.prog X.w) X.A (inplaceOp op u v) (EP X pins σ Q) X.xe s
/-- e.f op= value -/
def sFldAug (K : PySem.W.Frag) (ta tv : TE) (rd : V → V → Hp → VK → Prop) (f : Str) : TS := fun D σ H => ta σ H fun x H1 => ∃ a C dx fs v, x = .ref a ∧ H1 a = some (.ins C dx fs) ∧ Cls K C ∧ NoAttr K C f ∧ fs.lookup f = some v ∧
  tv σ H1 fun y H2 => rd v y H2 fun z H3 => ∃ dx' fs', H3 a = some (.ins C dx' fs') ∧ fs'.length < 1000 ∧ D.nx σ (upd H3 a (.ins C dx' (putF f z fs')))

section
variable {X : Cx} {o e value : Expr} {f : Str} {pos pos' tpos : Pos} {ta tv : TE}
def rAdd : V → V → Hp → VK → Prop := fun x y H Q => ∃ i j, x = .int i ∧ y = .int j ∧ Q (.int (i + j)) H
def rSub : V → V → Hp → VK → Prop := fun x y H Q => ∃ i j, x = .int i ∧ y = .int j ∧ Q (.int (i - j)) H
end

/-! ### isinstance -/
section
variable {X : Cx} {pins : List (Addr × Obj)} {σ : St} {H : Hp} {s : Shared} {A : Around} {E : Value → Shared → Prop} {Q : Value → Shared → Prop} {c : Value} {b : Bool}
/-- the type of a value, as the fragment's deciders take it; for an instance its class -/
inductive TyOf (K : PySem.W.Frag) (H : Hp) : V → Value → Prop where
  | non : TyOf K H .non (.type "NoneType")
  | bl (x : Bool) : TyOf K H (.bl x) (.type "bool")
  | int (i : Int) : TyOf K H (.int i) (.type "int")
  | str (x : Str) : TyOf K H (.str x) (.type "str")
  | flt (x : UInt64) : TyOf K H (.flt x) (.type "float")
  | lst {a : Addr} {xs : List V} (e : H a = some (.lst xs)) : TyOf K H (.ref a) (.type "list")
  | frz {a : Addr} {o : Obj} {xs : List V} (e : H a = some (.frz o (.lst xs))) : TyOf K H (.ref a) (.type "list")
  | tup {a : Addr} {xs : List V} (e : H a = some (.tup xs)) : TyOf K H (.ref a) (.type "tuple")
  | dK {a : Addr} {kvs : List (Key × V)} (e : H a = some (.dK kvs)) : TyOf K H (.ref a) (.type "dict")
  | dT {a : Addr} {kvs : List (List Key × V)} (e : H a = some (.dT kvs)) : TyOf K H (.ref a) (.type "dict")
  | ins {a C dx : Addr} {fs : List (Str × V)} (e : H a = some (.ins C dx fs)) (cl : Cls K C) (ha : PySem.W.findIn K (.ref C) "__class__" = some (some (.builtin "object.__class__")))
      (hn : PySem.W.specialIn K (.builtin "object.__class__") "__get__" = some (some (.builtin "getset_descriptor.__get__"))) (htk : PySem.W.takesIn K (.builtin "object.__class__") = some true)
      (hm : PySem.W.mroIn K C (.type "object") = some true) : TyOf K H (.ref a) (.ref C)
/-- isinstance(x, c) for one class c, a built-in or an own one: kitOne's answer -/
theorem isinst_ok {x : V} {u t : Value} (I : Inv X pins σ H s) (rx : RelV x u) (ty : TyOf X.K H x t) (e : PySem.W.kitOne X.K t c = some b) (h : ∀ tk, Q (.bool b) { s with toks := tk }) :
    wpAny (model X.prog X.w) A (call (.builtin "isinstance") [u, c]) Q E s := by
  cases ty with
  | non => cases (show u = Value.none from rx); exact PySem.W.kia_one PySem.W.kitx_none I.kIn True.intro e (fun z => nomatch z) h
  | bl y => cases (show u = Value.bool y from rx); exact PySem.W.kia_one PySem.W.kitx_bool I.kIn True.intro e (fun z => nomatch z) h
  | int i => obtain ⟨t, q⟩ := (show ∃ t, u = Value.int i t from rx); cases q; exact PySem.W.kia_one PySem.W.kitx_int I.kIn True.intro e (fun z => nomatch z) h
  | str y => obtain ⟨t, q⟩ := (show ∃ t, u = Value.str y t from rx); cases q; exact PySem.W.kia_one PySem.W.kitx_str I.kIn True.intro e (fun z => nomatch z) h
  | flt y => obtain ⟨t, q⟩ := (show ∃ t, u = Value.float y t from rx); cases q; exact PySem.W.kia_one PySem.W.kitx_float I.kIn True.intro e (fun z => nomatch z) h
  | @lst a xs ea =>
    cases (show u = Value.ref a from rx)
    obtain ⟨_, _, n, _, h1⟩ := (show ObjOk X.prog X.w H s.heap a (.lst xs) from I.hok a _ ea)
    exact PySem.W.kia_one PySem.W.kitx_list I.kIn ⟨_, h1, rfl⟩ e (fun z => nomatch z) h
  | @frz a ob xs ea =>
    cases (show u = Value.ref a from rx)
    obtain ⟨_, _, _, n, _, h1⟩ := (show ObjOk X.prog X.w H s.heap a (.frz ob (.lst xs)) from I.hok a _ ea)
    exact PySem.W.kia_one PySem.W.kitx_list I.kIn ⟨_, h1, rfl⟩ e (fun z => nomatch z) h
  | @tup a xs ea =>
    cases (show u = Value.ref a from rx)
    obtain ⟨_, _, _, p⟩ := (show ObjOk X.prog X.w H s.heap a (.tup xs) from I.hok a _ ea)
    obtain ⟨o, h1, h2, _⟩ := p
    exact PySem.W.kia_one PySem.W.kitx_tuple I.kIn ⟨o, h1, h2⟩ e (fun z => nomatch z) h
  | @dK a kvs ea =>
    cases (show u = Value.ref a from rx)
    obtain ⟨_, _, vs, _, p⟩ := (show ObjOk X.prog X.w H s.heap a (.dK kvs) from I.hok a _ ea)
    obtain ⟨o, es, ep, h1, h2, _⟩ := p
    exact PySem.W.kia_one PySem.W.kitx_dict I.kIn ⟨o, h1, h2.1⟩ e (fun z => nomatch z) h
  | @dT a kvs ea =>
    cases (show u = Value.ref a from rx)
    obtain ⟨_, _, xs, _, o, es, ep, h1, h2, _⟩ := (show ObjOk X.prog X.w H s.heap a (.dT kvs) from I.hok a _ ea)
    exact PySem.W.kia_one PySem.W.kitx_dict I.kIn ⟨o, h1, h2.1⟩ e (fun z => nomatch z) h
  | @ins a C dx fs ea cl ha hn htk hm =>
    cases (show u = Value.ref a from rx)
    obtain ⟨mA, O, _⟩ := ins_get I.hok ea
    obtain ⟨od, J, _⟩ := O.look
    exact PySem.W.kia_one (PySem.W.kitx_own (cl.get _) cl.hd ha hn htk hm) I.kIn J e (fun z => nomatch z) h
end
end L2

namespace L2
open PySem PySem.Spec PyProof.Rows

/-! ### room -/
structure Room (cc : Bool) (k : Nat) (A : Around) : Prop where
  hd : cc = true → A.handled = none
  dp : A.depth + 3 * k + 5 < recursionLimit
  un : A.units + 16 * k + 200 < cLine
theorem Room.mono {j k : Nat} {A : Around} (r : Room cc k A) (h : j ≤ k) : Room cc j A := ⟨r.hd, by have := r.dp; omega, by have := r.un; omega⟩
theorem Room.deeper {k : Nat} {A : Around} (r : Room cc (k + 1) A) (env : Env) : Room cc k (A.deeper env) :=
  ⟨r.hd, by have := r.dp; show A.depth + 1 + 3 * k + 5 < _; omega, by have := r.un; show A.units + 3 + 16 * k + 200 < _; omega⟩
theorem Room.depth {k : Nat} {A : Around} (r : Room cc k A) : A.depth < recursionLimit := by have := r.dp; omega
theorem Room.units {k : Nat} {A : Around} (r : Room cc k A) : A.units + 64 < cLine := by have := r.un; omega
/-! ### argument lists and displays -/
def tNil : TA := fun _ H Q => Q [] H
def tCons (ta : TE) (tr : TA) : TA := fun σ H Q => ta σ H fun x H1 => tr σ H1 fun xs H2 => Q (x :: xs) H2
section
variable {X : Cx} {e : Expr} {es : List Expr} {te : TE} {t : TA} {pos : Pos}
theorem pa_nil : PA X [] tNil := fun _ _ _ _ H Q I h => Calls.spliced_nil ⟨[], H, I, .nil, h⟩
theorem pa_cons (ha : PE X e te) (hr : PA X es t) (hs : starEach (e :: es) X.env = (false, eval e X.env) :: starEach es X.env := by rfl) : PA X (e :: es) (tCons te t) := by
  intro pos pins s σ H Q I h
  rw [hs]
  show wpAny _ _ (spliced ((false, eval e X.env) :: backTo pos (starEach es X.env))) _ _ s
  refine Calls.spliced_cons (thn (ha pins s σ H _ I h) fun u s1 ⟨x, H1, I1, r1, q1⟩ => ?_)
  exact thn (hr pos pins s1 σ H1 _ I1 q1) fun us s2 ⟨xs, H2, I2, r2, q2⟩ => ⟨x :: xs, H2, I2, .cons r1 r2, q2⟩

/-- a tuple, a list of written items -/
def tTup (t : TA) : TE := fun σ H Q => t σ H fun xs H1 => xs.length ≤ sizeLine ∧ ∀ p, H1 p = none → Q (.ref p) (upd H1 p (.tup xs))
def tLst (t : TA) : TE := fun σ H Q => t σ H fun xs H1 => xs.length ≤ sizeLine ∧ ∀ p, H1 p = none → Q (.ref p) (upd H1 p (.lst xs))
theorem pe_tup {x1} (h : PA X es t) : PE X (.Tuple es x1 pos) (tTup t) := by
  intro pins s σ H Q I hq
  refine wpAny_Tuple_spliced (thn (h pos pins s σ H _ I hq) fun us s1 ⟨xs, H1, I1, r, z, q⟩ => ⟨by rw [← r.length]; exact z, ?_⟩)
  have hf : H1 s1.heap.objs.size = none := I1.hok.fresh (Nat.le_refl _)
  refine ⟨.ref s1.heap.objs.size, upd H1 s1.heap.objs.size (.tup xs), I1.laid (t' := s1.toks) (fun b u e => Heap.get?_push_of_some _ e) (Nat.le_refl _) ?_, rfl, q _ hf⟩
  exact ⟨z, us, r, ⟨_, Heap.get?_push_size _ rfl, rfl, _, rfl⟩⟩
theorem pe_lst (h : PA X es t) : PE X (.List es pos) (tLst t) := by
  intro pins s σ H Q I hq
  refine wpAny_List_spliced (thn (h pos pins s σ H _ I hq) fun us s1 ⟨xs, H1, I1, r, z, q⟩ => ⟨by rw [← r.length]; exact z, ?_⟩)
  have hf : H1 s1.heap.objs.size = none := I1.hok.fresh (Nat.le_refl _)
  refine ⟨.ref s1.heap.objs.size, upd H1 s1.heap.objs.size (.lst xs), I1.laid (t' := s1.toks) (fun b u e => Heap.get?_push_of_some _ e) (Nat.le_refl _) ?_, rfl, q _ hf⟩
  exact ⟨z, us, 0, r, Heap.get?_push_size _ rfl⟩
end

/-! ### what a def promises -/
/-- a def's promise: the bound arguments in the parameters' order, the heap, the wanted end, the wanted exception -/
abbrev Sp := List V → Hp → VK → XK → Prop
/-- how an exception lies behind a call (file 08 gives it): the callers' frames, abstract heap and state ahead of the call, the wish, the exception, the state -/
abbrev CXT := List Env → Hp → Shared → XK → Value → Shared → Prop

/-- the state at a call -/
structure Env0 (P : Program) (w : World) (K : PySem.W.Frag) (mg : Str → Option Value) (base : Heap) (A : Around) (outer : List Env) (s : Shared) (H : Hp) : Prop where
  frames : A.frames = some outer
  mod : Mod K mg base
  bs : ∀ b o, base.get? b = some o → s.heap.get? b = some o ∧ H b = none
  bsz : base.objs.size ≤ s.heap.objs.size
  funs : s.heap.FunFrames base outer
  frf : ∀ b ∈ frs outer, H b = none
  hok : HOk P w H s.heap
  bare : AllBare s.gens
/-- a call's end -/
def CE (outer : List Env) (P : Program) (w : World) (H : Hp) (s : Shared) (Q : VK) (u : Value) (s' : Shared) : Prop :=
  ∃ v H', s'.os = s.os ∧ AllBare s'.gens ∧ Un (frs outer) [] H H' s.heap s'.heap ∧ HOk P w H' s'.heap ∧ RelV v u ∧ Q v H'
def CR (CX : CXT) (outer : List Env) (P : Program) (w : World) (H : Hp) (s : Shared) (Q : VK) (E : XK) (r : Result) (s' : Shared) : Prop :=
  match r with
  | .ok (.ret u) => CE outer P w H s Q u s'
  | .ok _ => False
  | .error e => CX outer H s E e s'
structure FnOk (P : Program) (w : World) (K : PySem.W.Frag) (mg : Str → Option Value) (base : Heap) (CX : CXT) (cc : Bool) (k : Nat) (f : Addr) (fd : FuncData) (ps : List Str) (sp : Sp) : Prop where
  len : ∀ vs H Q E, sp vs H Q E → vs.length = ps.length
  run : ∀ (A : Around) (outer : List Env) (s : Shared) (H : Hp) (args : Args) (us : List Value) (vs : List V) (Q : VK) (E : XK), Room cc k A → Env0 P w K mg base A outer s H → BindsTo s fd args (ps.zip us) → Vals vs us → sp vs H Q E →
    codeAny (model P w) A (.call (.ref f) args) (CR CX outer P w H s Q E) s
section
variable {X : Cx} {pins : List (Addr × Obj)} {σ : St} {H : Hp} {s s' : Shared}
/-- from a body: what a callee wants -/
theorem Inv.env0 (I : Inv X pins σ H s) : Env0 X.prog X.w X.K X.mg X.base X.A X.stack s H :=
  ⟨I.ok.frames, I.ok.mod, I.bs, Nat.le_trans I.ok.bsz I.sz, I.stack, I.stkFree, I.hok, I.bare⟩
/-- behind a call -/
theorem Inv.after {Q : VK} {u : Value} (I : Inv X pins σ H s) (h : CE X.stack X.prog X.w H s Q u s') : EP X pins σ Q u s' := by
  obtain ⟨v, H', os, bare, un, hok, r, q⟩ := h
  obtain ⟨hh, g, d, t, os'⟩ := s'
  obtain rfl : os' = s.os := os
  exact ⟨v, H', I.call (h' := hh) (g' := g) (d' := d) (t' := t) (ch := []) un hok bare (fun b z => absurd z (by simp)), r, q⟩
end

/-! ### calls -/
/-- f(..): the written arguments, then the defaults dvs; E: what is wanted of an exception -/
def tCall (sp : Sp) (dvs : List V) (E : XK) (t : TA) : TE := fun σ H Q => t σ H fun vs H1 => sp (vs ++ dvs) H1 Q E
/-- o.m(..) of an instance of the class at C -/
def tMeth (C : Addr) (m : Str) (sp : Sp) (dvs : List V) (E : XK) (ta : TE) (t : TA) : TE := fun σ H Q => ta σ H fun x H1 => ∃ a dx fs, x = .ref a ∧ H1 a = some (.ins C dx fs) ∧ fs.lookup m = none ∧
  t σ H1 fun vs H2 => sp (x :: (vs ++ dvs)) H2 Q E
/-- C(..): a new instance and its dict, then __init__ -/
def tMake (C : Addr) (sp : Sp) (dvs : List V) (E : XK) (t : TA) : TE := fun σ H Q => t σ H fun vs H1 => ∀ x dx, H1 x = none → H1 dx = none → dx ≠ x →
  sp (.ref x :: (vs ++ dvs)) (upd (upd H1 dx (.own x)) x (.ins C dx [])) (fun v H2 => v = .non ∧ Q (.ref x) H2) E

/-- how the parameters are bound: us the positional arguments, kw the keywords' values by name, ds the defaults that fill up -/
def Binds (K : PySem.W.Frag) (fd : FuncData) (ps : List Str) (ds : List Value) : Prop :=
  ∀ (s : Shared) (us : List Value), K.In s.heap → (us ++ ds).length = ps.length → BindsTo s fd ⟨us, []⟩ (ps.zip (us ++ ds))
/-- every parameter is given -/
theorem Binds.all {K : PySem.W.Frag} {fd : FuncData} {ps : List Str} (h : ∀ us : List Value, us.length = ps.length → bindArgs fd ⟨us, []⟩ = pure (ps.zip us)) : Binds K fd ps [] := fun s us _ hl => by
  rw [List.append_nil] at hl ⊢
  exact .of_eq (h us hl)

/-- an exception of a callee reaches what this body wants of exceptions -/
def Passes (CX : CXT) (X : Cx) (E : XK) : Prop := ∀ (pins : List (Addr × Obj)) (σ : St) (H : Hp) (s : Shared) (e : Value) (s' : Shared), Inv X pins σ H s → CX X.stack H s E e s' → X.xe e s'

section
variable {X : Cx} {CX : CXT} {k : Nat} {f C : Addr} {fd : FuncData} {ps : List Str} {sp : Sp} {dvs : List V} {ds : List Value} {E : XK} {x m : Str} {p pos apos : Pos} {e o : Expr} {es : List Expr} {ta : TE} {t : TA}

/-- what a class must have to be made -/
structure Mk (K : PySem.W.Frag) (C f : Addr) : Prop where
  makes : PySem.W.makesIn K C = true
  init : PySem.W.findIn K (.ref C) "__init__" = some (some (.ref f))
  fn : PySem.W.isFn K (.ref f) = true
  kp : PySem.W.keepIn K (.ref C) = true

end

/-! ### keywords -/
/-- the values of the keywords, from the left -/
def PK (X : Cx) (kws : List Keyword) (t : TA) : Prop :=
  ∀ (pos : Pos) (pins : List (Addr × Obj)) (s : Shared) (σ : St) (H : Hp) (Q : List V → Hp → Prop), Inv X pins σ H s → t σ H Q → wpAny (model X.prog X.w) X.A (evalAll ((backToKw pos (keywordEach kws X.env)).map (·.2))) (AP X pins σ Q) X.xe s
section
variable {X : Cx} {CX : CXT} {k : Nat} {f C : Addr} {fd : FuncData} {ps ks : List Str} {sp : Sp} {E : XK} {x m : Str} {p pos apos kpos : Pos} {e o : Expr} {es : List Expr} {kws : List Keyword} {te ta : TE} {t tk : TA} {nm : Option Str}
/-- how a call with keywords binds: g puts the positional values us and the keywords' values ws (names ks) in the parameters' order, defaults among them -/
structure KBinds (K : PySem.W.Frag) (fd : FuncData) (ps ks : List Str) (g : List Value → List Value → List Value) (gV : List V → List V → List V) : Prop where
  to : ∀ (s : Shared) (us ws : List Value), K.In s.heap → (g us ws).length = ps.length → BindsTo s fd ⟨us, ks.zip ws⟩ (ps.zip (g us ws))
  rel : ∀ {vs : List V} {us : List Value} {zs : List V} {ws : List Value}, Vals vs us → Vals zs ws → Vals (gV vs zs) (g us ws)
def tCallK (sp : Sp) (gV : List V → List V → List V) (E : XK) (t tk : TA) : TE := fun σ H Q => t σ H fun vs H1 => tk σ H1 fun zs H2 => sp (gV vs zs) H2 Q E
variable {g : List Value → List Value → List Value} {gV : List V → List V → List V}
end

/-! ### a def's body keeps its promise -/
/-- names: the parameters first -/
structure FnScope (N P : List Str) (sc : Scope) : Prop where
  kind : sc.kind = .function
  co : sc.isCoroutine = false
  gen : sc.isGenerator = false
  nd : N.Nodup
  pre : N.take P.length = P
  par : ∀ x ∈ P, sc.names.lookup x = some .local ∨ sc.names.lookup x = some .cell
  nofree : ∀ y ∈ sc.names, y.2 ≠ .free

theorem bindL_out {kindOf : Str → Option NameKind} {x : Str} : ∀ {binds : List (Str × Value)} {m : Str → Option Value}, (∀ v, (x, v) ∉ binds) → bindL kindOf binds m x = m x
  | [], _, _ => rfl
  | (n, v) :: r, m, h => by
    unfold bindL
    rw [bindL_out fun w hw => h w (List.mem_cons_of_mem _ hw)]
    split
    · have : x ≠ n := by rintro rfl; exact h v List.mem_cons_self
      simp [this]
    · rfl
theorem bindC_out {kindOf : Str → Option NameKind} {x : Str} : ∀ {binds : List (Str × Value)} {m : Str → Option Value}, (∀ v, (x, v) ∉ binds) → bindC kindOf binds m x = m x
  | [], _, _ => rfl
  | (n, v) :: r, m, h => by
    unfold bindC
    rw [bindC_out fun w hw => h w (List.mem_cons_of_mem _ hw)]
    split
    · rfl
    · have : x ≠ n := by rintro rfl; exact h v List.mem_cons_self
      simp [this]
theorem bindL_get {kindOf : Str → Option NameKind} {x : Str} {v : Value} : ∀ {P : List Str} {vs : List Value} {i : Nat} {m : Str → Option Value}, P.Nodup → P[i]? = some x → vs[i]? = some v → kindOf x = some .local →
    bindL kindOf (P.zip vs) m x = some v
  | [], _, _, _, _, h, _, _ => by simp at h
  | _ :: _, [], _, _, _, _, h, _ => by simp at h
  | p :: P, w :: vs, 0, m, nd, h1, h2, hk => by
    simp at h1 h2; subst h1; subst h2
    show bindL kindOf ((p, w) :: P.zip vs) m p = _
    unfold bindL
    rw [bindL_out fun v hv => (List.nodup_cons.mp nd).1 (List.of_mem_zip hv).1, if_pos hk]
    simp
  | p :: P, w :: vs, i + 1, m, nd, h1, h2, hk => by
    show bindL kindOf ((p, w) :: P.zip vs) m x = _
    unfold bindL
    exact bindL_get (i := i) (List.nodup_cons.mp nd).2 (by simpa using h1) (by simpa using h2) hk
theorem bindC_get {kindOf : Str → Option NameKind} {x : Str} {v : Value} : ∀ {P : List Str} {vs : List Value} {i : Nat} {m : Str → Option Value}, P.Nodup → P[i]? = some x → vs[i]? = some v → kindOf x ≠ some .local →
    bindC kindOf (P.zip vs) m x = some v
  | [], _, _, _, _, h, _, _ => by simp at h
  | _ :: _, [], _, _, _, _, h, _ => by simp at h
  | p :: P, w :: vs, 0, m, nd, h1, h2, hk => by
    simp at h1 h2; subst h1; subst h2
    show bindC kindOf ((p, w) :: P.zip vs) m p = _
    unfold bindC
    rw [bindC_out fun v hv => (List.nodup_cons.mp nd).1 (List.of_mem_zip hv).1, if_neg hk]
    simp
  | p :: P, w :: vs, i + 1, m, nd, h1, h2, hk => by
    show bindC kindOf ((p, w) :: P.zip vs) m x = _
    unfold bindC
    exact bindC_get (i := i) (List.nodup_cons.mp nd).2 (by simpa using h1) (by simpa using h2) hk

/-- the names' values at the entry -/
def start (N : List Str) (vs : List V) : St := vs.map some ++ List.replicate (N.length - vs.length) none

/-- the context of a def's body, at its entry; an exception leaves the frame, then lies as CX says -/
def cxOf (cc : Bool) (CX : CXT) (P : Program) (w : World) (K : PySem.W.Frag) (mg : Str → Option Value) (base : Heap) (N : List Str) (qual : Str) (scope : Scope) (f : Addr) (cd : Value) (A : Around) (outer : List Env) (s : Shared) (H : Hp) (E : XK) : Cx where
  prog := P
  w := w
  K := K
  mg := mg
  base := base
  A := A.deeper (envOfC qual scope s.heap.objs.size f cd)
  N := N
  s₀ := s
  H₀ := H
  env := envOfC qual scope s.heap.objs.size f cd
  outer := outer
  stack := envOfC qual scope s.heap.objs.size f cd :: outer
  ex := []
  calm := cc
  fn := fun _ => true
  pn := []
  xe := fun e s' => wpAny (model P w) (A.deeper (envOfC qual scope s.heap.objs.size f cd)) (leaving (envOfC qual scope s.heap.objs.size f cd) e) (fun _ s'' => CX outer H s E e s'') (fun e' s'' => CX outer H s E e' s'') s'

theorem cell_has {sc : Scope} {n : Nat} {x : Str} (h : sc.names.lookup x = some .cell) : ∃ c, (cellsFrom n sc.names []).lookup x = some c := by
  have q := PySem.W.cellsFrom_some sc.names n [] (.inl h)
  exact Option.isSome_iff_exists.mp q

theorem inv_start {CX : CXT} {P : Program} {w : World} {K : PySem.W.Frag} {mg : Str → Option Value} {base : Heap} {N ps : List Str} {qual : Str} {scope : Scope} {f : Addr} {cd : Value} {A : Around} {outer : List Env} {s s1 : Shared} {H : Hp} {E : XK} {us : List Value} {vs : List V}
    (S : FnScope N ps scope) (hd : cc = true → A.handled = none) (e0 : Env0 P w K mg base A outer s H) (hl : vs.length = ps.length) (r : Vals vs us)
    (x : InCallC s s.heap.objs.size (bindL (envOfC qual scope s.heap.objs.size f cd).kindOf (ps.zip us) fun _ => none) (cellsFrom (s.heap.objs.size + 1) scope.names []) (bindC (envOfC qual scope s.heap.objs.size f cd).kindOf (ps.zip us) fun _ => none) s1) :
    Inv (cxOf cc CX P w K mg base N qual scope f cd A outer s H E) [] (start N vs) H s1 := by
  have hpl : ps.length ≤ N.length := by have := congrArg List.length S.pre; rw [List.length_take] at this; omega
  obtain ⟨h1, tk, rfl, hk⟩ := x.done
  have noA : ∀ b : Addr, b ∉ (cxOf cc CX P w K mg base N qual scope f cd A outer s H E).ex := fun b z => absurd (show b ∈ ([] : List Addr) from z) (by simp)
  refine ⟨⟨e0.mod, S.kind, rfl, rfl, Nat.le_refl _, fun y z c h1 h2 => ?_, fun y hy => ?_, fun y c _ h => ?_, hd, Around.frames_deeper e0.frames, .inr ⟨rfl, rfl⟩, fun b z => absurd z (noA b), e0.bs, e0.bsz, fun b _ _ => noA b, fun b z => absurd z (noA b), e0.funs, e0.frf⟩,
    rfl, e0.bare, Un.kept hk, ⟨_, x.toInCall.ns, fun i y v h1 h2 h3 => ?_⟩, fun y c h => ⟨_, x.cell y c h⟩, e0.hok.fresh (Nat.le_refl _), fun y c h => ?_, fun p hp => absurd (show p ∈ ([] : List (Addr × Obj)) from hp) (by simp), e0.hok.kept hk, ?_⟩
  · exact name_of_addr x.apart (PySem.mem_of_lookup h1) (PySem.mem_of_lookup h2)
  · have hy : scope.names.lookup y = some .cell ∨ scope.names.lookup y = some .free := hy
    rcases hy with hy | hy
    · exact cell_has hy
    · exact absurd rfl (S.nofree _ (PySem.mem_of_lookup hy))
  · exact Nat.le_of_lt (x.above y c (PySem.mem_of_lookup h))
  · have hi : i < vs.length := by
      unfold start at h2
      by_cases hi : i < vs.length
      · exact hi
      · rw [List.getElem?_append_right (by simpa using hi)] at h2
        rw [List.getElem?_replicate] at h2
        split at h2 <;> cases h2
    have ha : vs[i]? = some v := by
      unfold start at h2
      rw [List.getElem?_append_left (by simpa using hi), List.getElem?_map] at h2
      cases e : vs[i]? with
      | none => rw [e] at h2; cases h2
      | some a => rw [e] at h2; cases h2; rfl
    obtain ⟨u, hu, rv⟩ := r.get ha
    have hp : ps[i]? = some y := by
      rw [← S.pre, List.getElem?_take_of_lt (by omega)]; exact h1
    have ndP : ps.Nodup := by rw [← S.pre]; exact S.nd.sublist (List.take_sublist _ _)
    refine ⟨u, rv, ?_⟩
    rcases S.par y (List.mem_of_getElem? hp) with k | k
    · exact .inl ⟨k, bindL_get ndP hp hu k⟩
    · obtain ⟨c, e⟩ := cell_has (n := s.heap.objs.size + 1) k
      refine .inr ⟨.inl k, c, e, ?_⟩
      have q := x.cell y c e
      rw [bindC_get ndP hp hu (by show scope.names.lookup y ≠ _; rw [k]; decide)] at q
      exact q
  · exact e0.hok.fresh (Nat.le_of_lt (x.above y c (PySem.mem_of_lookup h)))
  · unfold start
    show _ = N.length
    rw [List.length_append, List.length_map, List.length_replicate]
    omega

/-- THE RULE: a def (or a method) of the text, by its body. The body's reading t is chosen for each entry; it is run at the parameters' values -/
theorem fn_of {CX : CXT} {P : Program} {w : World} {K : PySem.W.Frag} {mg : Str → Option Value} {base : Heap} {k : Nat} {f : Addr} {name qual : Str} {params : Arguments} {body : List Stmt} {scope : Scope} {dV kV doc pm cdv ct oc : Value} {an od : Option Addr}
    {osl : Array (Option Value)} {N ps : List Str} {sp : Sp} (lk : K.lookup f = some ⟨oc, od, .func (PySem.W.fnOf name qual params body scope dV kV doc pm an cdv ct), osl⟩) (hcd : PySem.W.codeIn K cdv qual = true) (S : FnScope N ps scope)
    (len : ∀ vs H Q E, sp vs H Q E → vs.length = ps.length)
    (hbody : ∀ (A : Around) (outer : List Env) (s : Shared) (H : Hp) (vs : List V) (Q : VK) (E : XK), Room cc k (A.deeper (envOfC qual scope s.heap.objs.size f cdv)) → sp vs H Q E →
      ∃ t, PSs (cxOf cc CX P w K mg base N qual scope f cdv A outer s H E) body t ∧ t { nx := fun _ H' => Q .non H', rt := Q } (start N vs) H) :
    FnOk P w K mg base CX cc (k + 1) f (PySem.W.fnOf name qual params body scope dV kV doc pm an cdv ct) ps sp := by
  refine ⟨len, fun A outer s H args us vs Q E hr e0 hb r hsp => ?_⟩
  have hl := len _ _ _ _ hsp
  have KX : K.In s.heap := e0.mod.kin.keeps fun b o e => (e0.bs b o e).1
  have lim : s.heap.NoLimit := e0.mod.nolimit.keeps fun b o e => (e0.bs b o e).1
  have hkind : ∀ y ∈ ps.zip us, scope.names.lookup y.1 = some .local ∨ (scope.names.lookup y.1 = some .cell ∧ ((cellsFrom (s.heap.objs.size + 1) scope.names []).lookup y.1).isSome = true) := fun ⟨n, v⟩ hy => by
    rcases S.par n (List.of_mem_zip hy).1 with q | q
    · exact .inl q
    · exact .inr ⟨q, PySem.W.cellsFrom_some _ _ _ (.inl q)⟩
  refine codeAny_call_function hr.depth (KX _ _ lk) rfl S.co S.gen rfl (PySem.W.codeRec_of KX hcd) (hb _ _ _ _ ?_)
  refine wpAny_newFunctionEnv_cells S.kind hkind fun env he s1 x => ?_
  subst he
  refine ⟨lim.keeps x.toInCall.keep, codeAny_func ?_⟩
  obtain ⟨t, ht, hq⟩ := hbody A outer s H vs Q E (hr.deeper _) hsp
  have I : Inv (cxOf cc CX P w K mg base N qual scope f cdv A outer s H E) [] (start N vs) H s1 := inv_start S hr.hd e0 hl r x
  refine wpAny_mono (ht [] s1 (start N vs) H _ I hq) (fun fl s' hs => ?_) fun e s' hs => hs
  have fin : ∀ {σ' : St} {H' : Hp} {v : V} {u : Value}, Inv (cxOf cc CX P w K mg base N qual scope f cdv A outer s H E) [] σ' H' s' → RelV v u → Q v H' → CE outer P w H s Q u s' :=
    fun {σ' H' v u} J rv q => ⟨v, H', J.os, J.bare, J.base, J.hok, rv, q⟩
  cases fl with
  | ret u =>
    obtain ⟨v, σ', H', J, rv, q⟩ := hs
    exact fin J rv q
  | next =>
    obtain ⟨σ', H', J, q⟩ := hs
    exact fin (v := V.non) (u := Value.none) J rfl q
  | brk =>
    obtain ⟨_, _, _, q⟩ := hs
    exact False.elim q
  | cont =>
    obtain ⟨_, _, _, q⟩ := hs
    exact False.elim q
end L2

namespace L2
open PySem PySem.Spec PyProof.Rows
section
variable {X : Cx} {x : Str} {p pos : Pos} {e : Expr} {es : List Expr} {t : TA} {id T : String} {r : List V → Hp → VK → Prop}

def tCB (r : List V → Hp → VK → Prop) (t : TA) : TE := fun σ H Q => t σ H fun vs H1 => r vs H1 Q
/-- f(e, ..), f a built-in function -/
theorem pe_callB (hc : CallR X (.builtin id) r) (hg : Gl X x) (hm : X.mg x = none) (hv : bootBuiltins x = some (.builtin id)) (ha : PA X (e :: es) t) (hn : x ≠ "__name__" := by decide) (hdb : (x == ("__debug__" : Str)) = false := by decide)
    (he : starEach (e :: es) X.env = (false, eval e X.env) :: starEach es X.env := by rfl) (hpl : (backTo pos (starEach es X.env)).any (·.1) = false := by rfl) : PE X (.Call (.Name x p) (e :: es) [] pos) (tCB r t) := by
  intro pins s σ H Q I h
  refine wpAny_Call_Name_kw (ld_blt I hg hm hv ?_ hn hdb)
  exact PyProof.Rows.callWith_builtin1 (thn (ha pos pins s σ H _ I h) fun us s1 ⟨vs, H1, I1, r1, q1⟩ => hc pins s1 σ H1 vs us Q I1 r1 q1) he hpl
/-- T(e, ..), T a built-in type -/
theorem pe_callTy (hc : CallR X (.type T) r) (hg : Gl X x) (hm : X.mg x = none) (hv : bootBuiltins x = some (.type T)) (ha : PA X (e :: es) t) (hn : x ≠ "__name__" := by decide) (hdb : (x == ("__debug__" : Str)) = false := by decide)
    (he : starEach (e :: es) X.env = (false, eval e X.env) :: starEach es X.env := by rfl) (hpl : (backTo pos (starEach es X.env)).any (·.1) = false := by rfl) : PE X (.Call (.Name x p) (e :: es) [] pos) (tCB r t) := by
  intro pins s σ H Q I h
  refine wpAny_Call_Name_kw (ld_blt I hg hm hv ?_ hn hdb)
  exact PyProof.Rows.callWith_type1 (thn (ha pos pins s σ H _ I h) fun us s1 ⟨vs, H1, I1, r1, q1⟩ => hc pins s1 σ H1 vs us Q I1 r1 q1) he hpl
end
end L2

namespace HT
open PySem PyProof.Rows

/-- t < u of tuples of ints -/
def lexLt : List Int → List Int → Bool
  | [], [] => false
  | [], _ :: _ => true
  | _ :: _, [] => false
  | x :: xs, y :: ys => if x = y then lexLt xs ys else decide (x < y)
section
open PySem.SeqAt
open PySem.AutoSeq1 (wpAny_loadPart')
open PySem.MeetsSeq PySem.MeetsSeq2 PySem.MeetsSeq3

end

section
variable {prog : Program} {w : World} {A : Around} {E : Value → Shared → Prop} {s : Shared}

/-! ### t[a:b], not the whole -/
/-- a slice's bound as a place among n (d where it is left out) -/
def sIx (n d : Nat) : Option Int → Nat
  | none => d
  | some v => if v < 0 then (v + (n : Int)).toNat else min v.toNat n
theorem sIx_none (n d : Nat) : sIx n d none = d := rfl
theorem sIx_nat (n d k : Nat) : sIx n d (some (k : Int)) = min k n := by
  show (if (k : Int) < 0 then ((k : Int) + (n : Int)).toNat else min (k : Int).toNat n) = min k n
  rw [if_neg (by omega), Int.toNat_natCast]
theorem sIx_le (n d : Nat) (hd : d ≤ n) (o : Option Int) : sIx n d o ≤ n := by
  cases o with
  | none => exact hd
  | some v =>
    show (if v < 0 then (v + (n : Int)).toNat else min v.toNat n) ≤ n
    by_cases hv : v < 0
    · rw [if_pos hv]; omega
    · rw [if_neg hv]; exact Nat.min_le_right _ _
theorem clip_eq (v : Int) (n d : Nat) : (if v < 0 then max (v + (n : Int)) 0 else min v (n : Int)) = ((sIx n d (some v) : Nat) : Int) := by
  show (if v < 0 then max (v + (n : Int)) 0 else min v (n : Int)) = (((if v < 0 then (v + (n : Int)).toNat else min v.toNat n) : Nat) : Int)
  by_cases hv : v < 0
  · simp only [if_pos hv]; omega
  · simp only [if_neg hv]; omega
end
end HT

namespace L2
open PySem PySem.Spec PyProof.Rows

/-! ### the parts of a slice -/
abbrev TO := St → Hp → (Option Int → Hp → Prop) → Prop
/-- a slice's part (left out, or an int) -/
def PO (X : Cx) (e : Option Expr) (t : TO) : Prop :=
  ∀ (pins : List (Addr × Obj)) (s : Shared) (σ : St) (H : Hp) (Q : Option Int → Hp → Prop), Inv X pins σ H s → t σ H Q →
    wpAny (model X.prog X.w) X.A (evalPart e X.env) (fun u s' => ∃ o H', Inv X pins σ H' s' ∧ IsPart u o ∧ Q o H') X.xe s
def tNoPart : TO := fun _ H Q => Q none H
def tPart (t : TE) : TO := fun σ H Q => t σ H fun x H1 => ∃ i, x = .int i ∧ Q (some i) H1

section
variable {X : Cx} {e : Expr} {te : TE} {lo hi : Option Expr} {tl th : TO} {pos p2 : Pos}

theorem po_none : PO X none tNoPart := by
  intro pins s σ H Q I h
  rw [evalPart_none]
  exact wpAny_pure ⟨none, H, I, .none, h⟩
theorem po_some (h : PE X e te) : PO X (some e) (tPart te) := by
  intro pins s σ H Q I hw
  rw [evalPart_some]
  refine thn (h pins s σ H _ I hw) fun u s1 ⟨x, H1, I1, r1, q1⟩ => ?_
  obtain ⟨i, rfl, q⟩ := q1
  obtain ⟨t, rfl⟩ := r1
  exact ⟨some i, H1, I1, .int i t, q⟩

/-- what a slice of a value is, by values: the slice object stands at sl -/
def SlR (X : Cx) (r : V → Option Int → Option Int → Hp → VK → Prop) : Prop :=
  ∀ (pins : List (Addr × Obj)) (s : Shared) (σ : St) (H : Hp) (x : V) (v vl vu : Value) (lo hi : Option Int) (sl : Addr) (Q : VK), Inv X pins σ H s → RelV x v → s.heap.IsSliceOf sl vl vu .none → IsPart vl lo → IsPart vu hi → r x lo hi H Q →
    ∃ T id, typeLookup (.type T) "__getitem__" = pure (some (.builtin id)) ∧ s.TypeIs v T ∧ wpAny (model X.prog X.w) X.A (getItem v (.ref sl)) (EP X pins σ Q) X.xe s
def tSl (r : V → Option Int → Option Int → Hp → VK → Prop) (te : TE) (tl th : TO) : TE := fun σ H Q => te σ H fun x H1 => tl σ H1 fun l H2 => th σ H2 fun u H3 => r x l u H3 Q
/-- a[lo:hi], any a -/
theorem pe_slice {r : V → Option Int → Option Int → Hp → VK → Prop} (hr : SlR X r) (he : PE X e te) (hl : PO X lo tl) (hu : PO X hi th) : PE X (.Subscript e (.Slice lo hi none p2) pos) (tSl r te tl th) := by
  intro pins s σ H Q I h
  refine Subscript_ (thn (he pins s σ H _ I h) fun v s1 ⟨x, H1, I1, r1, q1⟩ => ?_)
  refine wpAny_Slice (thn (hl pins s1 σ H1 _ I1 q1) fun vl s2 ⟨l, H2, I2, pl, q2⟩ => thn (hu pins s2 σ H2 _ I2 q2) fun vu s3 ⟨u, H3, I3, pu, q3⟩ => ?_)
  rw [evalPart_none]
  refine wpAny_pure ?_
  have I4 : Inv X pins σ H3 { s3 with heap := s3.heap.push { cls := .type "slice", data := .fields #[vl, vu, .none] } } := I3.kept (t' := s3.toks) fun b ob q => Heap.get?_push_of_some _ q
  obtain ⟨T, id, hT, ht, hg⟩ := hr pins { s3 with heap := s3.heap.push { cls := .type "slice", data := .fields #[vl, vu, .none] } } σ H3 x v vl vu l u s3.heap.objs.size Q I4 r1 (Heap.IsSliceOf.new ..) pl pu q3
  show wpAny (model X.prog X.w) X.A (subscriptTail e (.Slice lo hi none p2) v (.ref s3.heap.objs.size)) (EP X pins σ Q) X.xe { s3 with heap := s3.heap.push { cls := .type "slice", data := .fields #[vl, vu, .none] } }
  exact tail_any (ops := [.ref s3.heap.objs.size, v]) ht hT hg (by with_unfolding_all rfl)

/-- the items of xs[lo:hi] -/
def cutV (xs : List V) (lo hi : Option Int) : List V := (xs.drop (HT.sIx xs.length 0 lo)).take (HT.sIx xs.length xs.length hi - HT.sIx xs.length 0 lo)
theorem cutV_length (xs : List V) (lo hi : Option Int) : (cutV xs lo hi).length ≤ xs.length := by
  unfold cutV
  rw [List.length_take, List.length_drop]
  omega
/-- t[lo:hi], not the whole of it (the whole would be t itself) -/
def rSlT (K : PySem.W.Frag) : V → Option Int → Option Int → Hp → VK → Prop := fun x lo hi H Q => ∃ a xs, x = .ref a ∧ SqT K H a xs ∧
  ¬ (HT.sIx xs.length 0 lo = 0 ∧ HT.sIx xs.length xs.length hi = xs.length) ∧ ∀ p, H p = none → Q (.ref p) (upd H p (.tup (cutV xs lo hi)))
/-! ### t < u, t + u -/
def rLtT (K : PySem.W.Frag) : R2 := fun x y H Q => ∃ a b ns ms, x = .ref a ∧ y = .ref b ∧ SqT K H a (ns.map V.int) ∧ SqT K H b (ms.map V.int) ∧ Q (.bl (HT.lexLt ns ms)) H
/-- t + u, t not empty: u empty gives t itself -/
def rCatT (K : PySem.W.Frag) : R2 := fun x y H Q => ∃ a b xs ys, x = .ref a ∧ y = .ref b ∧ SqT K H a xs ∧ SqT K H b ys ∧ xs ≠ [] ∧ xs.length + ys.length ≤ sizeLine ∧
  (ys = [] → Q (.ref a) H) ∧ (ys ≠ [] → ∀ p, H p = none → Q (.ref p) (upd H p (.tup (xs ++ ys))))
end
end L2

namespace L2
open PySem PySem.Spec PyProof.Rows

/-! ### places -/
/-- the place that an index of any sign means -/
def ixN (n : Nat) (i : Int) : Option Nat := if 0 ≤ i then (if i < n then some i.toNat else none) else if -(n : Int) ≤ i then some (i + n).toNat else none
def atI {α : Type} (xs : List α) (i : Int) : Option α := (ixN xs.length i).bind fun j => xs[j]?
theorem ixN_seq {n : Nat} {i : Int} {j : Nat} (h : ixN n i = some j) : seqIndex? i n = some j ∧ j < n ∧ -(n : Int) ≤ i ∧ i < n := by
  unfold ixN at h
  by_cases h0 : 0 ≤ i
  · rw [if_pos h0] at h
    by_cases h1 : i < n
    · rw [if_pos h1] at h
      have e : i.toNat = j := Option.some.inj h
      exact ⟨by rw [seqIndex_of h0 h1, e], by omega, by omega, h1⟩
    · rw [if_neg h1] at h; cases h
  · rw [if_neg h0] at h
    by_cases h1 : -(n : Int) ≤ i
    · rw [if_pos h1] at h
      have e : (i + n).toNat = j := Option.some.inj h
      exact ⟨by rw [seqIndex_neg (by omega) h1, e], by omega, h1, by omega⟩
    · rw [if_neg h1] at h; cases h
theorem atI_get {α : Type} {xs : List α} {i : Int} {v : α} (h : atI xs i = some v) : ∃ j, seqIndex? i xs.length = some j ∧ xs[j]? = some v ∧ j < xs.length ∧ -(xs.length : Int) ≤ i ∧ i < xs.length := by
  unfold atI at h
  cases e : ixN xs.length i with
  | none => rw [e] at h; cases h
  | some j =>
    rw [e] at h
    obtain ⟨h1, h2, h3, h4⟩ := ixN_seq e
    exact ⟨j, h1, h, h2, h3, h4⟩
theorem atI_nat {α : Type} {xs : List α} {j : Nat} {v : α} (h : xs[j]? = some v) : atI xs (j : Int) = some v := by
  have hj : j < xs.length := (List.getElem?_eq_some_iff.mp h).1
  have e : ixN xs.length (j : Int) = some j := by
    unfold ixN
    rw [if_pos (by omega), if_pos (by omega)]; simp
  unfold atI; rw [e]; exact h
theorem atI_last {α : Type} (xs : List α) (v : α) : atI (xs ++ [v]) (-1) = some v := by
  have hl : (xs ++ [v]).length = xs.length + 1 := by simp
  have e : ixN (xs ++ [v]).length (-1) = some xs.length := by
    unfold ixN
    rw [hl, if_neg (by decide), if_pos (by omega)]
    congr 1
    omega
  unfold atI
  rw [e]
  show (xs ++ [v])[xs.length]? = some v
  simp

/-! ### what may be subscripted -/
/-- what stands as an index of a plain subscript -/
def PlainIx (b : Expr) : Prop := ∀ o i, subscripted b false o i = operate [o, i] (getItem o i)
/-- a subscript by values -/
def IxR (X : Cx) (r : R2) : Prop :=
  ∀ (value slice : Expr) (pins : List (Addr × Obj)) (s : Shared) (σ : St) (H : Hp) (x y : V) (v u : Value) (Q : VK), Inv X pins σ H s → RelV x v → RelV y u → r x y H Q →
    subscripted slice false v u = operate [v, u] (getItem v u) → wpAny (model X.prog X.w) X.A (subscriptTail value slice v u) (EP X pins σ Q) X.xe s
/-- a call of a builtin's method by values: the receiver, the arguments -/
def MtR (X : Cx) (id : String) (r : V → List V → Hp → VK → Prop) : Prop :=
  ∀ (pins : List (Addr × Obj)) (s : Shared) (σ : St) (H : Hp) (x : V) (xs : List V) (v : Value) (us : List Value) (Q : VK), Inv X pins σ H s → RelV x v → Vals xs us → r x xs H Q →
    wpAny (model X.prog X.w) X.A (call (.builtin id) (v :: us)) (EP X pins σ Q) X.xe s
section
variable {X : Cx} {a b : Expr} {ta tb : TE} {pos : Pos}
/-- a[b] -/
theorem pe_ix {r : R2} (hr : IxR X r) (ha : PE X a ta) (hb : PE X b tb) (hs : PlainIx b) : PE X (.Subscript a b pos) (tOp r ta tb) := by
  intro pins s σ H Q I h
  exact Subscript_ (binT ha hb I h fun v u s2 x y H2 I2 rx ry q => hr a b pins s2 σ H2 x y v u Q I2 rx ry q (hs _ _))

def rIxL (K : PySem.W.Frag) : R2 := fun x y H Q => ∃ p xs i v, x = .ref p ∧ y = .int i ∧ SqL K H p xs ∧ atI xs i = some v ∧ Q v H
def rIxT (K : PySem.W.Frag) : R2 := fun x y H Q => ∃ p xs i v, x = .ref p ∧ y = .int i ∧ SqT K H p xs ∧ atI xs i = some v ∧ Q v H
def rIxS : R2 := fun x y H Q => ∃ z i c, x = .str z ∧ y = .int i ∧ z.length ≤ sizeLine ∧ atI z.cps.toList i = some c ∧ Q (.str ⟨#[c]⟩) H
theorem ix_list : IxR X (rIxL X.K) := by
  intro value slice pins s σ H x y v u Q I rx ry h hs
  obtain ⟨p, xs, i, z, rfl, rfl, hq, he, q⟩ := h
  cases rx
  obtain ⟨t, rfl⟩ := ry
  obtain ⟨its, r, pl, hz⟩ := I.list hq
  obtain ⟨j, h1, h2, h3, h4, h5⟩ := atI_get he
  obtain ⟨w, ew, rw'⟩ := r.get h2
  have hl := r.length
  have hn := line63
  have fin : EP X pins σ Q w s := ⟨z, H, I, rw', q⟩
  by_cases h0 : 0 ≤ i
  · have hj : i.toNat = j := by
      rw [seqIndex_of h0 h5] at h1
      exact Option.some.inj h1
    exact item_listR pl.isList h0 (by omega) (by rw [hj]; simpa using ew) fin hs
  · have hj : (i + (its.toArray.size : Int)).toNat = j := by
      rw [seqIndex_neg (by omega) h4] at h1
      rw [List.size_toArray, ← hl]
      exact Option.some.inj h1
    exact subscriptTail_builtinR (x := w) pl.isList.typeIs slot_list_getitem.lookup
      (wpAny_getItem_list_neg (Q := fun r s' => r = w ∧ EP X pins σ Q r s') pl.isList (by omega) (by rw [List.size_toArray] <;> omega) (by omega) (by rw [hj]; simpa using ew) ⟨rfl, fin⟩) hs
theorem ix_tup : IxR X (rIxT X.K) := by
  intro value slice pins s σ H x y v u Q I rx ry h hs
  obtain ⟨p, xs, i, z, rfl, rfl, hq, he, q⟩ := h
  cases rx
  obtain ⟨t, rfl⟩ := ry
  obtain ⟨its, r, pl, hz⟩ := I.tuple hq
  obtain ⟨j, h1, h2, h3, h4, h5⟩ := atI_get he
  obtain ⟨w, ew, rw'⟩ := r.get h2
  have hl := r.length
  have hn := line63
  have fin : EP X pins σ Q w s := ⟨z, H, I, rw', q⟩
  exact subscriptTail_builtinR (x := w) pl.typeIs slot_tuple_getitem.lookup
    (getItem_tuple (j := j) (Q := fun r s' => r = w ∧ EP X pins σ Q r s') pl (by omega) (by omega) (by rw [List.size_toArray, ← hl]; exact h1) (by simpa using ew) ⟨rfl, fin⟩) hs
theorem ix_str : IxR X rIxS := by
  intro value slice pins s σ H x y v u Q I rx ry h hs
  obtain ⟨z, i, c, rfl, rfl, hz, he, q⟩ := h
  obtain ⟨t, rfl⟩ := rx
  obtain ⟨t', rfl⟩ := ry
  obtain ⟨j, h1, h2, h3, h4, h5⟩ := atI_get he
  have hl : z.cps.toList.length = z.length := by simp [Str.length]
  rw [hl] at h1 h4 h5
  have hn := line63
  exact tail_any (typeIs_str s z t) slot_str_getitem.lookup (getItem_str (c := c) (by
    have e1 : decide (i < -(2 ^ 63 : Int)) = false := decide_eq_false (by omega)
    have e2 : decide (i ≥ 2 ^ 63) = false := decide_eq_false (by omega)
    rw [e1, e2, Bool.or_false]) (by rw [h1]; simpa using h2) ⟨.str ⟨#[c]⟩, H, I.tok _, ⟨_, rfl⟩, q⟩) hs
/-- list, tuple or str -/
def rIx (K : PySem.W.Frag) : R2 := fun x y H Q => rIxL K x y H Q ∨ rIxT K x y H Q ∨ rIxS x y H Q
/-! ### xs[i] = v, any sign -/
def rSetL : V → V → V → Hp → (Hp → Prop) → Prop := fun o i v H Q => ∃ p xs k j, o = .ref p ∧ i = .int k ∧ H p = some (.lst xs) ∧ ixN xs.length k = some j ∧ Q (upd H p (.lst (xs.set j v)))
/-! ### slices -/
theorem slice_bounds (lo hi : Option Int) (n : Nat) : (sliceBounds lo hi none n).1 = ((HT.sIx n 0 lo : Nat) : Int) ∧ (sliceBounds lo hi none n).2.1 = ((HT.sIx n n hi : Nat) : Int) ∧ (sliceBounds lo hi none n).2.2 = 1 := by
  refine ⟨?_, ?_, rfl⟩
  · cases lo with
    | none => simp [sliceBounds, HT.sIx]
    | some i =>
      simp only [sliceBounds, HT.sIx, Option.getD_none, show (1 : Int) > 0 by decide, if_true]
      by_cases h : i < 0
      · simp only [h, if_true] <;> omega
      · simp only [h, if_false] <;> omega
  · cases hi with
    | none => simp [sliceBounds, HT.sIx]
    | some i =>
      simp only [sliceBounds, HT.sIx, Option.getD_none, show (1 : Int) > 0 by decide, if_true]
      by_cases h : i < 0
      · simp only [h, if_true] <;> omega
      · simp only [h, if_false] <;> omega
theorem slicePick_cut (its : List Value) (lo hi : Option Int) : slicePick its.toArray lo hi none = ((its.drop (HT.sIx its.length 0 lo)).take (HT.sIx its.length its.length hi - HT.sIx its.length 0 lo)).toArray := by
  obtain ⟨h1, h2, h3⟩ := slice_bounds lo hi its.toArray.size
  unfold slicePick
  rw [h1, h2, h3]
  simp only [sliceRange_one, pick_run, List.size_toArray] <;> rfl
/-- xs[lo:hi] of a list: a new list -/
def rSlL (K : PySem.W.Frag) : V → Option Int → Option Int → Hp → VK → Prop := fun x lo hi H Q => ∃ a xs, x = .ref a ∧ SqL K H a xs ∧ ∀ p, H p = none → Q (.ref p) (upd H p (.lst (cutV xs lo hi)))
theorem sl_list : SlR X (rSlL X.K) := by
  intro pins s σ H x v vl vu lo hi sl Q I rx hs pl pu h
  obtain ⟨a, xs, rfl, hx, q⟩ := h
  cases rx
  obtain ⟨its, r, ht, hz⟩ := I.list hx
  have hlen := r.length
  refine ⟨"list", _, slot_list_getitem.lookup, ht.isList.typeIs, ?_⟩
  refine wpAny_getItem_list_slice ht.isList hs pl pu .none (by simp) ?_ (by rw [List.size_toArray] <;> omega)
  rw [slicePick_cut, ← hlen]
  refine ⟨.ref s.heap.objs.size, _, I.laid (t' := s.toks) (o := .lst (cutV xs lo hi)) (fun b ob q => Heap.get?_push_of_some _ q) (Nat.le_refl _) ?_, rfl, q _ (I.hok.fresh (Nat.le_refl _))⟩
  exact ⟨Nat.le_trans (cutV_length xs lo hi) hz, _, 0, (r.drop (HT.sIx xs.length 0 lo)).take (HT.sIx xs.length xs.length hi - HT.sIx xs.length 0 lo), Heap.get?_push_size _ rfl⟩

/-! ### in, not in: flat items -/
def flatV : V → Bool
  | .non => true
  | .bl _ => true
  | .int _ => true
  | .str _ => true
  | _ => false
/-- == of flat values -/
def eqV : V → V → Bool
  | .non, .non => true
  | .bl a, .bl b => a == b
  | .bl a, .int b => (if a then 1 else 0) == b
  | .int a, .bl b => a == (if b then 1 else 0)
  | .int a, .int b => a == b
  | .str a, .str b => a == b
  | _, _ => false
theorem eqAt_V {A : Around} {s : Shared} {y x : V} {u v : Value} (ry : RelV y u) (rx : RelV x v) (fy : flatV y = true) (fx : flatV x = true) : SeqAt.EqAt A s u v (eqV y x) := by
  cases y with
  | non =>
    cases ry
    cases x with
    | non => cases rx; exact SeqAt.EqAt.same _
    | bl b => cases rx; exact SeqAt.EqAt.none_bool b
    | int b => obtain ⟨t, rfl⟩ := rx; exact SeqAt.EqAt.none_int b t
    | str b => obtain ⟨t, rfl⟩ := rx; exact SeqAt.EqAt.none_str b t
    | _ => exact absurd (show false = true from fx) Bool.false_ne_true
  | bl a =>
    cases ry
    cases x with
    | non => cases rx; exact SeqAt.EqAt.bool_none a
    | bl b => cases rx; exact SeqAt.EqAt.bool_bool a b
    | int b => obtain ⟨t, rfl⟩ := rx; exact SeqAt.EqAt.bool_int a b t
    | str b => obtain ⟨t, rfl⟩ := rx; exact SeqAt.EqAt.bool_str a b t
    | _ => exact absurd (show false = true from fx) Bool.false_ne_true
  | int a =>
    obtain ⟨t', rfl⟩ := ry
    cases x with
    | non => cases rx; exact SeqAt.EqAt.int_none a t'
    | bl b => cases rx; exact SeqAt.EqAt.int_bool a t' b
    | int b => obtain ⟨t, rfl⟩ := rx; exact SeqAt.EqAt.int_int a t' b t
    | str b => obtain ⟨t, rfl⟩ := rx; exact SeqAt.EqAt.int_str a t' b t
    | _ => exact absurd (show false = true from fx) Bool.false_ne_true
  | str a =>
    obtain ⟨t', rfl⟩ := ry
    cases x with
    | non => cases rx; exact SeqAt.EqAt.str_none a t'
    | bl b => cases rx; exact SeqAt.EqAt.str_bool a t' b
    | int b => obtain ⟨t, rfl⟩ := rx; exact SeqAt.EqAt.str_int a t' b t
    | str b => obtain ⟨t, rfl⟩ := rx; exact SeqAt.EqAt.str_str a t' b t
    | _ => exact absurd (show false = true from fx) Bool.false_ne_true
  | _ => exact absurd (show false = true from fy) Bool.false_ne_true
/-- the items' answers, read off the values (a value's own answer does not lean on its token) -/
def eqU (x : V) (u : Value) : Bool := match u with
  | .none => eqV .non x
  | .bool b => eqV (.bl b) x
  | .int i _ => eqV (.int i) x
  | .str z _ => eqV (.str z) x
  | _ => false
theorem eqU_of {x y : V} {u : Value} (r : RelV y u) (f : flatV y = true) : eqU x u = eqV y x := by
  cases y with
  | non => cases r; rfl
  | bl b => cases r; rfl
  | int i => obtain ⟨t, rfl⟩ := r; rfl
  | str z => obtain ⟨t, rfl⟩ := r; rfl
  | _ => exact absurd (show false = true from f) Bool.false_ne_true
theorem any_eqU {x : V} : ∀ {xs : List V} {us : List Value}, Vals xs us → xs.all flatV = true → us.any (eqU x) = xs.any fun y => eqV y x
  | _, _, .nil, _ => rfl
  | y :: xs, u :: us, .cons r t, f => by
    rw [List.all_cons, Bool.and_eq_true] at f
    rw [List.any_cons, List.any_cons, eqU_of r f.1, any_eqU t f.2]
theorem mem_eqAt {A : Around} {s : Shared} {x : V} {v : Value} (rx : RelV x v) (fx : flatV x = true) : ∀ {xs : List V} {us : List Value}, Vals xs us → xs.all flatV = true → ∀ u ∈ us, SeqAt.EqAt A s u v (eqU x u)
  | _, _, .nil, _ => fun u hu => by cases hu
  | y :: xs, u :: us, .cons r t, f => fun u' hu => by
    rw [List.all_cons, Bool.and_eq_true] at f
    rcases List.mem_cons.mp hu with rfl | hu
    · rw [eqU_of r f.1]; exact eqAt_V r rx f.1 fx
    · exact mem_eqAt rx fx t f.2 u' hu
def inV (x : V) (xs : List V) : Bool := xs.any fun y => eqV y x
/-- x in a list or tuple of flat items -/
def rIn (K : PySem.W.Frag) (neg : Bool) : R2 := fun x y H Q => ∃ p xs, y = .ref p ∧ (SqL K H p xs ∨ SqT K H p xs) ∧ flatV x = true ∧ xs.all flatV = true ∧ Q (.bl (if neg then !inV x xs else inV x xs)) H
theorem op_in_seq : OpR X (compareOp .In) (rIn X.K false) := by
  intro pins s σ H x y v u Q I rx ry h
  obtain ⟨p, xs, rfl, hq, fx, fs, q⟩ := h
  cases ry
  rcases hq with hq | hq
  · obtain ⟨its, r, pl, hz⟩ := I.list hq
    refine SeqAt.in_listAt (eqU x) pl.isList (fun w hw => mem_eqAt rx fx r fs w (by simpa using hw)) ⟨.bl _, H, I, rfl, ?_⟩
    rw [show its.toArray.any (eqU x) = its.any (eqU x) by simp, any_eqU r fs]
    exact q
  · obtain ⟨its, r, pl, hz⟩ := I.tuple hq
    refine SeqAt.in_tupleAt (eqU x) pl (fun w hw => mem_eqAt rx fx r fs w (by simpa using hw)) ⟨.bl _, H, I, rfl, ?_⟩
    rw [show its.toArray.any (eqU x) = its.any (eqU x) by simp, any_eqU r fs]
    exact q
/-! ### len, list(x), tuple(x) of any list or tuple that is read -/
theorem call_len_seq : CallR X (.builtin "len") (fun xs H Q => ∃ p ys, xs = [.ref p] ∧ (SqL X.K H p ys ∨ SqT X.K H p ys) ∧ Q (.int ys.length) H) := by
  intro pins s σ H xs us Q I r h
  obtain ⟨p, ys, rfl, hq, q⟩ := h
  obtain ⟨u, rfl, rx⟩ := vals1 r
  cases rx
  have hn := line63
  rcases hq with hq | hq
  · obtain ⟨its, r', pl, hz⟩ := I.list hq
    have hlen := r'.length
    exact Calls.call_len_list pl.isList (by simp only [List.size_toArray] <;> omega) ⟨.int ys.length, H, I.tok _, ⟨s.toks + 1, by rw [List.size_toArray, hlen]⟩, q⟩
  · obtain ⟨its, r', pl, hz⟩ := I.tuple hq
    have hlen := r'.length
    exact len_tuple pl (by simp only [List.size_toArray] <;> omega) ⟨.int ys.length, H, I.tok _, ⟨s.toks + 1, by rw [List.size_toArray, hlen]⟩, q⟩
theorem call_list_of : CallR X (.type "list") (fun xs H Q => ∃ p ys, xs = [.ref p] ∧ (SqL X.K H p ys ∨ SqT X.K H p ys) ∧ ∀ l, H l = none → Q (.ref l) (upd H l (.lst ys))) := by
  intro pins s σ H xs us Q I r h
  obtain ⟨p, ys, rfl, hq, q⟩ := h
  obtain ⟨u, rfl, rx⟩ := vals1 r
  cases rx
  have fin : ∀ (its : List Value), Vals ys its → ys.length ≤ sizeLine → ∀ (h' : Heap) (c' : Nat), (∀ b o', s.heap.get? b = some o' → h'.get? b = some o') →
      h'.get? s.heap.objs.size = some { cls := .type "list", dict := none, data := .seq its.toArray c', slots := #[] } → EP X pins σ Q (.ref s.heap.objs.size) { s with heap := h' } := fun its r' hz h' c' kp e =>
    ⟨.ref s.heap.objs.size, _, I.laid (t' := s.toks) kp (Nat.le_refl _) (show ObjOk X.prog X.w _ h' _ (.lst ys) from ⟨hz, its, c', r', e⟩), rfl, q _ (I.hok.fresh (Nat.le_refl _))⟩
  rcases hq with hq | hq
  · obtain ⟨its, r', pl, hz⟩ := I.list hq
    have hlen := r'.length
    obtain ⟨o, ho, hc, n, hd⟩ := pl.isList
    exact call_list_seq p (.inl rfl) ho hc hd (fun h' c' kp e => fin its r' hz h' c' kp e) (by simp only [List.size_toArray] <;> omega)
  · obtain ⟨its, r', pl, hz⟩ := I.tuple hq
    have hlen := r'.length
    obtain ⟨o, ho, hc, n, hd⟩ := pl
    exact call_list_seq p (.inr rfl) ho hc hd (fun h' c' kp e => fin its r' hz h' c' kp e) (by simp only [List.size_toArray] <;> omega)
/-! ### the call of a builtin's method: o.m(..) -/
/-- the value is of that builtin type -/
def tyV (K : PySem.W.Frag) (T : String) (x : V) (H : Hp) : Prop := match x with
  | .str _ => T = "str"
  | .int _ => T = "int"
  | .ref p => (T = "list" ∧ ∃ xs, SqL K H p xs) ∨ (T = "tuple" ∧ ∃ o, K.lookup p = some o ∧ o.cls = .type "tuple" ∧ o.dict = none) ∨
      (T = "dict" ∧ ((∃ kvs, H p = some (.dK kvs)) ∨ ∃ kvs, H p = some (.dT kvs))) ∨ (T = "set" ∧ ∃ S n, H p = some (.set S n))
  | _ => False
theorem tyV_is {pins : List (Addr × Obj)} {σ : St} {H : Hp} {s : Shared} {T : String} {x : V} {v : Value} (I : Inv X pins σ H s) (r : RelV x v) (ty : tyV X.K T x H) :
    s.TypeIs v T ∧ ∀ a, v = .ref a → ∃ ob, s.heap.get? a = some ob ∧ ob.dict = none := by
  cases x with
  | str z =>
    obtain ⟨t, rfl⟩ := r
    cases (show T = "str" from ty)
    exact ⟨typeIs_str s z t, fun _ e => nomatch e⟩
  | int i =>
    obtain ⟨t, rfl⟩ := r
    cases (show T = "int" from ty)
    exact ⟨typeIs_int s i t, fun _ e => nomatch e⟩
  | ref p =>
    cases r
    rcases ty with ⟨rfl, xs, hq⟩ | ⟨rfl, o, hk, hc, hd⟩ | ⟨rfl, hk⟩ | ⟨rfl, S, n, hk⟩
    · obtain ⟨its, _, pl, _⟩ := I.list hq
      refine ⟨pl.isList.typeIs, fun a e => ?_⟩
      cases e
      obtain ⟨o, n, e, c, hd, _⟩ := pl
      exact ⟨o, e, hd⟩
    · refine ⟨⟨o, I.kIn p o hk, hc⟩, fun a e => ?_⟩
      cases e
      exact ⟨o, I.kIn _ o hk, hd⟩
    · have z : ∃ o, s.heap.get? p = some o ∧ o.ExactDict := by
        rcases hk with ⟨kvs, hk⟩ | ⟨kvs, hk⟩
        · obtain ⟨_, _, _, _, o, _, _, e, ex, _⟩ := I.hok p _ hk
          exact ⟨o, e, ex⟩
        · obtain ⟨_, _, _, _, o, _, _, e, ex, _⟩ := I.hok p _ hk
          exact ⟨o, e, ex⟩
      obtain ⟨o, e, ex⟩ := z
      refine ⟨⟨o, e, ex.1⟩, fun a e2 => ?_⟩
      cases e2
      exact ⟨o, e, ex.2.1⟩
    · obtain ⟨o, _, _, _, e, ex, _⟩ := I.hok p _ hk
      refine ⟨⟨o, e, ex.1⟩, fun a e2 => ?_⟩
      cases e2
      exact ⟨o, e, ex.2.1⟩
  | _ => exact False.elim ty
def tBM0 (K : PySem.W.Frag) (T : String) (r : V → List V → Hp → VK → Prop) (to : TE) : TE := fun σ H Q => to σ H fun x H1 => tyV K T x H1 ∧ r x [] H1 Q
def tBM (K : PySem.W.Frag) (T : String) (r : V → List V → Hp → VK → Prop) (to : TE) (t : TA) : TE := fun σ H Q => to σ H fun x H1 => tyV K T x H1 ∧ t σ H1 fun xs H2 => r x xs H2 Q
variable {o e : Expr} {es : List Expr} {to : TE} {t : TA} {name : Str} {apos cpos : Pos} {T id : String} {r : V → List V → Hp → VK → Prop}
theorem pe_bm0 (pa : PlainAttrs T) (slot : Slot T name id) (hty : typeOf (.builtin id) = pure (.type "method_descriptor")) (hm : MtR X id r) (ho : PE X o to)
    (hbase : attributeBase o name X.env (eval o X.env) = eval o X.env := by rfl) (hline : (apos.endLine == cpos.line) = true := by rfl) : PE X (.Call (.Attribute o name apos) [] [] cpos) (tBM0 X.K T r to) := by
  intro pins s σ H Q I h
  refine wpAny_Call_method0_late hbase hline (thn (ho pins s σ H _ I h) fun v s1 ⟨x, H1, I1, r1, ty, q1⟩ => ?_)
  obtain ⟨h1, h2⟩ := tyV_is I1 r1 ty
  exact ⟨T, id, pa, slot, hty, h1, h2, Calls.callWith_builtin rfl (PySem.evalArgs_none (hm pins s1 σ H1 x [] v [] Q I1 r1 .nil q1))⟩
theorem pe_bm (pa : PlainAttrs T) (slot : Slot T name id) (hty : typeOf (.builtin id) = pure (.type "method_descriptor")) (hm : MtR X id r) (ho : PE X o to) (ha : PA X (e :: es) t)
    (hbase : attributeBase o name X.env (eval o X.env) = eval o X.env := by rfl)
    (hfew : ((backTo cpos (starEach (e :: es) X.env)).all (fun x => !x.1) && (backToKw cpos (keywordEach [] X.env)).all (fun x => x.1.isSome)
      && decide ((e :: es).length + ([] : List Keyword).length + (if ([] : List Keyword).isEmpty then 0 else 1) < 30)) = true := by rfl)
    (hline : (apos.endLine == cpos.line) = true := by rfl) (hs : starEach (e :: es) X.env = (false, eval e X.env) :: starEach es X.env := by rfl) (hplain : (backTo cpos (starEach es X.env)).any (·.1) = false := by rfl) :
    PE X (.Call (.Attribute o name apos) (e :: es) [] cpos) (tBM X.K T r to t) := by
  intro pins s σ H Q I h
  refine wpAny_Call_method_late hbase hfew hline rfl (thn (ho pins s σ H _ I h) fun v s1 ⟨x, H1, I1, r1, ty, q1⟩ => ?_)
  obtain ⟨h1, h2⟩ := tyV_is I1 r1 ty
  refine ⟨T, id, pa, slot, hty, h1, h2, ?_⟩
  have hA := ha cpos pins s1 σ H1 _ I1 q1
  rw [hs] at hA ⊢
  refine Calls.callWith_builtin (by show (false || (backTo cpos (starEach es X.env)).any (·.1)) = false; rw [hplain] <;> rfl) (Calls.evalArgs_plain ?_)
  exact thn hA fun us s2 ⟨vs, H2, I2, r2, q2⟩ => hm pins s2 σ H2 x vs v us Q I2 r1 r2 q2
/- xs.append(e), list.index on a module's tuple .. are MtR facts of 06m -/
end
end L2

namespace L2
open PySem PySem.Spec PyProof.Rows

def MtM (X : Cx) (id : String) (r : V → List V → Hp → VK → Prop) : Prop :=
  ∀ (pins : List (Addr × Obj)) (s : Shared) (σ : St) (H : Hp) (x : V) (xs : List V) (v : Value) (us : List Value) (Q : VK), Inv X pins σ H s → RelV x v → Vals xs us → r x xs H Q →
    wpAny (model X.prog X.w) X.A (call (.builtin id) (v :: us)) (EP X pins σ Q) X.xe s

/-! ### lists of values -/
theorem Vals.one : ∀ {x : V} {us : List Value}, Vals [x] us → ∃ u, us = [u] ∧ RelV x u
  | _, _, .cons r .nil => ⟨_, rfl, r⟩
theorem Vals.two : ∀ {x y : V} {us : List Value}, Vals [x, y] us → ∃ u v, us = [u, v] ∧ RelV x u ∧ RelV y v
  | _, _, _, .cons r (.cons q .nil) => ⟨_, _, rfl, r, q⟩
theorem Vals.zero : ∀ {us : List Value}, Vals [] us → us = []
  | _, .nil => rfl
theorem Vals.reverse {xs : List V} {us : List Value} (h : Vals xs us) : Vals xs.reverse us.reverse := by
  induction h with
  | nil => exact .nil
  | cons r t ih => rw [List.reverse_cons, List.reverse_cons]; exact Vals.append ih (.cons r .nil)
section
variable {X : Cx} {pins : List (Addr × Obj)} {σ : St} {H : Hp} {s : Shared} {l b : Addr} {xs ys zs : List V}

/-! ### the two steps: a tracked list is rewritten, a new list is laid -/
theorem Inv.lset {its its' : List Value} {n : Nat} {f : Array Value → Array Value} {t' : Nat} (I : Inv X pins σ H s) (hH : H l = some (.lst xs))
    (e : s.heap.get? l = some { cls := .type "list", data := .seq its.toArray n }) (hf : f its.toArray = its'.toArray) (hv : Vals ys its') (hz : ys.length ≤ sizeLine) :
    Inv X pins σ (upd H l (.lst ys)) { s with heap := s.heap.update l (Obj.mapSeq f), toks := t' } := by
  have q := PySem.IsL.update e f
  rw [hf] at q
  refine I.write (x := l) (e := l) (by rw [hH]; exact trivial) (.inl rfl) (fun b' u hb hu => (Heap.get?_update_other s.heap (Obj.mapSeq f) (Ne.symm hb)).trans hu) ⟨_, q⟩ ?_
  exact ⟨hz, its', _, hv, q⟩
theorem Inv.lstM (I : Inv X pins σ H s) (hH : H l = some (.lst xs)) : xs.length ≤ sizeLine ∧ ∃ (its : List Value) (n : Nat), Vals xs its ∧ xs.length = its.length ∧ s.heap.get? l = some { cls := .type "list", data := .seq its.toArray n } := by
  obtain ⟨z, its, n, r, e⟩ := I.hok l _ hH
  exact ⟨z, its, n, r, r.length, e⟩

end

section
variable {X : Cx}

/-! ### methods -/
def rAppend : V → List V → Hp → VK → Prop := fun x vs H Q => ∃ l xs y, x = .ref l ∧ vs = [y] ∧ H l = some (.lst xs) ∧ xs.length < sizeLine ∧ Q .non (upd H l (.lst (xs ++ [y])))
theorem mt_append : MtM X "list.append" rAppend := by
  intro pins s σ H x vs v us Q I rx rv h
  obtain ⟨l, xs, y, rfl, rfl, hH, hz, q⟩ := h
  cases rx
  obtain ⟨u, rfl, ru⟩ := rv.one
  obtain ⟨z, its, n, r, hl, e⟩ := I.lstM hH
  refine call_meets F.slot_list_append ⟨_, e, rfl⟩ F.entry_list_append (F.args_list_append_2 _ _) (PySem.list_append l its.toArray n u (by rw [List.size_toArray]; omega)) ⟨e, ?_⟩
  refine ⟨.non, _, I.lset (its' := its ++ [u]) hH e (by simp) (r.append (.cons ru .nil)) ?_, rfl, q⟩
  rw [List.length_append, List.length_singleton]
  omega

def rExtend : V → List V → Hp → VK → Prop := fun x vs H Q => ∃ l b xs zs, x = .ref l ∧ vs = [.ref b] ∧ H l = some (.lst xs) ∧ H b = some (.lst zs) ∧ xs.length + zs.length ≤ sizeLine ∧ Q .non (upd H l (.lst (xs ++ zs)))
def rPop : V → List V → Hp → VK → Prop := fun x vs H Q => ∃ l xs y, x = .ref l ∧ vs = [] ∧ H l = some (.lst xs) ∧ xs[xs.length - 1]? = some y ∧ Q y (upd H l (.lst xs.dropLast))
def rPopAt : V → List V → Hp → VK → Prop := fun x vs H Q => ∃ l xs i k y, x = .ref l ∧ vs = [.int i] ∧ H l = some (.lst xs) ∧ -(2 ^ 63) ≤ i ∧ i < 2 ^ 63 ∧ seqIndex? i xs.length = some k ∧ xs[k]? = some y ∧ Q y (upd H l (.lst (xs.eraseIdx k)))
def rReverse : V → List V → Hp → VK → Prop := fun x vs H Q => ∃ l xs, x = .ref l ∧ vs = [] ∧ H l = some (.lst xs) ∧ Q .non (upd H l (.lst xs.reverse))
theorem mt_reverse : MtM X "list.reverse" rReverse := by
  intro pins s σ H x vs v us Q I rx rv h
  obtain ⟨l, xs, rfl, rfl, hH, q⟩ := h
  cases rx
  have hus := rv.zero
  subst hus
  obtain ⟨z, its, n, r, hl, e⟩ := I.lstM hH
  refine call_meets F.slot_list_reverse ⟨_, e, rfl⟩ F.entry_list_reverse (F.args_list_reverse_1 _) (AutoSeq1.list_reverse_list_0 l its.toArray n (by rw [List.size_toArray]; omega)) ⟨e, ?_⟩
  refine ⟨.non, _, I.lset (its' := its.reverse) hH e (by simp) r.reverse ?_, rfl, q⟩
  rw [List.length_reverse]
  omega

def rClear : V → List V → Hp → VK → Prop := fun x vs H Q => ∃ l xs, x = .ref l ∧ vs = [] ∧ H l = some (.lst xs) ∧ Q .non (upd H l (.lst []))
/-! ### list + list, list += list, list * int -/
def rCat : R2 := fun x y H Q => ∃ l b xs zs, x = .ref l ∧ y = .ref b ∧ H l = some (.lst xs) ∧ H b = some (.lst zs) ∧ xs.length + zs.length ≤ sizeLine ∧ ∀ p, H p = none → Q (.ref p) (upd H p (.lst (xs ++ zs)))
/-- a list times an int (a negative one is nothing) -/
def rRep : R2 := fun x y H Q => ∃ l k xs, x = .ref l ∧ y = .int k ∧ H l = some (.lst xs) ∧ -(2 ^ 63) ≤ k ∧ k < 2 ^ 63 ∧ xs.length * k.toNat ≤ sizeLine ∧
  ∀ p, H p = none → Q (.ref p) (upd H p (.lst (List.replicate k.toNat xs).flatten))
/-! ### del xs[i] -/
end

/-! ### xs[a:b] = ys -/
section
variable {prog : Program} {w : World} {A : Around} {E : Value → Shared → Prop} {s : Shared}
end

section
variable {X : Cx}
end
end L2


namespace L2
open PySem PySem.Spec PyProof.Rows

/-! ### lists of pairs as tables -/
section
variable {κ : Type} [DecidableEq κ]
def valV (kvs : List (κ × V)) (k : κ) : Option V := (kvs.find? fun kv => decide (kv.1 = k)).map (·.2)
/-- in its place, or at the end -/
def putK (kvs : List (κ × V)) (k : κ) (v : V) : List (κ × V) :=
  if (kvs.any fun kv => decide (kv.1 = k)) = true then kvs.map (fun kv => if kv.1 = k then (kv.1, v) else kv) else kvs ++ [(k, v)]
def dropK (kvs : List (κ × V)) (k : κ) : List (κ × V) := kvs.filter fun kv => decide (kv.1 ≠ k)

theorem valV_pos {p : κ × V} {r : List (κ × V)} {k : κ} (e : p.1 = k) : valV (p :: r) k = some p.2 := by simp [valV, List.find?_cons, e]
theorem valV_neg {p : κ × V} {r : List (κ × V)} {k : κ} (e : ¬ p.1 = k) : valV (p :: r) k = valV r k := by simp [valV, List.find?_cons, e]
theorem valV_any (k : κ) : ∀ kvs : List (κ × V), (kvs.any fun kv => decide (kv.1 = k)) = (valV kvs k).isSome
  | [] => rfl
  | p :: r => by
    rw [List.any_cons]
    by_cases e : p.1 = k
    · simp only [valV_pos e, decide_eq_true e, Bool.true_or, Option.isSome_some]
    · rw [valV_neg e, decide_eq_false e, Bool.false_or]; exact valV_any k r
theorem length_putK (kvs : List (κ × V)) (k : κ) (v : V) : (putK kvs k v).length ≤ kvs.length + 1 := by
  unfold putK
  split
  · rw [List.length_map]; omega
  · rw [List.length_append, List.length_cons, List.length_nil]; omega
theorem putK_new {kvs : List (κ × V)} {k : κ} (v : V) (h : valV kvs k = none) : putK kvs k v = kvs ++ [(k, v)] := by
  unfold putK
  rw [valV_any, h]
  exact if_neg (by decide)

theorem RelO.isSome_eq {o : Option V} {u : Option Value} (r : RelO o u) : o.isSome = u.isSome := by
  cases o with
  | none => cases u with
    | none => rfl
    | some _ => exact (show False from r).elim
  | some _ => cases u with
    | none => exact (show False from r).elim
    | some _ => rfl
/-- raw tables of the same keys -/
theorem KV.val {kvs : List (κ × V)} {vs : List (κ × Value)} (r : KV kvs vs) (k : κ) : RelO (valV kvs k) (valueAt vs k) := by
  unfold KV at r
  induction r with
  | nil => exact True.intro
  | @cons p q ps qs h t ih =>
    obtain ⟨h1, h2⟩ := h
    by_cases e : p.1 = k
    · have e' : q.1 = k := h1.symm.trans e
      have b : valueAt (q :: qs) k = some q.2 := by simp [valueAt, List.find?_cons, e']
      rw [valV_pos e, b]; exact h2
    · have e' : ¬ q.1 = k := fun z => e (h1.trans z)
      have b : valueAt (q :: qs) k = valueAt qs k := by simp [valueAt, List.find?_cons, e']
      rw [valV_neg e, b]; exact ih
theorem KV.any {kvs : List (κ × V)} {vs : List (κ × Value)} (r : KV kvs vs) (k : κ) : (kvs.any fun kv => decide (kv.1 = k)) = vs.any fun kv => decide (kv.1 = k) := by
  unfold KV at r
  induction r with
  | nil => rfl
  | cons h t ih => rw [List.any_cons, List.any_cons, ih, h.1]
theorem KV.repl {kvs : List (κ × V)} {vs : List (κ × Value)} (r : KV kvs vs) (k : κ) {y : V} {u : Value} (ry : RelV y u) :
    KV (kvs.map fun kv => if kv.1 = k then (kv.1, y) else kv) (vs.map fun kv => if kv.1 = k then (kv.1, u) else kv) := by
  unfold KV at r ⊢
  induction r with
  | nil => exact .nil
  | @cons p q ps qs h t ih =>
    rw [List.map_cons, List.map_cons]
    refine .cons ?_ ih
    obtain ⟨h1, h2⟩ := h
    by_cases e : p.1 = k
    · rw [if_pos e, if_pos (h1.symm.trans e)]; exact ⟨h1, ry⟩
    · rw [if_neg e, if_neg (fun z => e (h1.trans z))]; exact ⟨h1, h2⟩
theorem KV.put {kvs : List (κ × V)} {vs : List (κ × Value)} (r : KV kvs vs) (k : κ) {y : V} {u : Value} (ry : RelV y u) : KV (putK kvs k y) (stored vs k u) := by
  unfold putK stored
  rw [r.any k]
  by_cases e : (vs.any fun kv => decide (kv.1 = k)) = true
  · rw [if_pos e, if_pos e]; exact r.repl k ry
  · rw [if_neg e, if_neg e]; exact Paired.snoc r ⟨rfl, ry⟩
theorem KV.keys {kvs : List (κ × V)} {vs : List (κ × Value)} (r : KV kvs vs) : kvs.map (·.1) = vs.map (·.1) := by
  unfold KV at r
  induction r with
  | nil => rfl
  | cons h t ih => rw [List.map_cons, List.map_cons, ih, h.1]
theorem KV.length {kvs : List (κ × V)} {vs : List (κ × Value)} (r : KV kvs vs) : kvs.length = vs.length := Paired.length r
end


/-! ### a tracked dict, its keys ints and texts or tuples of these -/
theorem kV_is {P : Program} {w : World} {k : Key} {u : Value} (r : RelV (kV k) u) : (mixKind P w).is k u = true := by
  cases k with
  | inl i => obtain ⟨t, e⟩ := (show ∃ t, u = Value.int i t from r); subst e; exact mixKind_int P w i t
  | inr x => obtain ⟨t, e⟩ := (show ∃ t, u = Value.str x t from r); subst e; exact mixKind_str P w x t
theorem items_are {P : Program} {w : World} : ∀ {ks : List Key} {us : List Value}, Vals (ks.map kV) us → ItemsAre (mixKind P w) ks us
  | [], _, r => by rw [List.map_nil] at r; cases r; exact .nil
  | k :: ks, _, r => by
    rw [List.map_cons] at r
    cases r with
    | cons h t => exact .cons (kV_is h) (items_are t)

/-- raw entries of a dict with tuple keys -/
abbrev KT (H : Hp) : List (List Key × V) → List (List Key × Addr × Value) → Prop := Paired fun p q => p.1 = q.1 ∧ H q.2.1 = some (.tup (p.1.map kV)) ∧ RelV p.2 q.2.2
theorem KT.val {H : Hp} {kvs : List (List Key × V)} {xs : List (List Key × Addr × Value)} (r : KT H kvs xs) (k : List Key) : RelO (valV kvs k) ((atKey xs k).map (·.2)) := by
  induction r with
  | nil => exact True.intro
  | @cons p q ps qs h t ih =>
    obtain ⟨h1, _, h2⟩ := h
    by_cases e : p.1 = k
    · have e' : q.1 = k := h1.symm.trans e
      have b : atKey (q :: qs) k = some q.2 := by simp [atKey, List.find?_cons, e']
      rw [valV_pos e, b]; exact h2
    · have e' : ¬ q.1 = k := fun z => e (h1.trans z)
      have b : atKey (q :: qs) k = atKey qs k := by simp [atKey, List.find?_cons, e']
      rw [valV_neg e, b]; exact ih
theorem KT.repl {H : Hp} {kvs : List (List Key × V)} {xs : List (List Key × Addr × Value)} (r : KT H kvs xs) (k : List Key) {y : V} {u : Value} (ry : RelV y u) :
    KT H (kvs.map fun kv => if kv.1 = k then (kv.1, y) else kv) (xs.map (putAt k u)) := by
  induction r with
  | nil => exact .nil
  | @cons p q ps qs h t ih =>
    rw [List.map_cons, List.map_cons]
    refine .cons ?_ ih
    obtain ⟨h1, h2, h3⟩ := h
    unfold putAt
    by_cases e : p.1 = k
    · rw [if_pos e, if_pos (h1.symm.trans e)]; exact ⟨h1, h2, ry⟩
    · rw [if_neg e, if_neg (fun z => e (h1.trans z))]; exact ⟨h1, h2, h3⟩
theorem KT.put {H : Hp} {kvs : List (List Key × V)} {xs : List (List Key × Addr × Value)} (r : KT H kvs xs) (k : List Key) {b : Addr} {y : V} {u : Value} (hb : H b = some (.tup (k.map kV))) (ry : RelV y u) :
    KT H (putK kvs k y) (storedH xs k b u) := by
  have e : (kvs.any fun kv => decide (kv.1 = k)) = (atKey xs k).isSome := by
    rw [valV_any, (r.val k).isSome_eq, Option.isSome_map]
  unfold putK storedH
  rw [e]
  by_cases q : (atKey xs k).isSome = true
  · rw [if_pos q, if_pos q]; exact r.repl k ry
  · rw [if_neg q, if_neg q]; exact Paired.snoc r ⟨rfl, hb, ry⟩
theorem KT.keeps {H H' : Hp} {kvs : List (List Key × V)} {xs : List (List Key × Addr × Value)} (r : KT H kvs xs) (ht : ∀ b ys, H b = some (.tup ys) → H' b = some (.tup ys)) : KT H' kvs xs :=
  Paired.mapP r fun _ _ z => ⟨z.1, ht _ _ z.2.1, z.2.2⟩

section
variable {P : Program} {w : World} {H : Hp} {h : Heap} {a : Addr}
theorem rd_of {u : HO} (ok : HOk P w H h) (e : Rd H a u) : ObjOk P w H h a u := e.ok ok
theorem dk_rd {kvs : List (Key × V)} (ok : HOk P w H h) (e : Rd H a (.dK kvs)) : kvs.length ≤ sizeLine ∧ (a == sysModules) = false ∧ ∃ vs, KV kvs vs ∧ h.DictOf (mixKind P w) a vs :=
  show ObjOk P w H h a (.dK kvs) from rd_of ok e
theorem dk_of {kvs : List (Key × V)} (ok : HOk P w H h) (e : H a = some (.dK kvs)) : kvs.length ≤ sizeLine ∧ (a == sysModules) = false ∧ ∃ vs, KV kvs vs ∧ h.DictOf (mixKind P w) a vs := dk_rd ok (.inl e)
/-- a tracked tuple of ints and texts is a key -/
theorem key_of {ks : List Key} (ok : HOk P w H h) (e : H a = some (.tup (ks.map kV))) : (tupleKind (mixKind P w)).is h ks a := by
  obtain ⟨_, its, r, o, h1, h2, n, h3⟩ := (show ObjOk P w H h a (.tup (ks.map kV)) from ok a _ e)
  exact ⟨o, its.toArray, n, h1, h2, h3, by simpa using items_are r⟩
theorem dt_rd {kvs : List (List Key × V)} (ok : HOk P w H h) (e : Rd H a (.dT kvs)) : kvs.length ≤ sizeLine ∧ (a == sysModules) = false ∧
    ∃ xs, KT H kvs xs ∧ h.DictOfH (tupleKind (mixKind P w)) a xs := by
  obtain ⟨z, y, xs, r, o, es, ep, h1, h2, h3, h4, h5⟩ := (show ObjOk P w H h a (.dT kvs) from rd_of ok e)
  refine ⟨z, y, xs, r, o, es, ep, h1, h2, h3, h4, fun x hx => ?_, h5⟩
  have all : ∀ {l : List (List Key × V)} {m : List (List Key × Addr × Value)}, KT H l m → ∀ x ∈ m, (tupleKind (mixKind P w)).is h x.1 x.2.1 := by
    intro l m q
    induction q with
    | nil => intro x hx; exact nomatch hx
    | @cons p q ps qs hq t ih =>
      intro x hx
      rcases List.mem_cons.mp hx with e | hx
      · subst e
        exact key_of ok (by rw [← hq.1]; exact hq.2.1)
      · exact ih x hx
  exact all r x hx
theorem dt_of {kvs : List (List Key × V)} (ok : HOk P w H h) (e : H a = some (.dT kvs)) : kvs.length ≤ sizeLine ∧ (a == sysModules) = false ∧
    ∃ xs, KT H kvs xs ∧ h.DictOfH (tupleKind (mixKind P w)) a xs := dt_rd ok (.inl e)
end

/-- what the dict at a holds at the key y -/
def DGet (H : Hp) (a : Addr) (y : V) (r : Option V) : Prop :=
  (∃ kvs k, Rd H a (.dK kvs) ∧ y = kV k ∧ r = valV kvs k) ∨ ∃ kvs k b, Rd H a (.dT kvs) ∧ y = .ref b ∧ H b = some (.tup (k.map kV)) ∧ r = valV kvs k
/-- the heap behind a[y] = v -/
def DPut (H : Hp) (a : Addr) (y v : V) (H' : Hp) : Prop :=
  (∃ kvs k, H a = some (.dK kvs) ∧ y = kV k ∧ kvs.length < sizeLine ∧ H' = upd H a (.dK (putK kvs k v))) ∨
  ∃ kvs k b, H a = some (.dT kvs) ∧ y = .ref b ∧ H b = some (.tup (k.map kV)) ∧ kvs.length < sizeLine ∧ H' = upd H a (.dT (putK kvs k v))
theorem DPut.k {H : Hp} {a : Addr} {kvs : List (Key × V)} {k : Key} {v : V} (e : H a = some (.dK kvs)) (hl : kvs.length < sizeLine) : DPut H a (kV k) v (upd H a (.dK (putK kvs k v))) := .inl ⟨kvs, k, e, rfl, hl, rfl⟩
section
variable {X : Cx} {pins : List (Addr × Obj)} {σ : St} {H : Hp} {s : Shared} {a : Addr} {y v : V} {u r : Value} {o : Option V} {A : Around} {E : Value → Shared → Prop}

theorem Inv.big (I : Inv X pins σ H s) : sysModules < s.heap.objs.size := by
  have h : mainGlobals < s.heap.objs.size := (I.mod.glob.keeps I.bk).lt
  exact Nat.lt_trans (by decide) h

/-- d[y], there -/
theorem d_getItem {Q : Value → Shared → Prop} (hu : A.units + 1 < cLine) (I : Inv X pins σ H s) (g : DGet H a y (some v)) (ry : RelV y u) (h : ∀ w' s', Inv X pins σ H s' → RelV v w' → Q w' s') :
    wpAny (model X.prog X.w) A (getItem (.ref a) u) Q E s := by
  rcases g with ⟨kvs, k, e, ey, l⟩ | ⟨kvs, k, b, e, ey, eb, l⟩
  · subst ey
    obtain ⟨z, hd, vs, rel, dd⟩ := dk_rd I.hok e
    obtain ⟨w', hw, rw'⟩ := RelO.some_of (v := v) (o := valueAt vs k) (by rw [l]; exact rel.val k)
    exact wpAny_getItem_of (kV_is ry) dd.mapOf hw (h w' _ (I.tok _) rw')
  · subst ey
    cases (show u = Value.ref b from ry)
    obtain ⟨z, hd, xs, rel, dd⟩ := dt_rd I.hok e
    obtain ⟨w', hw, rw'⟩ := RelO.some_of (v := v) (o := (atKey xs k).map (·.2)) (by rw [l]; exact rel.val k)
    obtain ⟨p, hp, hp2⟩ := Option.map_eq_some_iff.mp hw
    refine wpAny_getItem_heap (tupleKind_room_in1 hu) (key_of I.hok eb) dd hp ?_
    rw [hp2]
    exact h w' _ (I.tok _) rw'
/-- a dict's object is replaced -/
theorem d_write {h' : Heap} {t' : Nat} {ob : HO} (I : Inv X pins σ H s) (mu : Mut (H a)) (hs : Heap.SameBut a s.heap h') (he : ∃ q, h'.get? a = some q) (new : ObjOk X.prog X.w (upd H a ob) h' a ob) :
    Inv X pins σ (upd H a ob) { s with heap := h', toks := t' } :=
  I.write (x := a) (e := a) mu (.inl rfl) (fun b q hb z => (hs.2 b hb).trans z) he new
theorem dk_new {P : Program} {w : World} {H' : Hp} {h' : Heap} {kvs : List (Key × V)} {vs : List (Key × Value)} (z : kvs.length ≤ sizeLine) (hd : (a == sysModules) = false) (rel : KV kvs vs) (dd : h'.DictOf (mixKind P w) a vs) :
    ObjOk P w H' h' a (.dK kvs) := ⟨z, hd, vs, rel, dd⟩
/-- d[y] = v -/
theorem d_setItem {H' : Hp} {Q : Unit → Shared → Prop} (hu : A.units + 1 < cLine) (I : Inv X pins σ H s) (g : DPut H a y v H') (ry : RelV y u) (rv : RelV v r) (h : ∀ s', Inv X pins σ H' s' → Q () s') :
    wpAny (model X.prog X.w) A (setItem (.ref a) u r) Q E s := by
  rcases g with ⟨kvs, k, e, ey, l, eH⟩ | ⟨kvs, k, b, e, ey, eb, l, eH⟩
  · subst ey eH
    obtain ⟨z, hd, vs, rel, dd⟩ := dk_of I.hok e
    have hz : vs.length ≤ sizeLine := by rw [← rel.length]; exact z
    have hl : (putK kvs k v).length ≤ sizeLine := by have := length_putK kvs k v; omega
    refine wpAny_setItem_pairs (hsz := hz) (kV_is ry) dd fun h' dd' hs => h _ ?_
    have he : ∃ q, h'.get? a = some q := let ⟨q, _, _, hq, _⟩ := dd'; ⟨q, hq⟩
    exact d_write I (by rw [e]; exact True.intro) hs he (dk_new hl hd (rel.put k rv) dd')
  · subst ey eH
    cases (show u = Value.ref b from ry)
    obtain ⟨z, hd, xs, rel, dd⟩ := dt_of I.hok e
    have hz : xs.length ≤ sizeLine := by rw [← Paired.length rel]; exact z
    have hl : (putK kvs k v).length ≤ sizeLine := by have := length_putK kvs k v; omega
    refine wpAny_setItem_heap (hsz := hz) (tupleKind_room_in1 hu) (key_of I.hok eb) dd fun h' dd' hs => h _ ?_
    obtain ⟨q, es, ep, hq, h2, h3, h4, _, h5⟩ := dd'
    refine d_write I (by rw [e]; exact True.intro) hs ⟨q, hq⟩ ⟨hl, hd, _, (rel.put k eb rv).keeps fun c ys ec => ?_, q, es, ep, hq, h2, h3, h4, h5⟩
    rw [upd_ne (ne_of ec e (fun z => nomatch z))]
    exact ec
end

section
variable {X : Cx} {pins : List (Addr × Obj)} {σ : St} {H : Hp} {s : Shared} {a : Addr} {kvs : List (Key × V)} {k : Key} {u : Value} {A : Around} {E : Value → Shared → Prop}
end


/-! ### readings and rules -/
/-- the element of a subscription, not a slice -/
def NoSl (i : Expr) : Prop := ∀ ov iv, subscripted i false ov iv = operate [ov, iv] (getItem ov iv)
theorem dict_typeIs {X : Cx} {pins : List (Addr × Obj)} {σ : St} {H : Hp} {s : Shared} {a : Addr} {y : V} {o : Option V} (I : Inv X pins σ H s) (g : DGet H a y o) : s.TypeIs (.ref a) "dict" := by
  rcases g with ⟨kvs, k, e, _, _⟩ | ⟨kvs, k, b, e, _, _, _⟩
  · obtain ⟨_, _, vs, _, dd⟩ := dk_rd I.hok e
    exact dd.typeIs
  · obtain ⟨_, _, xs, _, dd⟩ := dt_rd I.hok e
    exact dd.typeIs
/-- d[y] -/
def tDGet (td ty : TE) : TE := fun σ H Q => td σ H fun x H1 => ty σ H1 fun y H2 => ∃ a v, x = .ref a ∧ DGet H2 a y (some v) ∧ Q v H2
/-- y in d, y not in d -/
def tDIn (ty td : TE) : TE := fun σ H Q => ty σ H fun y H1 => td σ H1 fun x H2 => ∃ a o, x = .ref a ∧ DGet H2 a y o ∧ Q (.bl o.isSome) H2
def tDNotIn (ty td : TE) : TE := fun σ H Q => ty σ H fun y H1 => td σ H1 fun x H2 => ∃ a o, x = .ref a ∧ DGet H2 a y o ∧ Q (.bl (!o.isSome)) H2
/-- d[y] = v -/
def sDPut (td ty tv : TE) : TS := fun D σ H => tv σ H fun v H1 => td σ H1 fun x H2 => ty σ H2 fun y H3 => ∃ a H4, x = .ref a ∧ DPut H3 a y v H4 ∧ D.nx σ H4
/-- d[y] op= v -/
def sDAug (td ty tv : TE) (rd : V → V → Hp → VK → Prop) : TS := fun D σ H => td σ H fun x H1 => ty σ H1 fun y H2 => ∃ a v, x = .ref a ∧ DGet H2 a y (some v) ∧
  tv σ H2 fun y2 H3 => rd v y2 H3 fun z H4 => ∃ H5, DPut H4 a y z H5 ∧ D.nx σ H5
/-- del d[y] -/
def sDDel (td ty : TE) : TS := fun D σ H => td σ H fun x H1 => ty σ H1 fun y H2 => ∃ a kvs k, x = .ref a ∧ H2 a = some (.dK kvs) ∧ y = kV k ∧ (valV kvs k).isSome = true ∧ D.nx σ (upd H2 a (.dK (dropK kvs k)))

section
variable {X : Cx} {o i e value : Expr} {pos pos' tpos : Pos} {td ty tv : TE}
theorem ps_dput (hu : X.A.units + 1 < cLine) (ho : PE X o td) (hi : PE X i ty) (hv : PE X value tv) (hs : swapsWith value (some (.Subscript o i pos')) pos.line X.env = pure false) :
    PS X (.Assign [.Subscript o i pos'] value pos) (sDPut td ty tv) := by
  intro pins s σ H D I h
  refine wpAny_Assign_Subscript (thn (hv pins s σ H _ I h) fun r s1 ⟨v, H1, I1, rv, q1⟩ => thn (ho pins s1 σ H1 _ I1 q1) fun u s2 ⟨x, H2, I2, rx, q2⟩ => thn (hi pins s2 σ H2 _ I2 q2) fun iv s3 ⟨y, H3, I3, ry, a, H4, ex, g, q3⟩ => ?_) hs
  subst ex
  obtain rfl : u = Value.ref a := rx
  exact d_setItem hu I3 g ry rv fun s4 I4 => ⟨σ, H4, I4, q3⟩
end


/-! ### displays -/
theorem dk_empty {P : Program} {w : World} {H : Hp} (h : Heap) (hb : sysModules < h.objs.size) : ObjOk P w H (h.push { cls := .type "dict", data := .dict #[] }) h.objs.size (.dK []) :=
  ⟨Nat.zero_le _, beq_eq_false_iff_ne.mpr (Ne.symm (Nat.ne_of_lt hb)), [], .nil, Heap.DictOf.new h⟩
/-- {}, to be a dict of the kind that is wanted -/
def tDNewK : TE := fun _ H Q => ∀ p, H p = none → Q (.ref p) (upd H p (.dK []))
def tDNewT : TE := fun _ H Q => ∀ p, H p = none → Q (.ref p) (upd H p (.dT []))
section
variable {X : Cx} {pos : Pos}
theorem pe_dnewK : PE X (.Dict [] [] pos) tDNewK := fun pins s σ H Q I h =>
  wpAny_Dict_empty ⟨.ref s.heap.objs.size, _, I.laid (a := s.heap.objs.size) (o := .dK []) (t' := s.toks) (fun _ _ q => Heap.get?_push_of_some _ q) (Nat.le_refl _) (dk_empty s.heap I.big), rfl, h _ (I.hok.fresh (Nat.le_refl _))⟩
end

/-- the pairs of a display, from the left -/
def tPairs : List (TE × TE) → St → Hp → (List (V × V) → Hp → Prop) → Prop
  | [], _, H, Q => Q [] H
  | (tk, tv) :: r, σ, H, Q => tk σ H fun x H1 => tv σ H1 fun y H2 => tPairs r σ H2 fun ps H3 => Q ((x, y) :: ps) H3
abbrev VV : List (V × V) → List (Value × Value) → Prop := Paired fun p q => RelV p.1 q.1 ∧ RelV p.2 q.2
def PPs (X : Cx) (pos : Pos) (keys : List (Option Expr)) (values : List Expr) (trs : List (TE × TE)) : Prop :=
  ∀ (pins : List (Addr × Obj)) (s : Shared) (σ : St) (H : Hp) (Q : List (V × V) → Hp → Prop), Inv X pins σ H s → tPairs trs σ H Q →
    wpAny (model X.prog X.w) X.A (evalPairs (pairTrees keys values X.env pos)) (fun vs s' => ∃ ps H', Inv X pins σ H' s' ∧ VV ps vs ∧ Q ps H') X.xe s
def mergeK (kvs more : List (Key × V)) : List (Key × V) := more.foldl (fun acc kv => putK acc kv.1 kv.2) kvs
/-- {k: v, ..} with keys ints and texts; the new dict stands empty while the pairs are made -/
def tDisp (trs : List (TE × TE)) : TE := fun σ H Q => ∀ p, H p = none → tPairs trs σ (upd H p (.dK [])) fun ps H2 => H2 p = some (.dK []) ∧ ∃ kvs : List (Key × V), ps = kvs.map (fun kv => (kV kv.1, kv.2)) ∧ kvs.length ≤ 15 ∧ Q (.ref p) (upd H2 p (.dK (mergeK [] kvs)))
/-! ### methods -/
/-- a method call o.m(e) of a built-in, with one argument: what must be seen of the text -/
structure M1 (X : Cx) (o : Expr) (m : Str) (apos : Pos) (e : Expr) (cpos : Pos) : Prop where
  base : attributeBase o m X.env (eval o X.env) = eval o X.env
  few : ((backTo cpos (starEach [e] X.env)).all (fun x => !x.1) && (backToKw cpos (keywordEach [] X.env)).all (fun x => x.1.isSome)
    && decide (([e] : List Expr).length + ([] : List Keyword).length + (if ([] : List Keyword).isEmpty then 0 else 1) < 30)) = true
  line : (apos.endLine == cpos.line) = true
  trees : backTo cpos (starEach [e] X.env) = [(false, eval e X.env)]
structure M2 (X : Cx) (o : Expr) (m : Str) (apos : Pos) (e f : Expr) (cpos : Pos) : Prop where
  base : attributeBase o m X.env (eval o X.env) = eval o X.env
  few : ((backTo cpos (starEach [e, f] X.env)).all (fun x => !x.1) && (backToKw cpos (keywordEach [] X.env)).all (fun x => x.1.isSome)
    && decide (([e, f] : List Expr).length + ([] : List Keyword).length + (if ([] : List Keyword).isEmpty then 0 else 1) < 30)) = true
  line : (apos.endLine == cpos.line) = true
  trees : backTo cpos (starEach [e, f] X.env) = [(false, eval e X.env), (false, eval f X.env)]

/-- a is a dict, whatever its keys -/
def IsD (H : Hp) (a : Addr) : Prop := (∃ kvs, Rd H a (.dK kvs)) ∨ ∃ kvs, Rd H a (.dT kvs)
section
variable {X : Cx} {pins : List (Addr × Obj)} {σ : St} {H : Hp} {s : Shared} {a : Addr} {y d : V} {u r : Value} {o : Option V} {A : Around} {E : Value → Shared → Prop}
end

def tDGet1 (td ty : TE) : TE := fun σ H Q => td σ H fun x H1 => ∃ a, x = .ref a ∧ IsD H1 a ∧ ty σ H1 fun y H2 => ∃ o, DGet H2 a y o ∧ Q (o.getD .non) H2
def tDGet2 (td ty tx : TE) : TE := fun σ H Q => td σ H fun x H1 => ∃ a, x = .ref a ∧ IsD H1 a ∧ ty σ H1 fun y H2 => tx σ H2 fun z H3 => ∃ o, DGet H3 a y o ∧ Q (o.getD z) H3
/-- d.pop(k): there; d.pop(k, x): there or not -/
def tDPop1 (td ty : TE) : TE := fun σ H Q => td σ H fun x H1 => ∃ a, x = .ref a ∧ IsD H1 a ∧ ty σ H1 fun y H2 => ∃ kvs k v, H2 a = some (.dK kvs) ∧ y = kV k ∧ valV kvs k = some v ∧ Q v (upd H2 a (.dK (dropK kvs k)))
def tDPop2 (td ty tx : TE) : TE := fun σ H Q => td σ H fun x H1 => ∃ a, x = .ref a ∧ IsD H1 a ∧ ty σ H1 fun y H2 => tx σ H2 fun z H3 => ∃ kvs k, H3 a = some (.dK kvs) ∧ y = kV k ∧
  (∀ v, valV kvs k = some v → Q v (upd H3 a (.dK (dropK kvs k)))) ∧ (valV kvs k = none → Q z H3)
section
variable {X : Cx} {o e f : Expr} {apos cpos : Pos} {td ty tx : TE}
end

/-! ### dict(d): a copy -/
section
variable {X : Cx} {pins : List (Addr × Obj)} {σ : St} {H : Hp} {s : Shared} {a : Addr} {kvs : List (Key × V)} {A : Around} {E : Value → Shared → Prop}
end


section
variable {X : Cx} {pins : List (Addr × Obj)} {σ : St} {H : Hp} {s : Shared} {a : Addr} {y : V} {u : Value} {A : Around} {E : Value → Shared → Prop}
end
end L2

namespace Att
open PySem PySem.W PySem.Calls PyProof.Rows

/-! ### the script -/
theorem ints_of_wellAll {P : Params} {h : Heap} : ∀ (ns : List Int) (vs : List Value), WellAll P h vs (ns.map WData.int) → IntsAre vs ns := by
  intro ns
  induction ns with
  | nil =>
    intro vs w
    rw [List.map_nil] at w
    cases w
    exact .nil
  | cons n ns ih =>
    intro vs w
    rw [List.map_cons] at w
    cases w with
    | cons a b =>
      cases a
      exact .cons _ _ (ih _ b)

theorem script_of {l : OpenLaw} {n : Nat} (hn : l.most = some n) {P : Params} {h : Heap} {args : List WData} {vals : List Value}
    (hpre : l.row.toRowW.claim.pre args = true) (hwl : WellAll P h vals args) :
    ∃ a vs ns, vals = [Value.ref a] ∧ args = [WData.list (ns.map WData.int)] ∧ h.get? a = some { cls := .type "list", data := .seq vs.toArray } ∧ IntsAre vs ns ∧ ns.length ≤ n := by
  have hsh : WShape.hasAll [] args [.list .int] = true := (pre_splitW hpre).1
  have hc : l.pre.holds [] { args := args } = true := (pre_splitW hpre).2
  obtain ⟨d, r, rfl, h1, h2⟩ := hasAllW_cons hsh
  obtain rfl := hasAllW_nil h2
  obtain ⟨xs, rfl, h3⟩ := hasW_list h1
  obtain ⟨ns, rfl⟩ := items_int h3
  have hlen : ns.length ≤ n := by
    unfold OpenLaw.pre at hc
    have h4 : (WTm.not (.lt (.lit (.int (n : Int))) (.len (.arg 0)))).holds [] { args := [.list (ns.map .int)] } = true := by
      have h4 := (holds_andW hc).1
      rw [hn] at h4
      exact h4
    have h5 := condW_of h4 (w_not (w_lt w_lit (w_len_list (w_arg rfl))))
    rw [List.length_map] at h5
    refine Nat.le_of_not_lt fun q => ?_
    have q' : (n : Int) < ((ns.length : Nat) : Int) := by omega
    first
      | (rw [decide_eq_true q'] at h5; exact absurd h5 (by decide))
      | (simp at h5; omega)
  cases hwl with
  | cons w1 w2 =>
    cases w2
    cases w1 with
    | list ho hall => exact ⟨_, _, ns, rfl, rfl, ho, ints_of_wellAll ns _ hall, hlen⟩

theorem post_true (l : OpenLaw) (args : List WData) : l.row.toRowW.claim.post args (.bool true) args = true :=
  postW_of (r := l.row.toRowW) (X := (true == true))
    (show WShape.has [] (.bool true) .bool = true by first | rfl | decide | simp [WShape.has, WShape.arms, WShape.armsAll])
    (show (WTm.eq .res (.lit (.bool true))).value [] { args := args, res := some (.bool true), after := args } = some (.bool (true == true)) from w_eq_bool (w_res rfl) w_lit) rfl

/-! ### the attachment: holds_open's last premise (the goal 'hc' behind k_head) from a wpAny of the law's body -/
/-- the same from a codeAny of the CALL (for a layer whose function contracts speak of calls) -/
theorem attach_call {l : OpenLaw} {n : Nat} {q : Program} {loose : List Str} {XP : (Str → Option Value) → Heap → Prop} {YP : World → Heap → Prop} {d : DefRec}
    (hn : l.most = some n) (hdf : d.params.defaults = [])
    (call : ∀ (w : World) (s₀ s₁ : Shared) (mg mb : Str → Option Value) (fa : Addr) (o : Obj) (pm cd doc : Value) (a : Addr) (vs : List Value) (ns : List Int),
      Ground q loose [] XP w s₀ mg mb s₁.heap → YP w s₁.heap →
      s₁.heap.get? fa = some o → o.data = .func (docDef d.name d.params d.body d.scope pm cd doc) → s₁.heap.CodeRec cd d.name → mg d.name = some (.ref fa) →
      s₁.heap.get? a = some { cls := .type "list", data := .seq vs.toArray } → IntsAre vs ns → ns.length ≤ n → s₁.gens = #[] →
      codeAny (model l.prog w) callerA (.call (.ref fa) ⟨[.ref a], []⟩) (fun r s' => r = .ok (.ret (.bool true)) ∧ OldK s₁.heap s'.heap ∧ s'.os = s₁.os ∧ AllBare s'.gens) s₁) :
    WalkO q loose XP YP l.row.toRowW d [] (fun f vs => PySem.call f vs) := by
  intro w s₀ s₁ mg mb G Y fa o pm cd doc dV kV ho hd hcd hD hmg hg args vals as hpre hlay hrd hwl hlo
  obtain rfl : dV = .none := Dflts.none hD hdf
  obtain rfl : kV = .none := Dflts.noKw hD
  obtain ⟨a, vs, ns, rfl, rfl, hobj, hints, hlen⟩ := script_of hn hpre hwl
  refine enter_call (codeAny_mono (call w s₀ s₁ mg mb fa o pm cd doc a vs ns G Y ho (fd_plain hd) hcd hmg hobj hints hlen hg) fun r s' hq => ?_)
  obtain ⟨rfl, h2, h3, h4⟩ := hq
  exact ⟨.inl ⟨.bool true, .bool true, [], rfl, fun _ => rfl, .bool true, post_true l _, fun _ => ⟨List.Pairwise.nil, fun _ hm => (nomatch hm)⟩⟩, h2, h3, h4⟩

/-! ### rules over ANY heap (no ledger) from facts about the written part K: the library's own take a ledger (News) for what they write -/
section
variable {prog : Program} {w : World} {A : Around} {E : Value → Shared → Prop} {s : Shared} {K : Frag}

/-! the whole heap as the ledger: makes every rule that writes through a ledger a rule over any heap -/
def noObjs (h : Heap) : Heap := { h with objs := #[] }
def ledger (h : Heap) (L d : Addr) : List (Addr × Obj) := (List.range h.objs.size).filterMap fun a => if a = L ∨ a = d then none else (h.get? a).map fun o => (a, o)
end
end Att

namespace L2
open PySem PySem.Spec PyProof.Rows

theorem vals_ints : ∀ {vs : List Value} {ns : List Int}, IntsAre vs ns → Vals (ns.map V.int) vs
  | _, _, .nil => .nil
  | _, _, .cons n t h => .cons ⟨t, rfl⟩ (vals_ints h)

/-- nothing is tracked but the script, known to the object (or it is an object of the module) -/
def Only (H : Hp) : Prop := ∀ b, H b = none ∨ ∃ o xs, H b = some (.frz o (.lst xs))

/-- THE HEAD: the law's promise, at the heap behind the top. F, the promise of the law's def, may use that base is part of the heap (so K.In base, base.Ns mainGlobals mg stand in Mod) -/
theorem law_call {P : Program} {w : World} {K : PySem.W.Frag} {mg mb : Str → Option Value} {CX : CXT} {k : Nat} {fa a : Addr} {fd : FuncData} {x : Str} {sp : Sp} {s₁ : Shared} {vs : List Value} {ns : List Int}
    (KX : K.In s₁.heap) (hns : s₁.heap.Ns mainGlobals mg) (hb : s₁.heap.Ns builtinsNs mb) (hbb : ∀ x : Str, x ≠ "__name__" → mb x = bootBuiltins x) (hlim : s₁.heap.NoLimit) (hg : s₁.gens = #[])
    (ha : s₁.heap.get? a = some { cls := .type "list", data := .seq vs.toArray }) (hi : IntsAre vs ns) (hl : ns.length ≤ sizeLine) (hr : Room cc k callerA)
    (F : ∀ base : Heap, K.In base → base.Ns mainGlobals mg → FnOk P w K mg base CX cc k fa fd [x] sp) (hbind : ∀ (s : Shared) (u : Value), BindsTo s fd ⟨[u], []⟩ [(x, u)])
    (hsp : ∀ H : Hp, Only H → SqL K H a (ns.map V.int) → sp [.ref a] H (fun v _ => v = .bl true) fun _ _ _ => False)
    (hCX : ∀ H e s', CX [] H s₁ (fun _ _ _ => False) e s' → False) :
    codeAny (model P w) callerA (.call (.ref fa) ⟨[.ref a], []⟩) (fun r s' => r = .ok (.ret (.bool true)) ∧ OldK s₁.heap s'.heap ∧ s'.os = s₁.os ∧ AllBare s'.gens) s₁ := by
  have rv := vals_ints hi
  have lenV := hi.length
  -- from an abstract heap in which nothing but the script may be tracked
  have core : ∀ H : Hp, Only H → SqL K H a (ns.map V.int) → HOk P w H s₁.heap → (∀ b, H b ≠ none → b = a) → (H a ≠ none → K.lookup a = none) →
      codeAny (model P w) callerA (.call (.ref fa) ⟨[.ref a], []⟩) (fun r s' => r = .ok (.ret (.bool true)) ∧ OldK s₁.heap s'.heap ∧ s'.os = s₁.os ∧ AllBare s'.gens) s₁ := by
    intro H hO hS hok hA hK
    have base_of : ∀ {b : Addr} {o : Obj}, s₁.heap.get? b = some o → H b = none → (hidT s₁.heap H).get? b = some o := fun e n => hidT_get e n
    have noA : ∀ {b : Addr} {o : Obj} {es : Array DictEntry} {ep : Nat}, s₁.heap.get? b = some o → o.data = .dict es ep → H b = none := fun {b o es ep} e d => by
      cases q : H b with
      | none => rfl
      | some u =>
        have e' : b = a := hA b (by rw [q]; simp)
        subst e'
        rw [ha] at e; cases e
        have d' : Data.seq vs.toArray _ = Data.dict es ep := d
        cases d'
    have nsK : ∀ {b : Addr} {m : Str → Option Value}, s₁.heap.Ns b m → (hidT s₁.heap H).Ns b m := fun {b m} ⟨o, es, ep, e, d, r⟩ => ⟨o, es, ep, base_of e (noA e d), d, r⟩
    have hKb : K.In (hidT s₁.heap H) := fun b o e => base_of (KX b o e) (by
      cases q : H b with
      | none => rfl
      | some u =>
        have e' : b = a := hA b (by rw [q]; simp)
        subst e'
        rw [hK (by rw [q]; simp)] at e; cases e)
    have hM : Mod K mg (hidT s₁.heap H) := ⟨hKb, nsK hns, ⟨mb, nsK hb, hbb⟩, let ⟨mc, h1, h2⟩ := hlim; ⟨mc, nsK h1, h2⟩⟩
    have e0 : Env0 P w K mg (hidT s₁.heap H) callerA [] s₁ H := ⟨rfl, hM, fun b o e => of_hidT e, Nat.le_of_eq (hidT_size _ _), trivial, fun b hb => absurd (show b ∈ ([] : List Addr) from hb) (by simp), hok, .of_eq hg⟩
    refine codeAny_mono ((F _ hKb (nsK hns)).run callerA [] s₁ H ⟨[.ref a], []⟩ [.ref a] [.ref a] _ _ hr e0 (hbind s₁ (.ref a)) (.cons rfl .nil) (hsp H hO hS)) fun r s' h => ?_
    cases r with
    | error e => exact (hCX H e s' h).elim
    | ok fl =>
      cases fl with
      | next => exact False.elim h
      | brk => exact False.elim h
      | cont => exact False.elim h
      | ret u =>
        obtain ⟨v, H', os, bare, un, hok', r', q⟩ := h
        have q' : v = .bl true := q
        subst q'
        obtain rfl : u = Value.bool true := r'
        refine ⟨rfl, OldK.of_keep fun b o e => ?_, os, bare⟩
        cases q : H b with
        | none => exact un.keep b o e q (by intro z; exact absurd (show b ∈ ([] : List Addr) from z) (by simp)) (by simp)
        | some u =>
          rcases hO b with z | ⟨ob, xs, z⟩
          · rw [q] at z; cases z
          · have z2 := un.frzs b ob _ z
            obtain ⟨e1, _⟩ := hok b _ z
            obtain ⟨e2, _⟩ := hok' b _ z2
            rw [e] at e1; cases e1
            exact e2
  cases hk : K.lookup a with
  | some o =>
    -- the script is one of the module's own objects
    have e := KX a o hk
    rw [ha] at e
    cases e
    refine core (fun _ => none) (fun _ => .inl rfl) (.inr ⟨_, vs.toArray, _, hk, rfl, rfl, rfl, by rw [List.size_toArray, lenV]; exact hl, by simpa using rv⟩) (fun b u z => by have z' : (none : Option HO) = some u := z; cases z') (fun b z => absurd rfl z) fun z => absurd rfl z
  | none =>
    refine core (fun b => if b = a then some (.frz { cls := .type "list", data := .seq vs.toArray } (.lst (ns.map V.int))) else none) (fun b => ?_) (.inl (.inr ⟨{ cls := .type "list", data := .seq vs.toArray }, if_pos rfl⟩)) (fun b u z => ?_) (fun b z => ?_) fun _ => hk
    · by_cases hb : b = a
      · exact .inr ⟨_, _, if_pos hb⟩
      · exact .inl (if_neg hb)
    · by_cases hb : b = a
      · have z' := (if_pos hb).symm.trans z
        cases z'
        subst hb
        exact ⟨ha, by rw [List.length_map]; exact hl, vs, _, rv, ha⟩
      · have z' := (if_neg hb).symm.trans z
        cases z'
    · by_cases hb : b = a
      · exact hb
      · exact absurd (if_neg hb) z
end L2

namespace L2
open PySem PySem.Spec PyProof.Rows

abbrev KOf {K : PySem.W.Frag} {h : Heap} (_ : K.In h) : PySem.W.Frag := K

/-- the goal that k_head leaves (case hc), from the law's promise. F gives the function object fd (K's own) once, then the promise over every base -/
theorem walk_of {l : PySem.W.OpenLaw} {n k : Nat} {q : Program} {loose : List Str} {XP : (Str → Option Value) → Heap → Prop} {YP : World → Heap → Prop} {d : DefRec} {K : Params → PySem.W.Frag} {CX : World → CXT} {sp : World → Sp} {x : Str}
    (hn : l.most = some n) (hn2 : n ≤ sizeLine) (hdf : d.params.defaults = []) (hr : Room cc k callerA)
    (hY : ∀ (w : World) (h : Heap), YP w h → (K w.params).In h)
    (F : ∀ (w : World) (mg : Str → Option Value) (fa : Addr) (h : Heap), (K w.params).In h → h.Ns mainGlobals mg → mg d.name = some (.ref fa) →
      ∃ fd : FuncData, (∀ (s : Shared) (u : Value), BindsTo s fd ⟨[u], []⟩ [(x, u)]) ∧
        ∀ base : Heap, (K w.params).In base → base.Ns mainGlobals mg → FnOk l.prog w (K w.params) mg base (CX w) cc k fa fd [x] (sp w))
    (hsp : ∀ (w : World) (H : Hp) (a : Addr) (ns : List Int), ns.length ≤ n → Only H → SqL (K w.params) H a (ns.map V.int) → sp w [.ref a] H (fun v _ => v = .bl true) fun _ _ _ => False)
    (hCX : ∀ (w : World) (H : Hp) (s : Shared) (e : Value) (s' : Shared), CX w [] H s (fun _ _ _ => False) e s' → False) :
    PySem.W.WalkO q loose XP YP l.row.toRowW d [] (fun f vs => PySem.call f vs) := by
  refine Att.attach_call hn hdf fun w s₀ s₁ mg mb fa o pm cd doc a vs ns G Y ho hd hcd hmg hobj hints hlen hg => ?_
  have KX := hY w _ Y
  obtain ⟨fd, hb, hF⟩ := F w mg fa _ KX G.T.g hmg
  exact law_call KX G.T.g G.T.b G.T.builtins G.T.nolimit hg hobj hints (Nat.le_trans hlen hn2) hr hF hb (fun H hO hS => hsp w H a ns hlen hO hS) fun H e s' => hCX w H s₁ e s'
end L2

/-! SHORT WORDS over the layer: a def of the text, its body, what a loop and a test want. -/
namespace L2
open PySem PySem.Spec PyProof.Rows

/-! ### the text by places -/
/-- the j-th statement of a class's body -/
def inClass (s : Stmt) (j : Nat) : Stmt := match s with
  | .ClassDef _ _ _ body _ _ _ _ _ _ _ => body.getD j (.Pass ⟨0, 0, 0, 0⟩)
  | _ => .Pass ⟨0, 0, 0, 0⟩
def defArgs (s : Stmt) : Arguments := match s with
  | .FunctionDef _ a _ _ _ _ _ _ _ _ => a
  | _ => { posonlyargs := [], args := [], vararg := none, kwonlyargs := [], kw_defaults := [], kwarg := none, defaults := [] }
def defBody (s : Stmt) : List Stmt := match s with
  | .FunctionDef _ _ b _ _ _ _ _ _ _ => b
  | _ => []
def defScope (s : Stmt) : Scope := match s with
  | .FunctionDef _ _ _ _ _ _ sc _ _ _ => sc
  | _ => { kind := .function, names := [], isGenerator := false, isCoroutine := false }

/-! ### no exception leaves a def -/
abbrev CX0 : CXT := fun _ _ _ _ _ _ => False
abbrev E0 : XK := fun _ _ _ => False
/-! ### a def (or method) of the text as it stands behind the top -/
structure Fun (K : PySem.W.Frag) (x qual : Str) (st : Stmt) (f : Addr) (fd : FuncData) : Prop where
  ex : ∃ (oc : Value) (od : Option Addr) (kV doc pm : Value) (an : Option Addr) (cdv ct : Value) (osl : Array (Option Value)),
    fd = PySem.W.fnOf x qual (defArgs st) (defBody st) (defScope st) .none kV doc pm an cdv ct ∧ K.lookup f = some ⟨oc, od, .func fd, osl⟩ ∧ PySem.W.codeIn K cdv qual = true
  kp : PySem.W.keepIn K (.ref f) = true
section
variable {P : Program} {w : World} {K : PySem.W.Frag} {mg : Str → Option Value} {base : Heap}
/-- how its arguments bind (no defaults): h is «fun _ _ _ _ _ _ us hl => match us, hl with | [_, _], _ => rfl», one _ a parameter -/
theorem Fun.binds {x qual : Str} {st : Stmt} {f : Addr} {fd : FuncData} {ps : List Str} (F : Fun K x qual st f fd)
    (h : ∀ (kV doc pm : Value) (an : Option Addr) (cdv ct : Value) (us : List Value), us.length = ps.length → bindArgs (PySem.W.fnOf x qual (defArgs st) (defBody st) (defScope st) .none kV doc pm an cdv ct) ⟨us, []⟩ = pure (ps.zip us)) : Binds K fd ps [] := by
  obtain ⟨oc, od, kV, doc, pm, an, cdv, ct, osl, rfl, lk, hcd⟩ := F.ex
  exact .all (h kV doc pm an cdv ct)
theorem fun_mk {x qual : Str} {st : Stmt} {f : Addr} {oc : Value} {od an : Option Addr} {osl : Array (Option Value)} {kV doc pm cdv ct : Value} (l : K.lookup f = some ⟨oc, od, .func (PySem.W.fnOf x qual (defArgs st) (defBody st) (defScope st) .none kV doc pm an cdv ct), osl⟩)
    (c : PySem.W.codeIn K cdv qual = true) (k : PySem.W.keepIn K (.ref f) = true) : Fun K x qual st f (PySem.W.fnOf x qual (defArgs st) (defBody st) (defScope st) .none kV doc pm an cdv ct) := ⟨⟨oc, od, kV, doc, pm, an, cdv, ct, osl, rfl, l, c⟩, k⟩
end
/-! ### expressions in short: the name that stands in the i-th slot -/
section
variable {X : Cx}
end

/-! ### tests -/
theorem iteF {A B : Prop} (h : B) : if false = true then A else B := by
  rw [if_neg Bool.false_ne_true]
  exact h
theorem iteT {A B : Prop} (h : A) : if true = true then A else B := by
  rw [if_pos rfl]
  exact h
/-! ### heaps -/
/-- all that was tracked is as it was -/
def Same (H H' : Hp) : Prop := ∀ b o, H b = some o → H' b = some o
theorem Same.refl (H : Hp) : Same H H := fun _ _ h => h
theorem Same.trans {H H1 H2 : Hp} (a : Same H H1) (b : Same H1 H2) : Same H H2 := fun c o h => b c o (a c o h)
theorem Same.free {H H' : Hp} (e : Same H H') {l : Addr} (h : H' l = Option.none) : H l = Option.none := by
  cases q : H l with
  | none => rfl
  | some o =>
    rw [e l o q] at h
    cases h
theorem Same.seq {K : PySem.W.Frag} {H H' : Hp} {a : Addr} {xs : List V} (e : Same H H') (h : SqL K H a xs) : SqL K H' a xs := by
  rcases h with (h | ⟨o, h⟩) | h
  · exact .inl (.inl (e _ _ h))
  · exact .inl (.inr ⟨o, e _ _ h⟩)
  · exact .inr h

end L2

namespace L2
open PySem PySem.Spec PyProof.Rows
section
variable {X : Cx}
end
/-! ### a dict's pairs: keys that differ -/
section
variable {κ : Type} [DecidableEq κ]
theorem valV_in {kvs : List (κ × V)} {k : κ} {v : V} (h : valV kvs k = some v) : k ∈ kvs.map (·.1) := by
  have q : (kvs.any fun kv => decide (kv.1 = k)) = true := by
    rw [valV_any, h]
    all_goals rfl
  obtain ⟨p, hp, e⟩ := List.any_eq_true.mp q
  exact List.mem_map.mpr ⟨p, hp, of_decide_eq_true e⟩
end
end L2


namespace L2
open PySem PySem.Spec PyProof.Rows

/-! ### exceptions: the object and its traceback -/
/-- a chain of contexts, and its end -/
def Linked (h : Heap) : Option Value → List Addr → Prop
  | c, [] => c = some .none
  | c, a :: r => c = some (.ref a) ∧ ∃ o vs, h.get? a = some o ∧ o.data = .fields vs ∧ Linked h vs[2]? r
theorem Linked.stay {h h' : Heap} {e : Addr} (k : ∀ v o ws, v ≠ e → h.get? v = some o → o.data = .fields ws → ∃ o' ws', h'.get? v = some o' ∧ o'.data = .fields ws' ∧ ws'[2]? = ws[2]?) : ∀ {l : List Addr} {c : Option Value}, Linked h c l → e ∉ l → Linked h' c l
  | [], _, q, _ => q
  | a :: r, c, ⟨q1, o, vs, q2, q3, q4⟩, n => by
    obtain ⟨o', ws', k1, k2, k3⟩ := k a o vs (fun z => n (by simp [z])) q2 q3
    refine ⟨q1, o', ws', k1, k2, ?_⟩
    rw [k3]
    exact Linked.stay k q4 fun z => n (by simp [z])
/-- what is known of a context: whether there is surely none; it ends -/
def Ctx (h : Heap) (e : Addr) (b : Bool) (c : Option Value) : Prop := (b = true → c = some .none) ∧ ∃ l, Linked h c l ∧ e ∉ l ∧ l.Nodup
theorem Ctx.stay {h h' : Heap} {e : Addr} {b : Bool} {c : Option Value} (q : Ctx h e b c) (k : ∀ v o ws, v ≠ e → h.get? v = some o → o.data = .fields ws → ∃ o' ws', h'.get? v = some o' ∧ o'.data = .fields ws' ∧ ws'[2]? = ws[2]?) : Ctx h' e b c := by
  obtain ⟨q1, l, q2, q3, q4⟩ := q
  exact ⟨q1, l, q2.stay k q3, q3, q4⟩
/-- d: the address of its dict, and whether it surely has no context; tb: its traceback's head, whose flight is fl -/
def Flies (h : Heap) (e : Addr) (cls : Value) (d : Option Addr × Bool) (tb : Option Addr) (fl : Value) : Prop :=
  ∃ oe vs, h.get? e = some oe ∧ oe.cls = cls ∧ oe.dict = d.1 ∧ oe.data = .fields vs ∧ vs[1]? = some (tb.elim Value.none Value.ref) ∧ 2 < vs.size ∧ Ctx h e d.2 vs[2]? ∧
    ∀ T, tb = some T → T ≠ e ∧ ∃ oT ws, h.get? T = some oT ∧ oT.data = .fields ws ∧ ws[3]? = some fl
/-- how an exception lies behind a call -/
def CX1 (P : Program) (w : World) : CXT := fun outer H s E x s' => ∃ e tb cls d H', x = .ref e ∧ s'.os = s.os ∧ AllBare s'.gens ∧ Un (frs outer) [] H H' s.heap s'.heap ∧ HOk P w H' s'.heap ∧ Flies s'.heap e cls d tb .none ∧
  (∀ b ∈ e :: tb.toList, H' b = none ∧ s.heap.get? b = none) ∧ E cls d H'
theorem CX1.never {P : Program} {w : World} {outer : List Env} {H : Hp} {s s' : Shared} {e : Value} (h : CX1 P w outer H s (fun _ _ _ => False) e s') : False := by
  obtain ⟨_, _, _, _, _, _, _, _, _, _, _, _, z⟩ := h
  exact z

section
variable {M : Model} {A : Around} {E : Value → Shared → Prop} {s : Shared}
/-- the noting of a frame, told whole -/
theorem entry_new {base : Heap} {env : Env} {outer : List Env} {L e : Addr} {oe : Obj} {vs : Array Value} {head : Value} {hadNext : Bool} {Q : Unit → Shared → Prop}
    (hfr : A.frames = some (env :: outer)) (hl : s.heap.FunFrames base (env :: outer)) (hf : env.frame = some L) (he : s.heap.get? e = some oe) (hd : oe.data = .fields vs) (hsz : 1 < vs.size)
    (k : ∀ (h' : Heap) (T : Addr) (oT : Obj) (ws : Array Value), s.heap.objs.size ≤ h'.objs.size → (∀ b o, s.heap.get? b = some o → b ≠ e → b ∉ frs (env :: outer) → h'.get? b = some o) →
      (∀ b o, s.heap.get? b = some o → b ≠ e → ∃ sl, h'.get? b = some { o with slots := sl }) → s.heap.objs.size ≤ T → h'.get? e = some (oe.mapFields (·.setIfInBounds 1 (.ref T))) →
      h'.get? T = some oT → oT.data = .fields ws → ws[3]? = some (rawInt L) → Q () { s with heap := h' }) :
    wpAny M A (do
      let a ← frameOf env
      let pl ← entryPlaceOf L hadNext
      let b ← EntryCells.newEntry head a .none (rawInt L) .none pl
      setField (.ref e) 1 b) Q E s := by
  have hne : e ∉ (env :: outer).filterMap (·.frame) := fun m => by
    obtain ⟨_, o, ho, nf⟩ := hl.mem m
    rw [he] at ho
    cases ho
    exact nf vs hd
  refine wpAny_bind (wpAny_frameOf_fun hfr hl hf fun h1 so => wpAny_bind (wpAny_entryPlaceOf fun pl hp => ?_))
  unfold EntryCells.newEntry newFields
  refine wpAny_bind (wpAny_newObj_type ?_ (hp.sizeOk5 _ _ _ _ _))
  have e1 : h1.get? e = some oe := (so.2.1 e hne).trans he
  have hTe : e ≠ h1.objs.size := Nat.ne_of_lt (Heap.lt_size e1)
  refine wpAny_setField (Heap.get?_push_of_some _ e1) hd hsz (k _ h1.objs.size { cls := .type "traceback", dict := none, data := .fields (([head, .ref L, .none, rawInt L, .none] : List Value) ++ (if pl.isEmpty then List.replicate 6 Value.none else pl)).toArray } (([head, .ref L, .none, rawInt L, .none] : List Value) ++ (if pl.isEmpty then List.replicate 6 Value.none else pl)).toArray ?_ (fun b o hb hbe hbf => ?_) (fun b o hb hbe => ?_) (Nat.le_of_eq so.1.symm) ?_ ?_ ?_ ?_)
  · rw [Heap.size_after_update, Heap.size_push, so.1]
    exact Nat.le_succ _
  · rw [Heap.get?_update_other _ _ (Ne.symm hbe)]
    exact Heap.get?_push_of_some _ ((so.2.1 b hbf).trans hb)
  · obtain ⟨sl, q⟩ := so.2.2 b o hb
    exact ⟨sl, by rw [Heap.get?_update_other _ _ (Ne.symm hbe)]; exact Heap.get?_push_of_some _ q⟩
  · exact Heap.get?_update_self _ (Heap.get?_push_of_some _ e1) (Obj.isFreed_of_fields (Obj.data_mapFields hd _))
  · rw [Heap.get?_update_other _ _ hTe]
    exact Heap.get?_push_size h1 rfl
  · exact rfl
  · first
      | (simp; done)
      | (rcases hp with rfl | ⟨_, _, _, _, _, _, _, rfl⟩ <;> simp)

/-- what a note does to a heap -/
structure Noted (h h' : Heap) (ch fs : List Addr) : Prop where
  keep : ∀ b o, h.get? b = some o → b ∉ fs → b ∉ ch → h'.get? b = some o
  slot : ∀ b o, h.get? b = some o → b ∉ ch → ∃ sl, h'.get? b = some { o with slots := sl }
  there : ∀ b o, h.get? b = some o → ∃ o', h'.get? b = some o'

theorem note_any {base : Heap} {env : Env} {outer : List Env} {L e : Addr} {cls : Value} {d : Option Addr × Bool} {tb : Option Addr} {fl : Value} {Q : Unit → Shared → Prop}
    (hfr : A.frames = some (env :: outer)) (hl : s.heap.FunFrames base (env :: outer)) (hf : env.frame = some L) (F : Flies s.heap e cls d tb fl) (hfl : (fl == rawInt L) = false)
    (k : ∀ (h' : Heap) (T : Addr), Noted s.heap h' (e :: tb.toList) (frs (env :: outer)) → s.heap.objs.size ≤ T → Flies h' e cls d (some T) (rawInt L) → Q () { s with heap := h' }) :
    wpAny M A (noteFrame (.ref e) env) Q E s := by
  obtain ⟨oe, vs, he, hc, hdx, hd, h1, hz, h2, ht⟩ := F
  have fin : ∀ {hp : Heap} {h' : Heap} {T : Addr} {oT : Obj} {ws : Array Value}, (∀ v o ws, v ≠ e → s.heap.get? v = some o → o.data = .fields ws → ∃ o' ws', h'.get? v = some o' ∧ o'.data = .fields ws' ∧ ws'[2]? = ws[2]?) → hp.get? e = some oe → hp.objs.size ≤ T → h'.get? e = some (oe.mapFields (·.setIfInBounds 1 (.ref T))) → h'.get? T = some oT → oT.data = .fields ws →
      ws[3]? = some (rawInt L) → Flies h' e cls d (some T) (rawInt L) := fun {hp h' T oT ws} kk e0 hT q1 q2 q3 q4 => by
    have hd' := Obj.data_mapFields hd (·.setIfInBounds 1 (Value.ref T))
    refine ⟨_, _, q1, (Obj.cls_mapFields _ _).trans hc, ?_, hd', ?_, by simpa using hz, ?_, fun T' eT => ?_⟩
    · obtain ⟨c0, d0, dt, sl⟩ := oe
      cases hd
      exact hdx
    · have : 1 < vs.size := by omega
      simp [this]
    · rw [Array.getElem?_setIfInBounds_ne (by decide)]
      exact h2.stay kk
    · cases eT
      exact ⟨fun z => Nat.lt_irrefl _ (Nat.lt_of_lt_of_le (Heap.lt_size e0) (z ▸ hT)), oT, ws, q2, q3, q4⟩
  unfold noteFrame
  simp only [hf]
  cases tb with
  | none =>
    have h1' : vs[1]? = some Value.none := h1
    refine wpAny_bind (wpAny_field he hd h1' ?_)
    rw [if_neg (by decide)]
    refine entry_new hfr hl hf he hd (by omega) fun h' T oT ws a1 a2 a3 a4 a5 a6 a7 a8 => k h' T ⟨fun b o q1 q2 q3 => a2 b o q1 (fun z => q3 (by simp [z])) q2, fun b o q1 q3 => a3 b o q1 fun z => q3 (by simp [z]), fun b o q1 => ?_⟩ a4 (fin (fun v o ws hv q1 q2 => by obtain ⟨sl, q⟩ := a3 v o q1 hv; exact ⟨_, ws, q, q2, rfl⟩) he a4 a5 a6 a7 a8)
    by_cases z : b = e
    · subst z; exact ⟨_, a5⟩
    · obtain ⟨sl, q⟩ := a3 b o q1 z
      exact ⟨_, q⟩
  | some T0 =>
    obtain ⟨hne, oT0, ws0, t1, t2, t3⟩ := ht T0 rfl
    have h1' : vs[1]? = some (Value.ref T0) := h1
    refine wpAny_bind (wpAny_field he hd h1' ?_)
    rw [if_pos (show (Value.ref T0 != Value.none) = true from by simp)]
    refine wpAny_bind (wpAny_field t1 t2 t3 ?_)
    rw [if_neg (by rw [hfl]; exact Bool.false_ne_true)]
    refine wpAny_bind (wpAny_setField t1 t2 (Array.getElem?_eq_some_iff.mp t3).1 ?_)
    have oth : ∀ b, b ≠ T0 → (s.heap.update T0 (Obj.mapFields (·.setIfInBounds 3 Value.none))).get? b = s.heap.get? b := fun b hb => Heap.get?_update_other _ _ (Ne.symm hb)
    have slf := Heap.get?_update_self (Obj.mapFields (·.setIfInBounds 3 Value.none)) t1 (Obj.isFreed_of_fields (Obj.data_mapFields t2 _))
    have hsz : (s.heap.update T0 (Obj.mapFields (·.setIfInBounds 3 Value.none))).objs.size = s.heap.objs.size := Heap.size_after_update ..
    have hl' : (s.heap.update T0 (Obj.mapFields (·.setIfInBounds 3 Value.none))).FunFrames base (env :: outer) := hl.of_keeps fun b o hb nf => ⟨o, (oth b fun z => by
      subst z
      rw [t1] at hb
      cases hb
      exact nf ws0 t2).trans hb, rfl⟩
    refine entry_new (s := { s with heap := s.heap.update T0 (Obj.mapFields (·.setIfInBounds 3 Value.none)) }) hfr hl' hf ((oth e (Ne.symm hne)).trans he) hd (by omega) fun h' T oT ws a1 a2 a3 a4 a5 a6 a7 a8 =>
      k h' T ⟨fun b o q1 q2 q3 => a2 b o ((oth b fun z => q3 (by simp [z])).trans q1) (fun z => q3 (by simp [z])) q2, fun b o q1 q3 => a3 b o ((oth b fun z => q3 (by simp [z])).trans q1) fun z => q3 (by simp [z]), fun b o q1 => ?_⟩ (hsz ▸ a4) (fin (fun v o ws hv q1 q2 => by
        by_cases z2 : v = T0
        · subst z2
          obtain ⟨sl, q⟩ := a3 v _ slf hv
          rw [t1] at q1
          cases q1
          exact ⟨_, _, q, Obj.data_mapFields q2 _, by rw [Array.getElem?_setIfInBounds_ne (by decide)]⟩
        · obtain ⟨sl, q⟩ := a3 v o ((oth v z2).trans q1) hv
          exact ⟨_, ws, q, q2, rfl⟩) ((oth e (Ne.symm hne)).trans he) a4 a5 a6 a7 a8)
    by_cases z : b = e
    · subst z; exact ⟨_, a5⟩
    · by_cases z2 : b = T0
      · subst z2
        obtain ⟨sl, q⟩ := a3 b _ slf z
        exact ⟨_, q⟩
      · obtain ⟨sl, q⟩ := a3 b o ((oth b z2).trans q1) z
        exact ⟨_, q⟩
theorem note_new {base : Heap} {env : Env} {outer : List Env} {L e : Addr} {cls : Value} {d : Option Addr × Bool} {tb : Option Addr} {Q : Unit → Shared → Prop}
    (hfr : A.frames = some (env :: outer)) (hl : s.heap.FunFrames base (env :: outer)) (hf : env.frame = some L) (F : Flies s.heap e cls d tb .none)
    (k : ∀ (h' : Heap) (T : Addr), Noted s.heap h' (e :: tb.toList) (frs (env :: outer)) → s.heap.objs.size ≤ T → Flies h' e cls d (some T) (rawInt L) → Q () { s with heap := h' }) :
    wpAny M A (noteFrame (.ref e) env) Q E s :=
  note_any hfr hl hf F (by simp [rawInt]) k
theorem note_held {env : Env} {L e : Addr} {cls : Value} {d : Option Addr × Bool} {tb : Option Addr} {Q : Unit → Shared → Prop} (hf : env.frame = some L) (F : Flies s.heap e cls d tb (rawInt L)) (ht : tb.isSome = true) (k : Q () s) :
    wpAny M A (noteFrame (.ref e) env) Q E s := by
  obtain ⟨oe, vs, he, hc, hdx, hd, h1, hz, h2, hT⟩ := F
  cases tb with
  | none => cases ht
  | some T =>
    obtain ⟨_, oT, ws, t1, t2, t3⟩ := hT T rfl
    exact wpAny_noteFrame_inFlight hf he hd h1 t1 t2 t3 k
theorem flight_off {e T : Addr} {cls : Value} {d : Option Addr × Bool} {fl : Value} {Q : Unit → Shared → Prop} (F : Flies s.heap e cls d (some T) fl)
    (k : ∀ h', Noted s.heap h' [T] [] → Flies h' e cls d (some T) .none → Q () { s with heap := h' }) : wpAny M A (setFlight (.ref e) none) Q E s := by
  obtain ⟨oe, vs, he, hc, hdx, hd, h1, hz, h2, hT⟩ := F
  obtain ⟨hne, oT, ws, t1, t2, t3⟩ := hT T rfl
  have h3 : 3 < ws.size := (Array.getElem?_eq_some_iff.mp t3).1
  refine wpAny_setFlight_none he hd h1 t1 t2 h3 (k _ ⟨fun b o q _ n => ?_, fun b o q n => ⟨o.slots, ?_⟩, fun b o q => ?_⟩ ?_)
  · rw [Heap.get?_update_other _ _ (fun z => n (by simp [z]))]; exact q
  · rw [Heap.get?_update_other _ _ (fun z => n (by simp [z]))]; exact q
  · by_cases z : b = T
    · subst z; exact ⟨_, Heap.get?_update_self _ t1 (Obj.isFreed_of_fields (Obj.data_mapFields t2 _))⟩
    · exact ⟨o, by rw [Heap.get?_update_other _ _ (Ne.symm z)]; exact q⟩
  · refine ⟨oe, vs, ?_, hc, hdx, hd, h1, hz, h2.stay fun v o ws hv q1 q2 => ?_, fun T' eT => ?_⟩
    · rw [Heap.get?_update_other _ _ hne]; exact he
    · by_cases z : v = T
      · subst z
        rw [t1] at q1
        cases q1
        exact ⟨_, _, Heap.get?_update_self _ t1 (Obj.isFreed_of_fields (Obj.data_mapFields t2 _)), Obj.data_mapFields q2 _, by rw [Array.getElem?_setIfInBounds_ne (by decide)]⟩
      · exact ⟨o, ws, by rw [Heap.get?_update_other _ _ (Ne.symm z)]; exact q1, q2, rfl⟩
    · cases eT
      exact ⟨hne, _, _, Heap.get?_update_self _ t1 (Obj.isFreed_of_fields (Obj.data_mapFields t2 _)), Obj.data_mapFields t2 _, by simp [h3]⟩
end

section
variable {X : Cx} {pins : List (Addr × Obj)} {σ : St} {H H' : Hp} {s s' : Shared}
/-- a record that may turn -/
def Ch (X : Cx) (pins : List (Addr × Obj)) (b : Addr) : Prop := (b ∈ X.ex ∨ X.s₀.heap.get? b = none) ∧ b ≠ X.env.locals ∧ (∀ x c, X.env.cells.lookup x = some c → c ≠ b) ∧ ∀ p ∈ X.pn ++ pins, p.1 ≠ b
theorem Inv.ch (I : Inv X pins σ H s) {b : Addr} (h : s.heap.get? b = none) : Ch X pins b := by
  refine ⟨?_, fun z => ?_, fun x c q z => ?_, fun p hp z => ?_⟩
  · by_cases hx : b ∈ X.ex
    · exact .inl hx
    · refine .inr ?_
      cases q : X.s₀.heap.get? b with
      | none => rfl
      | some o =>
        obtain ⟨o', q'⟩ := I.base.there b o q hx
        rw [h] at q'; cases q'
  · obtain ⟨_, ⟨o, _, _, ho, _⟩, _⟩ := I.loc
    rw [← z, h] at ho; cases ho
  · obtain ⟨_, o, ho, _⟩ := I.cell x c q
    rw [z, h] at ho; cases ho
  · have := (I.pin p hp).1
    rw [z, h] at this; cases this
/-- behind a note -/
theorem Inv.noted {ch : List Addr} {h' : Heap} (I : Inv X pins σ H s) (N : Noted s.heap h' ch (frs X.stack)) (hc : ∀ b ∈ ch, H b = none ∧ Ch X pins b) : Inv X pins σ H { s with heap := h' } := by
  have trk : ∀ b u, H b = some u → b ∉ frs X.stack ∧ b ∉ ch := fun b u e => ⟨(fun z => by rw [I.stkFree b z] at e; cases e), (fun z => by rw [(hc b z).1] at e; cases e)⟩
  refine I.call (g' := s.gens) (d' := s.drawn) (t' := s.toks) (ch := ch) (h' := h') ⟨fun b o e _ hb hx => N.keep b o e hb hx, fun b o e _ _ hx => N.slot b o e hx, fun _ _ _ n _ => n, fun b o e _ => N.there b o e, fun _ _ e => e, fun _ _ _ e => e, fun b ps e => ⟨#[], by rw [e]; simp⟩⟩ ?_ I.bare fun b hb => (hc b hb).2
  intro b u e
  refine (I.hok b u e).stay (fun c v hcv q => ?_) (fun _ q => q) fun _ _ q => q
  rcases hcv with z | z
  · subst z; exact N.keep c v q (trk c u e).1 (trk c u e).2
  · exact N.keep c v q (trk c _ z).1 (trk c _ z).2

/-- an exception has come up at a state of this code -/
def XAt (X : Cx) (pins : List (Addr × Obj)) (σ : St) (H : Hp) (s : Shared) (e : Addr) (cls : Value) (d : Option Addr × Bool) : Prop :=
  Inv X pins σ H s ∧ ∃ tb fl, Flies s.heap e cls d tb fl ∧ (fl = .none ∨ (fl = rawInt X.env.locals ∧ tb.isSome = true)) ∧ ∀ b ∈ e :: tb.toList, H b = none ∧ Ch X pins b
/-- what is wanted of an exception, by the names' values, its class, its dict, the abstract heap -/
def XOk (X : Cx) (Kx : St → XK) : Prop := ∀ (pins : List (Addr × Obj)) (σ : St) (H : Hp) (s : Shared) (e : Addr) (cls : Value) (d : Option Addr × Bool), XAt X pins σ H s e cls d → Kx σ cls d H → X.xe (.ref e) s
theorem Inv.flown {E : XK} {x : Value} (I : Inv X pins σ H s) (c : CX1 X.prog X.w X.stack H s E x s') : ∃ e cls d H', x = .ref e ∧ XAt X pins σ H' s' e cls d ∧ E cls d H' := by
  obtain ⟨e, tb, cls, d, H', rfl, os, bare, un, hok, F, ch, q⟩ := c
  have I' : Inv X pins σ H' s' := I.call' (ch := []) os un hok bare fun b z => absurd z (by simp)
  exact ⟨e, cls, d, H', rfl, ⟨I', tb, .none, F, .inl rfl, fun b hb => ⟨(ch b hb).1, I.ch (ch b hb).2⟩⟩, q⟩
theorem xok_false (h : X.xe = fun _ _ => False) : XOk X (fun _ _ _ _ => False) := fun _ _ _ _ _ _ _ _ z => z.elim

/-- the frame is noted -/
theorem XAt.note {M : Model} {E : Value → Shared → Prop} {e : Addr} {cls : Value} {d : Option Addr × Bool} {Q : Unit → Shared → Prop} (x : XAt X pins σ H s e cls d) (hst : X.stack = X.env :: X.outer) (hf : X.env.frame = some X.env.locals)
    (k : ∀ s' T, Inv X pins σ H s' → Flies s'.heap e cls d (some T) (rawInt X.env.locals) → (∀ b ∈ [e, T], H b = none ∧ Ch X pins b) → Q () s') : wpAny M X.A (noteFrame (.ref e) X.env) Q E s := by
  obtain ⟨I, tb, fl, F, hfl, ch⟩ := x
  rcases hfl with z | ⟨z, ht⟩
  · subst z
    have hl := I.stack
    rw [hst] at hl
    refine note_new (base := X.base) (I.ok.frames.trans (by rw [hst])) hl hf F fun h' T N hT F' => k _ T (I.noted (by rw [hst]; exact N) ch) F' fun b hb => ?_
    rcases List.mem_cons.mp hb with z | z
    · subst z; exact ch _ List.mem_cons_self
    · have z' : b = T := by simpa using z
      subst z'
      exact ⟨I.hok.fresh hT, I.ch (Heap.get?_none_of_le hT)⟩
  · subst z
    cases tb with
    | none => cases ht
    | some T => exact note_held hf F rfl (k s T I F ch)
theorem Inv.off {M : Model} {E : Value → Shared → Prop} {e T : Addr} {cls : Value} {d : Option Addr × Bool} {fl : Value} {Q : Unit → Shared → Prop} (I : Inv X pins σ H s) (F : Flies s.heap e cls d (some T) fl) (hc : ∀ b ∈ [e, T], H b = none ∧ Ch X pins b)
    (k : ∀ s', Inv X pins σ H s' → Flies s'.heap e cls d (some T) .none → Q () s') {A : Around} : wpAny M A (setFlight (.ref e) none) Q E s := by
  refine flight_off F fun h' N F' => k _ (I.noted (ch := [T]) ⟨fun b o q _ n => N.keep b o q (by simp) n, N.slot, N.there⟩ fun b hb => ?_) F'
  have z : b = T := by simpa using hb
  subst z
  exact hc b (by simp)
end

/-- an exception leaves a def's body -/
theorem xok_fn {cc : Bool} {P : Program} {w : World} {K : PySem.W.Frag} {mg : Str → Option Value} {base : Heap} {N : List Str} {qual : Str} {scope : Scope} {f : Addr} {cd : Value} {A : Around} {outer : List Env} {s₀ : Shared} {H₀ : Hp} {E : XK} :
    XOk (cxOf cc (CX1 P w) P w K mg base N qual scope f cd A outer s₀ H₀ E) (fun _ => E) := by
  intro pins σ H s e cls d x q
  show wpAny _ _ (leaving _ _) _ _ s
  unfold leaving
  refine wpAny_bind (x.note rfl rfl fun s1 T I1 F1 c1 => ?_)
  refine I1.off F1 c1 fun s2 I2 F2 => ?_
  refine ⟨e, some T, cls, d, H, rfl, I2.os, I2.bare, I2.base, I2.hok, F2, fun b hb => ?_, q⟩
  have z := c1 b (by simpa using hb)
  refine ⟨z.1, ?_⟩
  rcases z.2.1 with y | y
  · exact absurd (show b ∈ ([] : List Addr) from y) (by simp)
  · exact y
theorem passes_fn {cc : Bool} {P : Program} {w : World} {K : PySem.W.Frag} {mg : Str → Option Value} {base : Heap} {N : List Str} {qual : Str} {scope : Scope} {f : Addr} {cd : Value} {A : Around} {outer : List Env} {s₀ : Shared} {H₀ : Hp} {E : XK} :
    PassesOwn (model P w) (A.deeper (envOfC qual scope s₀.heap.objs.size f cd)) (envOfC qual scope s₀.heap.objs.size f cd) (cxOf cc (CX1 P w) P w K mg base N qual scope f cd A outer s₀ H₀ E).xe := PassesOwn.leaving

/-! ### calls -/
section
variable {X : Cx} {Kx : St → XK} {cc : Bool} {k k' : Nat} {f C : Addr} {fd : FuncData} {ps : List Str} {sp : Sp} {x m : Str} {p pos apos : Pos} {e o : Expr} {es : List Expr} {σ : St} {H : Hp} {Q : VK}
theorem run_fnX {pins : List (Addr × Obj)} {s : Shared} {us : List Value} {vs : List V} (F : FnOk X.prog X.w X.K X.mg X.base (CX1 X.prog X.w) cc k f fd ps sp) (hr : Room cc k X.A) (hb : Binds X.K fd ps []) (hx : XOk X Kx)
    (I : Inv X pins σ H s) (r : Vals vs us) (h : sp vs H Q (Kx σ)) : wpAny (model X.prog X.w) X.A (call (.ref f) us) (EP X pins σ Q) X.xe s := by
  have hl : us.length = ps.length := by rw [← r.length]; exact F.len _ _ _ _ h
  have hb' := hb s us I.kIn (by simpa using hl)
  rw [List.append_nil] at hb'
  refine wpAny_call (codeAny_mono (F.run X.A X.stack s H ⟨us, []⟩ us vs Q (Kx σ) hr I.env0 hb' r h) fun r s' hq => ?_)
  cases r with
  | error e =>
    obtain ⟨a, cls, d, H', rfl, xa, q⟩ := I.flown hq
    exact hx pins σ H' s' a cls d xa q
  | ok fl =>
    cases fl with
    | ret u => exact I.after hq
    | next => exact False.elim hq
    | brk => exact False.elim hq
    | cont => exact False.elim hq
end
end L2

/-! SX: running a def's body forward, over the hand layer: one judgement for each kind of text, at one state. -/
namespace L2
open PySem PySem.Spec PyProof.Rows

/-! ### the judgements at a state -/
def EV (X : Cx) (e : Expr) (σ : St) (H : Hp) (Q : VK) : Prop :=
  ∀ (pins : List (Addr × Obj)) (s : Shared), Inv X pins σ H s → wpAny (model X.prog X.w) X.A (eval e X.env) (EP X pins σ Q) X.xe s
def ET (X : Cx) (e : Expr) (σ : St) (H : Hp) (Q : Bool → Hp → Prop) : Prop :=
  ∀ (pins : List (Addr × Obj)) (s : Shared), Inv X pins σ H s → wpAny (model X.prog X.w) X.A (isTrue e X.env (eval e X.env)) (TP X pins σ Q) X.xe s
def EW (X : Cx) (e : Expr) (σ : St) (H : Hp) (Q : Bool → Hp → Prop) : Prop :=
  ∀ (whole : Sem Value) (pins : List (Addr × Obj)) (s : Shared), Inv X pins σ H s → wpAny (model X.prog X.w) X.A (isTrue e X.env whole) (TP X pins σ Q) X.xe s
def EA (X : Cx) (es : List Expr) (σ : St) (H : Hp) (Q : List V → Hp → Prop) : Prop :=
  ∀ (pos : Pos) (pins : List (Addr × Obj)) (s : Shared), Inv X pins σ H s → wpAny (model X.prog X.w) X.A (spliced (backTo pos (starEach es X.env))) (AP X pins σ Q) X.xe s
def EO (X : Cx) (e : Option Expr) (σ : St) (H : Hp) (Q : Option Int → Hp → Prop) : Prop := ∃ t, PO X e t ∧ t σ H Q
def SX (X : Cx) (st : Stmt) (D : Ends) (σ : St) (H : Hp) : Prop :=
  ∀ (pins : List (Addr × Obj)) (s : Shared), Inv X pins σ H s → wpAny (model X.prog X.w) X.A (exec st X.env) (SP X pins D) X.xe s
def SXs (X : Cx) (st : List Stmt) (D : Ends) (σ : St) (H : Hp) : Prop :=
  ∀ (pins : List (Addr × Obj)) (s : Shared), Inv X pins σ H s → wpAny (model X.prog X.w) X.A (execs st X.env) (SP X pins D) X.xe s
def EG (X : Cx) (tg : Expr) (v : V) (σ : St) (H : Hp) (Q : St → Hp → Prop) : Prop :=
  ∀ (pins : List (Addr × Obj)) (s : Shared) (u : Value), Inv X pins σ H s → RelV v u → wpAny (model X.prog X.w) X.A (assign tg X.env u) (fun _ s' => ∃ σ' H', Inv X pins σ' H' s' ∧ Q σ' H') X.xe s
def EGs (X : Cx) (ts : List Expr) (vs : List V) (σ : St) (H : Hp) (Q : St → Hp → Prop) : Prop :=
  ∀ (pins : List (Addr × Obj)) (s : Shared) (us : List Value), Inv X pins σ H s → Vals vs us → wpAny (model X.prog X.w) X.A (assignInOrder ((assignEach ts X.env).map (·.2)) us) (fun _ s' => ∃ σ' H', Inv X pins σ' H' s' ∧ Q σ' H') X.xe s
def EI (X : Cx) (tg iter : Expr) (σ : St) (H : Hp) (R : It → Hp → Prop) : Prop :=
  ∀ (pins : List (Addr × Obj)) (s : Shared), Inv X pins σ H s →
    wpAny (model X.prog X.w) X.A (eval iter X.env) (fun v s1 => wpAny (model X.prog X.w) X.A (pyIter v) (PIE X pins σ tg R) X.xe s1) X.xe s
/-- a two-place operation on values -/
def OP (X : Cx) (f : Value → Value → Sem Value) (x y : V) (H : Hp) (Q : VK) : Prop := ∃ r, OpR X f r ∧ r x y H Q
def UN (X : Cx) (f : Value → Sem Value) (x : V) (H : Hp) (Q : VK) : Prop := ∃ r, UnR X f r ∧ r x H Q
def CL (X : Cx) (f : Value) (xs : List V) (H : Hp) (Q : VK) : Prop := ∃ r, CallR X f r ∧ r xs H Q
def IX (X : Cx) (x y : V) (H : Hp) (Q : VK) : Prop := ∃ r, IxR X r ∧ r x y H Q
def SL (X : Cx) (x : V) (lo hi : Option Int) (H : Hp) (Q : VK) : Prop := ∃ r, SlR X r ∧ r x lo hi H Q
def MT (X : Cx) (id : String) (x : V) (xs : List V) (H : Hp) (Q : VK) : Prop := ∃ r, MtR X id r ∧ r x xs H Q

section
variable {X : Cx} {a b c e : Expr} {es : List Expr} {σ : St} {H : Hp} {Q : VK} {QT : Bool → Hp → Prop} {QA : List V → Hp → Prop} {D : Ends} {pos p apos : Pos} {x : Str} {v : V}
theorem pe_self : PE X e (EV X e) := fun pins s _ _ _ I h => h pins s I
theorem pt_self : PT X e (ET X e) := fun pins s _ _ _ I h => h pins s I
theorem pw_self : PW X e (EW X e) := fun whole pins s _ _ _ I h => h whole pins s I
theorem pa_self : PA X es (EA X es) := fun pos pins s _ _ _ I h => h pos pins s I
theorem po_self {o : Option Expr} : PO X o (EO X o) := fun pins s σ H Q I ⟨_, h, q⟩ => h pins s σ H Q I q
theorem ps_self {st : Stmt} : PS X st (SX X st) := fun pins s _ _ _ I h => h pins s I
theorem pss_self {st : List Stmt} : PSs X st (SXs X st) := fun pins s _ _ _ I h => h pins s I
theorem pg_self {tg : Expr} : PG X tg (EG X tg) := fun pins s _ _ _ u _ I r h => h pins s u I r
theorem pgs_self {ts : List Expr} : PGs X ts (EGs X ts) := fun pins s _ _ _ us _ I r h => h pins s us I r
theorem pi_self {tg iter : Expr} : PI X tg iter (EI X tg iter) := fun pins s _ _ _ I h => h pins s I
theorem op_self {f : Value → Value → Sem Value} : OpR X f (OP X f) := fun pins s σ H x y v u Q I rx ry ⟨_, h, q⟩ => h pins s σ H x y v u Q I rx ry q
theorem un_self {f : Value → Sem Value} : UnR X f (UN X f) := fun pins s σ H x v Q I rx ⟨_, h, q⟩ => h pins s σ H x v Q I rx q
theorem cl_self {f : Value} : CallR X f (CL X f) := fun pins s σ H xs us Q I rx ⟨_, h, q⟩ => h pins s σ H xs us Q I rx q
theorem ix_self : IxR X (IX X) := fun va sl pins s σ H x y v u Q I rx ry ⟨_, h, q⟩ hs => h va sl pins s σ H x y v u Q I rx ry q hs
theorem sl_self : SlR X (SL X) := fun pins s σ H x v vl vu lo hi sl Q I rx hs pl pu ⟨_, h, q⟩ => h pins s σ H x v vl vu lo hi sl Q I rx hs pl pu q
theorem mt_self {id : String} : MtR X id (MT X id) := fun pins s σ H x xs v us Q I rx rs ⟨_, h, q⟩ => h pins s σ H x xs v us Q I rx rs q

theorem ev_of {t : TE} (h : PE X e t) (q : t σ H Q) : EV X e σ H Q := fun pins s I => h pins s σ H Q I q
theorem et_of {t : TT} (h : PT X e t) (q : t σ H QT) : ET X e σ H QT := fun pins s I => h pins s σ H QT I q
theorem ea_of {t : TA} (h : PA X es t) (q : t σ H QA) : EA X es σ H QA := fun pos pins s I => h pos pins s σ H QA I q
theorem sx_of {st : Stmt} {t : TS} (h : PS X st t) (q : t D σ H) : SX X st D σ H := fun pins s I => h pins s σ H D I q
theorem sxs_of {st : List Stmt} {t : TS} (h : PSs X st t) (q : t D σ H) : SXs X st D σ H := fun pins s I => h pins s σ H D I q
theorem eg_of {tg : Expr} {t : TG} {QG : St → Hp → Prop} (h : PG X tg t) (q : t v σ H QG) : EG X tg v σ H QG := fun pins s u I r => h pins s σ H v u QG I r q
theorem egs_of {ts : List Expr} {t : TGs} {vs : List V} {QG : St → Hp → Prop} (h : PGs X ts t) (q : t vs σ H QG) : EGs X ts vs σ H QG := fun pins s us I r => h pins s σ H vs us QG I r q
theorem ei_of {tg iter : Expr} {t : TI} {R : It → Hp → Prop} (h : PI X tg iter t) (q : t σ H R) : EI X tg iter σ H R := fun pins s I => h pins s σ H R I q

/-! ### names and constants -/
/-- the value that a name has -/
def nameV : List Str → St → Str → Option V
  | n :: N, o :: σ, x => if n = x then o else nameV N σ x
  | _, _, _ => none
theorem nameV_get : ∀ {N : List Str} {σ : St} {x : Str} {v : V}, nameV N σ x = some v → ∃ i : Nat, N[i]? = some x ∧ σ[i]? = some (some v)
  | n :: N, o :: σ, x, v, h => by
    unfold nameV at h
    split at h
    · rename_i e
      exact ⟨0, by simp [e], by simp [h]⟩
    · obtain ⟨i, h1, h2⟩ := nameV_get h
      exact ⟨i + 1, by simpa using h1, by simpa using h2⟩
  | [], _, _, _, h => by simp [nameV] at h
  | _ :: _, [], _, _, h => by simp [nameV] at h
def nameAt : List Str → Str → Option Nat
  | n :: N, x => if n = x then some 0 else (nameAt N x).map (· + 1)
  | [], _ => none
theorem nameAt_get : ∀ {N : List Str} {x : Str} {i : Nat}, nameAt N x = some i → N[i]? = some x
  | n :: N, x, i, h => by
    unfold nameAt at h
    split at h
    · rename_i e
      cases h
      simp [e]
    · cases q : nameAt N x with
      | none => rw [q] at h; cases h
      | some j =>
        rw [q] at h
        cases h
        simpa using nameAt_get q
  | [], _, _, h => by simp [nameAt] at h
theorem ev_name (hn : nameV X.N σ x = some v) (hv : Vis X.env.scope x) (q : Q v H) (hd : (x == ("__debug__" : Str)) = false) (hcd : (x == ("__classdict__" : Str)) = false) : EV X (.Name x pos) σ H Q := by
  obtain ⟨i, h1, h2⟩ := nameV_get hn
  exact ev_of (pe_var h1 hv hd hcd) ⟨v, h2, q⟩
/-- a global constant -/
def Gc (mg : Str → Option Value) (x : Str) (v : V) : Prop := ∃ u, mg x = some u ∧ RelV v u
theorem ev_gc (g : Gc X.mg x v) (hg : Gl X x) (q : Q v H) (hd : (x == ("__debug__" : Str)) = false) : EV X (.Name x pos) σ H Q := by
  obtain ⟨u, h1, h2⟩ := g
  exact ev_of (pe_glob hg h1 h2 hd) q
theorem ev_ty {T : String} (hg : Gl X x) (hm : X.mg x = none) (hv : bootBuiltins x = some (.type T)) (q : Q (.ty T) H) (hn : x ≠ "__name__") (hd : (x == ("__debug__" : Str)) = false) : EV X (.Name x pos) σ H Q :=
  ev_of (pe_bltn hg hm hv (v := .ty T) rfl hn hd) q
theorem ev_int {i : Int} {j} (q : Q (.int i) H) : EV X (.Constant (.int i) j pos) σ H Q := ev_of pe_int q
theorem ev_bl {i : Bool} {j} (q : Q (.bl i) H) : EV X (.Constant (.bool i) j pos) σ H Q := ev_of pe_bl q
theorem ev_non {j} (q : Q .non H) : EV X (.Constant .none j pos) σ H Q := ev_of pe_non q
theorem ev_str {i : Str} {j} (q : Q (.str i) H) : EV X (.Constant (.str i) j pos) σ H Q := ev_of pe_str q

/-! ### operators -/
theorem ev_bin {op : Operator} (h : EV X a σ H fun x H1 => EV X b σ H1 fun y H2 => OP X (binaryOp op) x y H2 Q) : EV X (.BinOp a op b pos) σ H Q := ev_of (pe_op op_self pe_self pe_self) h
theorem ev_un {op : UnaryOp} (h : EV X a σ H fun x H1 => UN X (unaryOp op) x H1 Q) : EV X (.UnaryOp op a pos) σ H Q := ev_of (pe_un un_self pe_self) h
theorem ev_cmp {op : CmpOp} (hm : behindInMarks op b = false) (h : EV X a σ H fun x H1 => EV X b σ H1 fun y H2 => OP X (compareOp op) x y H2 Q) : EV X (.Compare a [op] [b] pos) σ H Q := ev_of (pe_cmpR op_self pe_self pe_self hm) h
theorem et_cmp {op : CmpOp} (hm : behindInMarks op b = false) (h : EV X a σ H fun x H1 => EV X b σ H1 fun y H2 => OP X (compareOp op) x y H2 fun z H3 => ∃ k, z = .bl k ∧ QT k H3) : ET X (.Compare a [op] [b] pos) σ H QT := et_of (pt_cmpR op_self pe_self pe_self hm) h
theorem et_chain {op op' : CmpOp} (hm : lastMarks [op, op'] [b, c] = false) (h : EV X a σ H fun x H1 => EV X b σ H1 fun y H2 => OP X (compareOp op) x y H2 fun z H3 => ∃ k, z = .bl k ∧ (if k = true then EV X c σ H3 fun w' H4 => OP X (compareOp op') y w' H4 fun z' H5 => ∃ k', z' = .bl k' ∧ QT k' H5 else ∃ k', V.bl false = .bl k' ∧ QT k' H3)) :
    ET X (.Compare a [op, op'] [b, c] pos) σ H QT := et_of (pt_chain op_self op_self pe_self pe_self pe_self hm) h
/-! ### truth -/
theorem et_val (he : ∀ whole, isTrue e X.env whole = (do let v ← whole; standAt e.pos; holding [v] (truthy v))) (h : EV X e σ H fun x H' => ∃ k, TruV X.K x H' k ∧ QT k H') : ET X e σ H QT := et_of (pt_truth pe_self he) h
theorem et_not (h : ET X a σ H fun k H1 => QT (!k) H1) : ET X (.UnaryOp .Not a pos) σ H QT := et_of (pt_not pt_self) h
theorem et_w (h : EW X e σ H QT) : ET X e σ H QT := et_of pw_self.pt h
theorem ew_of {t : TT} (h : PW X e t) (q : t σ H QT) : EW X e σ H QT := fun whole pins s I => h whole pins s σ H QT I q
theorem ew_and {rest : List Expr} (h : ET X a σ H fun k H1 => if k = true then EW X (.BoolOp .And (b :: rest) pos) σ H1 QT else QT false H1) : EW X (.BoolOp .And (a :: b :: rest) pos) σ H QT := ew_of (pw_and pt_self pw_self) h
theorem ew_or {rest : List Expr} (h : ET X a σ H fun k H1 => if k = true then QT true H1 else EW X (.BoolOp .Or (b :: rest) pos) σ H1 QT) : EW X (.BoolOp .Or (a :: b :: rest) pos) σ H QT := ew_of (pw_or pt_self pw_self) h
theorem ew_and1 (h : ET X a σ H QT) : EW X (.BoolOp .And [a] pos) σ H QT := ew_of (pw_and1 pt_self) h
theorem ew_or1 (h : ET X a σ H QT) : EW X (.BoolOp .Or [a] pos) σ H QT := ew_of (pw_or1 pt_self) h
theorem ev_one {op} (h : EV X a σ H Q) : EV X (.BoolOp op [a] pos) σ H Q := ev_of (pe_one pe_self) h
theorem ev_and {rest : List Expr} (h : EV X a σ H fun x H1 => ∃ k, x = .bl k ∧ if k = true then EV X (.BoolOp .And (b :: rest) pos) σ H1 Q else Q (.bl false) H1) : EV X (.BoolOp .And (a :: b :: rest) pos) σ H Q := ev_of (pe_and pe_self pe_self) h
theorem ev_notV (h : EV X a σ H fun x H1 => ∃ k, x = .bl k ∧ Q (.bl (!k)) H1) : EV X (.UnaryOp .Not a pos) σ H Q := ev_of (pe_not pe_self) h
theorem ev_ifE (h : ET X c σ H fun k H1 => if k = true then EV X a σ H1 Q else EV X b σ H1 Q) : EV X (.IfExp c a b pos) σ H Q := ev_of (pe_ifExp pt_self pe_self pe_self) h
/-! ### arguments, displays, calls -/
theorem ea_nil (q : QA [] H) : EA X [] σ H QA := ea_of pa_nil q
theorem ea_cons (hs : starEach (e :: es) X.env = (false, eval e X.env) :: starEach es X.env) (h : EV X e σ H fun x H1 => EA X es σ H1 fun xs H2 => QA (x :: xs) H2) : EA X (e :: es) σ H QA := ea_of (pa_cons pe_self pa_self hs) h
theorem ev_tup {x1} (h : EA X es σ H fun xs H1 => xs.length ≤ sizeLine ∧ ∀ p, H1 p = none → Q (.ref p) (upd H1 p (.tup xs))) : EV X (.Tuple es x1 pos) σ H Q := ev_of (pe_tup pa_self) h
theorem ev_lst (h : EA X es σ H fun xs H1 => xs.length ≤ sizeLine ∧ ∀ p, H1 p = none → Q (.ref p) (upd H1 p (.lst xs))) : EV X (.List es pos) σ H Q := ev_of (pe_lst pa_self) h
theorem ev_callB {id : String} (hg : Gl X x) (hm : X.mg x = none) (hv : bootBuiltins x = some (.builtin id)) (hn : x ≠ "__name__") (hdb : (x == ("__debug__" : Str)) = false)
    (he : starEach (e :: es) X.env = (false, eval e X.env) :: starEach es X.env) (hpl : (backTo pos (starEach es X.env)).any (·.1) = false) (h : EA X (e :: es) σ H fun vs H1 => CL X (.builtin id) vs H1 Q) : EV X (.Call (.Name x p) (e :: es) [] pos) σ H Q :=
  ev_of (pe_callB cl_self hg hm hv pa_self hn hdb he hpl) h
theorem ev_callT {T : String} (hg : Gl X x) (hm : X.mg x = none) (hv : bootBuiltins x = some (.type T)) (hn : x ≠ "__name__") (hdb : (x == ("__debug__" : Str)) = false)
    (he : starEach (e :: es) X.env = (false, eval e X.env) :: starEach es X.env) (hpl : (backTo pos (starEach es X.env)).any (·.1) = false) (h : EA X (e :: es) σ H fun vs H1 => CL X (.type T) vs H1 Q) : EV X (.Call (.Name x p) (e :: es) [] pos) σ H Q :=
  ev_of (pe_callTy cl_self hg hm hv pa_self hn hdb he hpl) h
/-- a def of the text, with its promise; cc = false: it may be called within an except suite too -/
structure Def (P : Program) (w : World) (K : PySem.W.Frag) (mg : Str → Option Value) (base : Heap) (cc : Bool) (k : Nat) (x : Str) (ps : List Str) (sp : Sp) : Prop where
  ex : ∃ f fd, mg x = some (.ref f) ∧ PySem.W.keepIn K (.ref f) = true ∧ Binds K fd ps [] ∧ FnOk P w K mg base (CX1 P w) cc k f fd ps sp
theorem Room.calmer {cc cc' : Bool} {k : Nat} {A : Around} (r : Room cc k A) (h : cc' = true → cc = true) : Room cc' k A := ⟨fun z => r.hd (h z), r.dp, r.un⟩
theorem ev_call {Kx : St → XK} {cc cc' : Bool} {k k' : Nat} {ps : List Str} {sp : Sp} (F : Def X.prog X.w X.K X.mg X.base cc' k x ps sp) (hr : Room cc k' X.A) (hk : k ≤ k') (hcc : cc' = true → cc = true) (hg : Gl X x) (hx : XOk X Kx)
    (hdb : (x == ("__debug__" : Str)) = false) (he : starEach (e :: es) X.env = (false, eval e X.env) :: starEach es X.env) (hpl : (backTo pos (starEach es X.env)).any (·.1) = false)
    (h : EA X (e :: es) σ H fun vs H1 => sp vs H1 Q (Kx σ)) : EV X (.Call (.Name x p) (e :: es) [] pos) σ H Q := by
  obtain ⟨f, fd, h1, h2, h3, h4⟩ := F.ex
  intro pins s I
  refine wpAny_Call_Name_kw (ld_glob I hg h1 ?_ hdb)
  refine PySem.W.callWith_K (h₀ := X.base) I.ok.mod.kin h2 (thn (h pos pins s I) fun us s1 ⟨vs, H1, I1, r, q⟩ => ⟨I1.kIn, ?_⟩) he hpl
  exact run_fnX h4 ((hr.mono hk).calmer hcc) h3 hx I1 r q
/-! ### subscripts, methods of builtins -/
theorem ev_ix (hs : PlainIx b) (h : EV X a σ H fun x H1 => EV X b σ H1 fun y H2 => IX X x y H2 Q) : EV X (.Subscript a b pos) σ H Q := ev_of (pe_ix ix_self pe_self pe_self hs) h
theorem eo_none {QO : Option Int → Hp → Prop} (q : QO none H) : EO X none σ H QO := ⟨_, po_none, q⟩
theorem eo_some {QO : Option Int → Hp → Prop} (q : EV X e σ H fun x H1 => ∃ i, x = .int i ∧ QO (some i) H1) : EO X (some e) σ H QO := ⟨_, po_some pe_self, q⟩
theorem ev_sl {lo hi : Option Expr} {p2 : Pos} (h : EV X a σ H fun x H1 => EO X lo σ H1 fun l H2 => EO X hi σ H2 fun u H3 => SL X x l u H3 Q) : EV X (.Subscript a (.Slice lo hi none p2) pos) σ H Q := ev_of (pe_slice sl_self pe_self po_self po_self) h
theorem ev_bm {T id : String} {name : Str} (pa : PlainAttrs T) (slot : Slot T name id) (hty : typeOf (.builtin id) = pure (.type "method_descriptor"))
    (hbase : attributeBase a name X.env (eval a X.env) = eval a X.env)
    (hfew : ((backTo pos (starEach (e :: es) X.env)).all (fun x => !x.1) && (backToKw pos (keywordEach [] X.env)).all (fun x => x.1.isSome)
      && decide ((e :: es).length + ([] : List Keyword).length + (if ([] : List Keyword).isEmpty then 0 else 1) < 30)) = true)
    (hline : (apos.endLine == pos.line) = true) (hs : starEach (e :: es) X.env = (false, eval e X.env) :: starEach es X.env) (hplain : (backTo pos (starEach es X.env)).any (·.1) = false)
    (h : EV X a σ H fun x H1 => tyV X.K T x H1 ∧ EA X (e :: es) σ H1 fun xs H2 => MT X id x xs H2 Q) : EV X (.Call (.Attribute a name apos) (e :: es) [] pos) σ H Q :=
  ev_of (pe_bm pa slot hty mt_self pe_self pa_self hbase hfew hline hs hplain) h
theorem ev_bm0 {T id : String} {name : Str} (pa : PlainAttrs T) (slot : Slot T name id) (hty : typeOf (.builtin id) = pure (.type "method_descriptor"))
    (hbase : attributeBase a name X.env (eval a X.env) = eval a X.env) (hline : (apos.endLine == pos.line) = true)
    (h : EV X a σ H fun x H1 => tyV X.K T x H1 ∧ MT X id x [] H1 Q) : EV X (.Call (.Attribute a name apos) [] [] pos) σ H Q :=
  ev_of (pe_bm0 pa slot hty mt_self pe_self hbase hline) h

/-! ### statements -/
theorem sxs_nil (q : D.nx σ H) : SXs X [] D σ H := sxs_of pss_nil q
theorem sxs_cons {st : Stmt} {rest : List Stmt} (h : SX X st { D with nx := fun σ' H' => SXs X rest D σ' H' } σ H) : SXs X (st :: rest) D σ H := sxs_of (pss_cons ps_self pss_self) h
theorem sxs_one {st : Stmt} (h : SX X st D σ H) : SXs X [st] D σ H := sxs_of (pss_one ps_self) h
theorem sx_expr (hs : swapsWith e none pos.line X.env = pure false) (h : EV X e σ H fun _ H1 => D.nx σ H1) : SX X (.Expr e pos) D σ H := sx_of (ps_expr pe_self hs) h
theorem sx_ret (h : EV X e σ H D.rt) : SX X (.Return (some e) pos) D σ H := sx_of (ps_ret pe_self) h
theorem sx_if {t u : List Stmt} (h : ET X c σ H fun k H1 => if k = true then SXs X t D σ H1 else SXs X u D σ H1) : SX X (.If c t u pos) D σ H := sx_of (ps_if pt_self pss_self pss_self) h
theorem sx_set {i : Nat} {p' : Pos} (hN : X.N.Nodup) (hi : nameAt X.N x = some i) (hx : Loc X.env.scope x) (hs : swapsWith e (some (.Name x p')) pos.line X.env = pure false) (hf : X.fn x = true ∨ X.env.scope.names.lookup x = some .local)
    (h : EV X e σ H fun v H1 => D.nx (σ.set i (some v)) H1) : SX X (.Assign [.Name x p'] e pos) D σ H := sx_of (ps_set hN (nameAt_get hi) hx pe_self hs hf) h
theorem eg_name {i : Nat} {QG : St → Hp → Prop} (hN : X.N.Nodup) (hi : nameAt X.N x = some i) (hx : Loc X.env.scope x) (hf : X.fn x = true ∨ X.env.scope.names.lookup x = some .local) (q : QG (σ.set i (some v)) H) : EG X (.Name x pos) v σ H QG :=
  eg_of (pg_name hN (nameAt_get hi) hx hf) q
theorem egs_nil {QG : St → Hp → Prop} (q : QG σ H) : EGs X [] [] σ H QG := egs_of pgs_nil ⟨rfl, q⟩
theorem egs_cons {ts : List Expr} {vs : List V} {QG : St → Hp → Prop} (hs : (assignEach (e :: ts) X.env).map (·.2) = assign e X.env :: (assignEach ts X.env).map (·.2)) (h : EG X e v σ H fun σ' H' => EGs X ts vs σ' H' QG) : EGs X (e :: ts) (v :: vs) σ H QG :=
  egs_of (pgs_cons pg_self pgs_self hs) ⟨v, vs, rfl, h⟩
theorem eg_tup {n : Nat} {k : Nat} {QG : St → Hp → Prop} {q : Addr} {xs : List V} (hc : X.calm = true) (hn : (assignEach es X.env).length = n) (hst : (assignEach es X.env).findIdx? (·.1) = none)
    (ht : SqT X.K H q xs) (hl : xs.length = n) (h : EGs X es xs σ H QG) : EG X (.Tuple es k pos) (.ref q) σ H QG :=
  eg_of (pg_tup hc pgs_self hn hst) ⟨q, xs, rfl, ht, hl, h⟩
theorem sx_for {tg iter : Expr} {body : List Stmt} (hp : PassesOwn (model X.prog X.w) X.A X.env X.xe) (hc : X.calm = true) (hs : ∀ x, foldedSetIterable iter X.env x = pure x)
    (h : EI X tg iter σ H fun J H1 => ∃ W : Nat → Nat → St → Hp → Prop, (∃ m, W 0 m σ H1) ∧ ∀ i m σ H, W i m σ H →
      (J.stop i H ∧ D.nx σ H) ∨ (J.go i H ∧ ∃ N : St → Hp → Prop, (∀ σ' H', N σ' H' → ∃ m', m' < m ∧ W (i + 1) m' σ' H') ∧ ∀ x H', J.yld i H x H' → EG X tg x σ H' fun σ2 H2 => SXs X body { D with nx := N, ct := N, bk := D.nx } σ2 H2)) :
    SX X (.For tg iter body [] pos) D σ H := sx_of (ps_for hp hc pi_self pg_self pss_self hs) h
theorem ei_list {tg l : Expr} {R : It → Hp → Prop} (h : EV X l σ H fun x H1 => ∃ a, x = .ref a ∧ (∃ xs, SqL X.K H1 a xs) ∧ R (Itl X.K a) H1) : EI X tg l σ H R := ei_of (pi_list pe_self) h
theorem ei_range1 {tg : Expr} {R : It → Hp → Prop} (hg : Gl X "range") (hm : X.mg "range" = none) (hs : starEach [a] X.env = [(false, eval a X.env)])
    (h : EA X [a] σ H fun vs H1 => ∃ j : Int, vs = [.int j] ∧ -(2 ^ 62) ≤ j ∧ j < 2 ^ 62 ∧ R (Itr 0 j.toNat) H1) : EI X tg (.Call (.Name "range" p) [a] [] pos) σ H R := ei_of (pi_range1 hg hm pa_self hs) h
theorem ev_mono {Q' : VK} (h : EV X e σ H Q) (m : ∀ v H', Q v H' → Q' v H') : EV X e σ H Q' := fun pins s I => thn (h pins s I) fun _ _ ⟨v, H', I', r, q⟩ => ⟨v, H', I', r, m v H' q⟩
/-! ### the operations, by the values' kinds -/
theorem op_by {f : Value → Value → Sem Value} {r : R2} {y z : V} (h : OpR X f r) (q : r y z H Q) : OP X f y z H Q := ⟨r, h, q⟩
variable {i j : Int} {k k' : Bool} {z z' : Str}
theorem o_add (q : Q (.int (i + j)) H) : OP X (binaryOp .Add) (.int i) (.int j) H Q := op_by op_add ⟨i, j, rfl, rfl, q⟩
theorem o_sub (q : Q (.int (i - j)) H) : OP X (binaryOp .Sub) (.int i) (.int j) H Q := op_by op_sub ⟨i, j, rfl, rfl, q⟩
theorem o_mul (c : CMul i j) (q : Q (.int (i * j)) H) : OP X (binaryOp .Mult) (.int i) (.int j) H Q := op_by op_mul ⟨i, j, rfl, rfl, c, q⟩
theorem o_fdiv (c : CDiv i j) (q : Q (.int (i / j)) H) : OP X (binaryOp .FloorDiv) (.int i) (.int j) H Q := op_by op_fdiv ⟨i, j, rfl, rfl, c, q⟩
theorem o_mod (c : 0 < j) (q : Q (.int (i % j)) H) : OP X (binaryOp .Mod) (.int i) (.int j) H Q := op_by op_mod ⟨i, j, rfl, rfl, c, q⟩
theorem o_pow (c : CPow i j) (q : Q (.int (i ^ j.toNat)) H) : OP X (binaryOp .Pow) (.int i) (.int j) H Q := op_by op_pow ⟨i, j, rfl, rfl, c, q⟩
theorem o_lt (q : Q (.bl (decide (i < j))) H) : OP X (compareOp .Lt) (.int i) (.int j) H Q := op_by op_lt ⟨i, j, rfl, rfl, q⟩
theorem o_le (q : Q (.bl (decide (i ≤ j))) H) : OP X (compareOp .LtE) (.int i) (.int j) H Q := op_by op_le ⟨i, j, rfl, rfl, q⟩
theorem o_gt (q : Q (.bl (decide (j < i))) H) : OP X (compareOp .Gt) (.int i) (.int j) H Q := op_by op_gt ⟨i, j, rfl, rfl, q⟩
theorem o_eq {y z : V} (s : scal y z = true) (q : Q (.bl (decide (y = z))) H) : OP X (compareOp .Eq) y z H Q := op_by op_eq ⟨s, q⟩
theorem o_ne {y z : V} (s : scal y z = true) (q : Q (.bl (!decide (y = z))) H) : OP X (compareOp .NotEq) y z H Q := op_by op_ne ⟨s, q⟩
theorem o_ltS (q : Q (.bl (decide (z.cps.toList < z'.cps.toList))) H) : OP X (compareOp .Lt) (.str z) (.str z') H Q := op_by op_lt_str ⟨z, z', rfl, rfl, q⟩
theorem o_isN {y : V} (q : Q (.bl (decide (y = .non))) H) : OP X (compareOp .Is) y .non H Q := op_by op_isN ⟨rfl, q⟩
theorem o_notN {y : V} (q : Q (.bl (!decide (y = .non))) H) : OP X (compareOp .IsNot) y .non H Q := op_by op_notN ⟨rfl, q⟩
theorem o_addS (c : z.length + z'.length ≤ sizeLine) (q : Q (.str (z ++ z')) H) : OP X (binaryOp .Add) (.str z) (.str z') H Q := op_by op_add_str ⟨z, z', rfl, rfl, c, q⟩
theorem u_neg (q : Q (.int (-i)) H) : UN X (unaryOp .USub) (.int i) H Q := ⟨_, un_neg, i, rfl, q⟩
theorem cl_by {f : Value} {r : List V → Hp → VK → Prop} {vs : List V} (h : CallR X f r) (q : r vs H Q) : CL X f vs H Q := ⟨r, h, q⟩
theorem c_len {q : Addr} {ys : List V} (h : SqL X.K H q ys ∨ SqT X.K H q ys) (g : Q (.int ys.length) H) : CL X (.builtin "len") [.ref q] H Q := cl_by call_len_seq ⟨q, ys, rfl, h, g⟩
theorem c_min2 (hc : X.calm = true) (g : Q (.int (if j < i then j else i)) H) : CL X (.builtin "min") [.int i, .int j] H Q := cl_by (call_min2 hc) ⟨i, j, rfl, g⟩
theorem c_max2 (hc : X.calm = true) (g : Q (.int (if j > i then j else i)) H) : CL X (.builtin "max") [.int i, .int j] H Q := cl_by (call_max2 hc) ⟨i, j, rfl, g⟩
theorem c_list {q : Addr} {ys : List V} (h : SqL X.K H q ys ∨ SqT X.K H q ys) (g : ∀ l, H l = none → Q (.ref l) (upd H l (.lst ys))) : CL X (.type "list") [.ref q] H Q := cl_by call_list_of ⟨q, ys, rfl, h, g⟩
theorem ix_by {r : R2} {y z : V} (h : IxR X r) (q : r y z H Q) : IX X y z H Q := ⟨r, h, q⟩
theorem i_list {q : Addr} {xs : List V} (h : SqL X.K H q xs) (e : atI xs i = some v) (g : Q v H) : IX X (.ref q) (.int i) H Q := ix_by ix_list ⟨q, xs, i, v, rfl, rfl, h, e, g⟩
theorem i_tup {q : Addr} {xs : List V} (h : SqT X.K H q xs) (e : atI xs i = some v) (g : Q v H) : IX X (.ref q) (.int i) H Q := ix_by ix_tup ⟨q, xs, i, v, rfl, rfl, h, e, g⟩
theorem i_str {n : Nat} (h : z.length ≤ sizeLine) (e : atI z.cps.toList i = some n) (g : Q (.str ⟨#[n]⟩) H) : IX X (.str z) (.int i) H Q := ix_by ix_str ⟨z, i, n, rfl, rfl, h, e, g⟩
theorem s_list {q : Addr} {xs : List V} {lo hi : Option Int} (h : SqL X.K H q xs) (g : ∀ p, H p = none → Q (.ref p) (upd H p (.lst (cutV xs lo hi)))) : SL X (.ref q) lo hi H Q := ⟨_, sl_list, q, xs, rfl, h, g⟩
theorem c_isinst {y : V} {t : Value} {T : String} (ty : TyOf X.K H y t) (e : PySem.W.kitOne X.K t (.type T) = some k) (g : Q (.bl k) H) : CL X (.builtin "isinstance") [y, .ty T] H Q := by
  refine ⟨fun xs H Q => ∃ y t T k, xs = [y, .ty T] ∧ TyOf X.K H y t ∧ PySem.W.kitOne X.K t (.type T) = some k ∧ Q (.bl k) H, ?_, y, t, T, k, rfl, ty, e, g⟩
  intro pins s σ H xs us Q I r h
  obtain ⟨y, t, T, k, rfl, ty, e, g⟩ := h
  obtain ⟨u1, u2, rfl, r1, r2⟩ := vals2 r
  cases (show u2 = Value.type T from r2)
  exact isinst_ok I r1 ty e fun tk => ⟨.bl k, H, I.tok tk, rfl, g⟩
end
end L2

namespace L2
open PySem PySem.Spec PyProof.Rows

/-! ### the signs of a text, walked -/
def Its (x : Str) : It := ⟨fun i _ => i < x.cps.size, fun i H v H' => H' = H ∧ ∃ c, x.cps[i]? = some c ∧ v = .str ⟨#[c]⟩, fun i _ => x.cps.size ≤ i⟩
section
variable {X : Cx} {tg l : Expr} {σ : St} {H : Hp} {R : It → Hp → Prop}
end

/-! ### a list comprehension of one clause -/
def capSt (N' N : List Str) (σ : St) (scope : Scope) : St := N'.map fun x => if scope.names.lookup x = some .free then nameV N σ x else none
def blk (X : Cx) (N' : List Str) (scope : Scope) (cl : List (Str × Addr)) (C : Addr) (s : Shared) (H : Hp) (fp : List Addr) : Cx :=
  { X with N := N', s₀ := s, H₀ := H, env := compEnvC scope cl C X.env, outer := X.stack, stack := X.stack, ex := fp, fn := fun _ => false, pn := [], xe := fun _ _ => False }
def EIfs (X : Cx) (ifs : List Expr) (σ : St) (H : Hp) (Q : Bool → Hp → Prop) : Prop :=
  ∀ (pins : List (Addr × Obj)) (s : Shared), Inv X pins σ H s →
    wpAny (model X.prog X.w) X.A (forIn ifs true fun c r => if r = true then do let ok ← isTrue c X.env (eval c X.env); pure (ForInStep.yield ok) else pure (ForInStep.yield r)) (TP X pins σ Q) X.xe s

theorem closure_go (env : Env) : ∀ (names : List (Str × NameKind)) (cs : List (Str × Addr)), (∀ y ∈ names, y.2 = .free → ∃ c, env.cells.lookup y.1 = some c) →
    (forIn names cs (fun (x : Str × NameKind) (r : List (Str × Addr)) => if (x.2 == NameKind.free) = true then do let a ← cellOf env x.1; pure (ForInStep.yield ((x.1, a) :: r)) else pure (ForInStep.yield r)) : Sem (List (Str × Addr))) =
      pure (names.foldl (fun cs y => if y.2 == .free then (y.1, (env.cells.lookup y.1).getD 0) :: cs else cs) cs)
  | [], cs, _ => by simp
  | (n, k) :: r, cs, h => by
    rw [List.forIn_cons]
    by_cases hk : k = .free
    · subst hk
      obtain ⟨c, e⟩ := h (n, .free) List.mem_cons_self rfl
      have e' : cellOf env n = pure c := by
        unfold cellOf
        have e2 : env.cells.lookup n = some c := e
        rw [e2]
      simp only [beq_self_eq_true, if_true, e', pure_bind]
      have e2 : env.cells.lookup n = some c := e
      rw [closure_go env r _ fun y hy => h y (List.mem_cons_of_mem _ hy), List.foldl_cons]
      simp only [beq_self_eq_true, if_true, e2, Option.getD_some]
    · have hb : (k == NameKind.free) = false := by simpa using hk
      simp only [hb, Bool.false_eq_true, if_false, pure_bind]
      rw [closure_go env r _ fun y hy => h y (List.mem_cons_of_mem _ hy), List.foldl_cons]
      simp only [hb, Bool.false_eq_true, if_false]
def closL (scope : Scope) (env : Env) : List (Str × Addr) := scope.names.foldl (fun cs y => if y.2 == .free then (y.1, (env.cells.lookup y.1).getD 0) :: cs else cs) []
theorem closure_eq {scope : Scope} {env : Env} (h : ∀ y ∈ scope.names, y.2 = .free → ∃ c, env.cells.lookup y.1 = some c) : closureFor scope env = pure (closL scope env) := by
  have := closure_go env scope.names [] h
  unfold closureFor closL
  rw [← this]
  simp
theorem closL_mem {env : Env} : ∀ (names : List (Str × NameKind)) (cs : List (Str × Addr)), (∀ y ∈ names, y.2 = .free → ∃ c, env.cells.lookup y.1 = some c) →
    ∀ x c, (names.foldl (fun cs y => if y.2 == .free then (y.1, (env.cells.lookup y.1).getD 0) :: cs else cs) cs).lookup x = some c → (env.cells.lookup x = some c ∨ cs.lookup x = some c)
  | [], cs, _, x, c, e => .inr e
  | (n, k) :: r, cs, h, x, c, e => by
    rw [List.foldl_cons] at e
    rcases closL_mem r _ (fun y hy => h y (List.mem_cons_of_mem _ hy)) x c e with q | q
    · exact .inl q
    · by_cases hk : k = .free
      · subst hk
        obtain ⟨c', e'⟩ := h (n, .free) List.mem_cons_self rfl
        have e2 : env.cells.lookup n = some c' := e'
        simp only [beq_self_eq_true, if_true, e2, Option.getD_some, List.lookup_cons] at q
        cases hx : x == n with
        | true =>
          rw [hx] at q
          have hx' : x = n := by simpa using hx
          subst hx'
          exact .inl (e2.trans q)
        | false => rw [hx] at q; exact .inr q
      · have hb : (k == NameKind.free) = false := by simpa using hk
        rw [if_neg (by simp [hb])] at q
        exact .inr q
theorem closL_has {env : Env} : ∀ (names : List (Str × NameKind)) (cs : List (Str × Addr)) (x : Str), ((x, NameKind.free) ∈ names ∨ ∃ c, cs.lookup x = some c) →
    ∃ c, (names.foldl (fun cs y => if y.2 == .free then (y.1, (env.cells.lookup y.1).getD 0) :: cs else cs) cs).lookup x = some c
  | [], cs, x, h => by
    rcases h with h | h
    · cases h
    · exact h
  | (n, k) :: r, cs, x, h => by
    rw [List.foldl_cons]
    refine closL_has r _ x ?_
    by_cases hk : k = .free
    · subst hk
      simp only [beq_self_eq_true, if_true, List.lookup_cons]
      cases hx : x == n with
      | true => exact .inr ⟨_, rfl⟩
      | false =>
        rcases h with h | h
        · rcases List.mem_cons.mp h with h | h
          · cases h
            simp at hx
          · exact .inl h
        · exact .inr h
    · have hb : (k == NameKind.free) = false := by simpa using hk
      rw [if_neg (by simp [hb])]
      rcases h with h | h
      · rcases List.mem_cons.mp h with h | h
        · cases h
          exact absurd rfl hk
        · exact .inl h
      · exact .inr h
theorem relabel_free {env : Env} {x : Str} : ∀ {names : List (Str × NameKind)}, names.lookup x = some .free →
    (names.map fun (n, k) => if (k == NameKind.free && env.scope.kind == .function && env.kindOf n == some .cell) then (n, NameKind.cell) else (n, k)).lookup x = some .cell ∨
    (names.map fun (n, k) => if (k == NameKind.free && env.scope.kind == .function && env.kindOf n == some .cell) then (n, NameKind.cell) else (n, k)).lookup x = some .free
  | [], h => by simp at h
  | (n, k') :: r, h => by
    have ih := @relabel_free env x r
    show List.lookup x ((if (k' == NameKind.free && env.scope.kind == .function && env.kindOf n == some .cell) = true then (n, NameKind.cell) else (n, k')) :: _) = _ ∨ List.lookup x ((if (k' == NameKind.free && env.scope.kind == .function && env.kindOf n == some .cell) = true then (n, NameKind.cell) else (n, k')) :: _) = _
    cases hx : x == n with
    | true =>
      simp only [List.lookup_cons, hx] at h
      cases h
      by_cases hc : (NameKind.free == NameKind.free && env.scope.kind == .function && env.kindOf n == some .cell) = true
      · rw [if_pos hc]; left; simp only [List.lookup_cons, hx]
      · rw [if_neg hc]; right; simp only [List.lookup_cons, hx]
    | false =>
      simp only [List.lookup_cons, hx] at h
      by_cases hc : (k' == NameKind.free && env.scope.kind == .function && env.kindOf n == some .cell) = true
      · rw [if_pos hc]; simp only [List.lookup_cons, hx]; exact ih h
      · rw [if_neg hc]; simp only [List.lookup_cons, hx]; exact ih h
/-- a captured name in the block's own table was free in the comprehension's -/
theorem relabel_cf {env : Env} {x : Str} : ∀ {names : List (Str × NameKind)}, (∀ y ∈ names, y.2 ≠ .cell) →
    ((names.map fun (n, k) => if (k == NameKind.free && env.scope.kind == .function && env.kindOf n == some .cell) then (n, NameKind.cell) else (n, k)).lookup x = some .cell ∨
    (names.map fun (n, k) => if (k == NameKind.free && env.scope.kind == .function && env.kindOf n == some .cell) then (n, NameKind.cell) else (n, k)).lookup x = some .free) → (x, NameKind.free) ∈ names
  | [], _, h => by simp at h
  | (n, k') :: r, hc0, h => by
    have ih := @relabel_cf env x r fun y hy => hc0 y (List.mem_cons_of_mem _ hy)
    have h' : List.lookup x ((if (k' == NameKind.free && env.scope.kind == .function && env.kindOf n == some .cell) = true then (n, NameKind.cell) else (n, k')) :: (r.map fun (n, k) => if (k == NameKind.free && env.scope.kind == .function && env.kindOf n == some .cell) then (n, NameKind.cell) else (n, k))) = some .cell ∨
      List.lookup x ((if (k' == NameKind.free && env.scope.kind == .function && env.kindOf n == some .cell) = true then (n, NameKind.cell) else (n, k')) :: (r.map fun (n, k) => if (k == NameKind.free && env.scope.kind == .function && env.kindOf n == some .cell) then (n, NameKind.cell) else (n, k))) = some .free := h
    cases hx : x == n with
    | true =>
      have hx' : x = n := by simpa using hx
      subst hx'
      by_cases hc : (k' == NameKind.free && env.scope.kind == .function && env.kindOf x == some .cell) = true
      · have : k' = .free := by simp only [Bool.and_eq_true] at hc; simpa using hc.1.1
        subst this
        exact List.mem_cons_self
      · rw [if_neg hc] at h'
        simp only [List.lookup_cons, hx] at h'
        rcases h' with h' | h'
        · cases h'
          exact absurd rfl (hc0 (x, .cell) List.mem_cons_self)
        · cases h'
          exact List.mem_cons_self
    | false =>
      refine List.mem_cons_of_mem _ (ih ?_)
      by_cases hc : (k' == NameKind.free && env.scope.kind == .function && env.kindOf n == some .cell) = true
      · rw [if_pos hc] at h'; simpa only [List.lookup_cons, hx] using h'
      · rw [if_neg hc] at h'; simpa only [List.lookup_cons, hx] using h'

/-- the turns of a comprehension's loop -/
theorem compLoop_any {prog : Program} {w : World} {A : Around} {R : Result → Shared → Prop} {s : Shared} {elt target iter : Expr} {ifs : List Expr} {scope : Scope} {pos : Pos} {it acc : Value} {env : Env} (I : Nat → Shared → Prop)
    (turn : ∀ n s, I n s → wpAny (model prog w) A (pyNext it) (fun r s₁ => match r with
      | none => R (.ok .next) s₁
      | some v => wpAny (model prog w) A (letOwnedTupleGo target it v) (fun _ s₁' => wpAny (model prog w) A (assign target env v) (fun _ s₂ =>
          wpAny (model prog w) A (forIn ifs true fun c r => if r = true then do let ok ← isTrue c env (eval c env); pure (ForInStep.yield ok) else pure (ForInStep.yield r)) (fun ok s₃ =>
            if ok = true then wpAny (model prog w) A (eval elt env) (fun x s₄ =>
              wpAny (model prog w) A (call (.builtin "list.append") [acc, x]) (fun _ s₅ => ∃ m, m < n ∧ I m s₅) (fun _ _ => False) s₄) (fun _ _ => False) s₃
            else ∃ m, m < n ∧ I m s₃) (fun _ _ => False) s₂) (fun _ _ => False) s₁') (fun _ _ => False) s₁) (fun _ _ => False) s)
    (n : Nat) (h : I n s) :
    codeAny (model prog w) A (.compLoop (.ListComp elt [⟨target, iter, ifs, 0⟩] scope pos) 0 it acc env) R s := by
  refine codeAny_loop rfl I (fun n s hI => ?_) n h
  show wpAny _ A ((compTurn (.ListComp elt [⟨target, iter, ifs, 0⟩] scope pos) 0 it acc env).onRaise (fun x => do noteFrame x env; theTreesLotGoes x)) _ _ s
  refine wpAny_noted ?_
  rw [compTurn_list]
  refine wpAny_bind (wpAny_standAt (wpAny_bind (wpAny_mono (turn n s hI) (fun r s₁ h₁ => ?_) fun _ _ h' => h'.elim)))
  cases r with
  | none => exact wpAny_pure h₁
  | some v =>
    refine wpAny_bind (wpAny_mono h₁ (fun _ s₁' h₁' => ?_) fun _ _ h' => h'.elim)
    refine wpAny_bind (wpAny_mono h₁' (fun _ s₂ h₂ => wpAny_bind (wpAny_mono h₂ (fun ok s₃ h₃ => ?_) fun _ _ h' => h'.elim)) fun _ _ h' => h'.elim)
    cases ok with
    | false => exact wpAny_pure ⟨rfl, h₃⟩
    | true =>
      exact wpAny_bind (wpAny_bind (wpAny_mono h₃ (fun x s₄ h₄ => wpAny_bind (wpAny_mono h₄ (fun _ s₅ h₅ => wpAny_pure (wpAny_pure ⟨rfl, h₅⟩)) fun _ _ h' => h'.elim)) fun _ _ h' => h'.elim))
end L2

namespace L2
open PySem PySem.Spec PyProof.Rows

section
variable {X : Cx} {pins : List (Addr × Obj)} {σ : St} {H H' : Hp} {s s' : Shared} {scope : Scope} {fp : List Addr} {N' : List Str}
/-- what a comprehension's own names must be -/
structure CompSc (env : Env) (scope : Scope) : Prop where
  kind : scope.kind = .function
  free : ∀ y ∈ scope.names, y.2 = .free → env.kindOf y.1 = some .cell ∨ env.kindOf y.1 = some .free
  cell : ∀ y ∈ scope.names, y.2 ≠ .cell
  loc : ∀ y ∈ scope.names, y.2 = .local → scope.names.lookup y.1 = some .local

theorem CompSc.has (S : CompSc X.env scope) (I : Inv X pins σ H s) : ∀ y ∈ scope.names, y.2 = .free → ∃ c, X.env.cells.lookup y.1 = some c := fun y hy e => I.ok.has y.1 (S.free y hy e)
theorem CompSc.cl (S : CompSc X.env scope) (I : Inv X pins σ H s) {x : Str} {c : Addr} (h : (closL scope X.env).lookup x = some c) : X.env.cells.lookup x = some c := by
  rcases closL_mem scope.names [] (S.has I) x c h with q | q
  · exact q
  · simp at q

theorem blk_ok (S : CompSc X.env scope) (I : Inv X pins σ H s) (hf : ∀ b ∈ fp, FpOk X pins H b) (hfs : ∀ b ∈ fp, b < s.heap.objs.size) : (blk X N' scope (closL scope X.env) s.heap.objs.size s H fp).Ok where
  mod := I.ok.mod
  kind := S.kind
  glob := I.ok.glob
  blt := I.ok.blt
  above := Nat.le_refl _
  inj := fun x y c h1 h2 => I.ok.inj x y c (S.cl I h1) (S.cl I h2)
  has := fun x hx => closL_has (env := X.env) scope.names [] x (.inl (relabel_cf S.cell hx))
  cab := fun x c h _ => by cases h
  hd := I.ok.hd
  frames := I.ok.frames
  stk := .inl rfl
  exf := fun b hb => ⟨Nat.ne_of_lt (hfs b hb), fun x c h => (hf b hb).2.2.2.2.1 x c (S.cl I h)⟩
  bs := I.bs
  bsz := Nat.le_trans I.ok.bsz I.sz
  noex := fun b o e hb => by
    rcases (hf b hb).2.2.2.1 with z | z
    · exact I.ok.noex b o e z
    · rw [(I.ok.bs b o e).1] at z; cases z
  exfs := fun b hb z => by
    rcases List.mem_cons.mp (I.stkSub b z) with e | e
    · exact (hf b hb).2.1 e
    · exact (hf b hb).2.2.1 e
  funs := I.stack
  frf := I.stkFree

theorem capSt_get {N : List Str} {i : Nat} {x : Str} {v : V} (h1 : N'[i]? = some x) (h2 : (capSt N' N σ scope)[i]? = some (some v)) : scope.names.lookup x = some .free ∧ nameV N σ x = some v := by
  unfold capSt at h2
  rw [List.getElem?_map, h1] at h2
  have h3 : (if scope.names.lookup x = some .free then nameV N σ x else none) = some v := by simpa using h2
  split at h3
  · rename_i e
    exact ⟨e, h3⟩
  · cases h3

theorem blk_inv (S : CompSc X.env scope) (I : Inv X pins σ H s) (hf : ∀ b ∈ fp, FpOk X pins H b) (hfs : ∀ b ∈ fp, b < s.heap.objs.size) {h₁ : Heap} {m : Str → Option Value} {tk : Nat} (hns : h₁.Ns s.heap.objs.size m)
    (old : ∀ b o, s.heap.get? b = some o → h₁.get? b = some o) : Inv (blk X N' scope (closL scope X.env) s.heap.objs.size s H fp) [] (capSt N' X.N σ scope) H { s with heap := h₁, toks := tk } where
  ok := blk_ok S I hf hfs
  os := rfl
  bare := I.bare
  base := Un.kept old
  loc := by
    refine ⟨m, hns, fun i x v h1 h2 h3 => ?_⟩
    obtain ⟨e1, e2⟩ := capSt_get h1 h2
    obtain ⟨j, g1, g2⟩ := nameV_get e2
    have hm : (x, NameKind.free) ∈ scope.names := PySem.mem_of_lookup e1
    have hk := S.free _ hm rfl
    obtain ⟨m0, _, hl⟩ := I.loc
    have vis : Vis X.env.scope x := .inr hk
    obtain ⟨u, r, lk⟩ := hl j x v g1 g2 vis
    refine ⟨u, r, .inr ⟨relabel_free (env := X.env) e1, ?_⟩⟩
    rcases lk with ⟨k, _⟩ | ⟨_, c, e, z⟩
    · rcases hk with hk | hk
      · have hk' : X.env.kindOf x = some .cell := hk
        rw [hk'] at k; cases k
      · have hk' : X.env.kindOf x = some .free := hk
        rw [hk'] at k; cases k
    · obtain ⟨c', e'⟩ := closL_has (env := X.env) scope.names [] x (.inl hm)
      have e3 := S.cl I (x := x) (c := c') e'
      rw [e] at e3
      cases e3
      obtain ⟨o, ho, hd⟩ := z
      exact ⟨c, e', o, old _ _ ho, hd⟩
  cell := fun x c h => by
    obtain ⟨v, o, ho, hd⟩ := I.cell x c (S.cl I h)
    exact ⟨v, o, old _ _ ho, hd⟩
  free := I.hok.fresh (Nat.le_refl _)
  freeC := fun x c h => I.freeC x c (S.cl I h)
  pin := fun p hp => absurd (show p ∈ ([] : List (Addr × Obj)) from hp) (by simp)
  hok := I.hok.kept old
  len := by show (capSt N' X.N σ scope).length = N'.length; unfold capSt; rw [List.length_map]

/-- behind the block -/
theorem blk_end {τ : St} (I : Inv X pins σ H s) (hf : ∀ b ∈ fp, FpOk X pins H b) (J : Inv (blk X N' scope (closL scope X.env) s.heap.objs.size s H fp) [] τ H' s') : Inv X pins σ H' s' := by
  obtain ⟨hh, g, d, t, os'⟩ := s'
  have e : os' = s.os := J.os
  subst e
  exact I.call (h' := hh) (g' := g) (d' := d) (t' := t) (ch := fp) J.base J.hok J.bare fun b hb => ⟨(hf b hb).2.2.2.1, (hf b hb).2.1, (hf b hb).2.2.2.2.1, (hf b hb).2.2.2.2.2⟩

variable {elt iter tg : Expr} {ifs : List Expr} {pos : Pos}
/-- the turns wanted of a comprehension: W the invariant, D the list's address -/
def CompT (X Y : Cx) (tg elt : Expr) (ifs : List Expr) (J : It) (D : Addr) (σ' : St) (H : Hp) (Q : Hp → Prop) : Prop :=
  ∃ W : Nat → Nat → St → Hp → Prop, (∃ m, W 0 m σ' (upd H D (.lst []))) ∧ ∀ i m τ H, W i m τ H →
    (J.stop i H ∧ Q H) ∨ (J.go i H ∧ ∃ N : St → Hp → Prop, (∀ τ' H', N τ' H' → ∃ m', m' < m ∧ W (i + 1) m' τ' H') ∧ ∀ x H', J.yld i H x H' →
      EG Y tg x τ H' fun τ2 H2 => EIfs Y ifs τ2 H2 fun k H3 => if k = true then EV Y elt τ2 H3 fun y H4 => ∃ xs, H4 D = some (.lst xs) ∧ xs.length < sizeLine ∧ N τ2 (upd H4 D (.lst (xs ++ [y]))) else N τ2 H3)

theorem comp_run {R : Value → Addr → Result → Shared → Prop} {it : Addr} {tn : Nat → Heap → Prop} {J : It} {E : Value → Shared → Prop} {Q : Addr → Hp → Prop} (hc : X.calm = true) (S : CompSc X.env scope) (I : Inv X pins σ H s)
    (T : Turn X.prog X.w X.K tg J fp it tn) (st : tn 0 s.heap) (hf : ∀ b ∈ fp, FpOk X pins H b)
    (h : ∀ (D C : Addr) (s3 : Shared), H D = none → CompT X (blk X N' scope (closL scope X.env) C s3 (upd H D (.lst [])) fp) tg elt ifs J D (capSt N' X.N σ scope) H (Q D))
    (hR : ∀ (D C : Addr) (H' : Hp) (s' : Shared), H D = none → Q D H' → Inv X pins σ H' s' → FpOk X pins H' C → (∃ m, s'.heap.Ns C m) → R (.ref D) C (.ok .next) s') :
    wpAny (model X.prog X.w) X.A (newList []) (fun acc s₃ => wpAny (model X.prog X.w) X.A (newFunctionEnv scope X.env.globals (closL scope X.env) [] X.env.qual none .none (some X.env)) (fun cenv s₄ =>
      codeAny (model X.prog X.w) X.A (.compStart (.ListComp elt [⟨tg, iter, ifs, 0⟩] scope pos) 0 (.ref it) acc { cenv with scope := relabel scope X.env }) (R acc cenv.locals) s₄) E s₃) E s := by
  refine wpAny_newObj_type ?_
  have hD : H s.heap.objs.size = none := I.hok.fresh (Nat.le_refl _)
  generalize hs3 : ({ s with heap := s.heap.push { cls := .type "list", dict := none, data := .seq ([] : List Value).toArray } } : Shared) = s3
  have I3 : Inv X pins σ (upd H s.heap.objs.size (.lst [])) s3 := by
    subst hs3
    exact I.laid (t' := s.toks) (fun b u e => Heap.get?_push_of_some _ e) (Nat.le_refl _) ⟨Nat.zero_le _, [], 0, .nil, Heap.get?_push_size _ rfl⟩
  have hsz : s3.heap.objs.size = s.heap.objs.size + 1 := by subst hs3; exact Heap.size_push ..
  have old3 : ∀ b o, s.heap.get? b = some o → s3.heap.get? b = some o := fun b o e => by subst hs3; exact Heap.get?_push_of_some _ e
  have fpl : ∀ b ∈ fp, b < s.heap.objs.size := fun b hb => by
    obtain ⟨o, e, _⟩ := T.obj _ _ st b hb
    exact Heap.lt_size e
  have hf3 : ∀ b ∈ fp, FpOk X pins (upd H s.heap.objs.size (.lst [])) b := fun b hb => ⟨by rw [upd_ne (Nat.ne_of_lt (fpl b hb))]; exact (hf b hb).1, (hf b hb).2⟩
  have st3 : tn 0 s3.heap := T.keep _ _ _ st fun b _ o e => old3 b o e
  have fpl3 : ∀ b ∈ fp, b < s3.heap.objs.size := fun b hb => by rw [hsz]; exact Nat.lt_succ_of_lt (fpl b hb)
  refine wpAny_newFunctionEnv S.cell (by intro y hy; simp at hy) (fun h₁ hns hsb => ?_) S.kind
  have old4 : ∀ b o, s3.heap.get? b = some o → h₁.get? b = some o := fun b o e => hsb.extBut b o (Nat.ne_of_lt (Heap.lt_size e)) (Heap.get?_push_of_some _ e)
  generalize hY : blk X N' scope (closL scope X.env) s3.heap.objs.size s3 (upd H s.heap.objs.size (.lst [])) fp = Y
  have hT := h s.heap.objs.size s3.heap.objs.size s3 hD
  rw [hY] at hT
  obtain ⟨W, ⟨m0, w0⟩, turn⟩ := hT
  generalize hs4 : ({ s3 with heap := h₁, toks := s3.toks + ([] : List (Str × Value)).length } : Shared) = s4
  have I4 : Inv Y [] (capSt N' X.N σ scope) (upd H s.heap.objs.size (.lst [])) s4 := by
    subst hs4
    rw [← hY]
    exact blk_inv S I3 hf3 fpl3 hns old4
  have st4 : tn 0 s4.heap := by
    subst hs4
    exact T.keep _ _ _ st3 fun b _ o e => old4 b o e
  have hP : Y.prog = X.prog := by rw [← hY]; rfl
  have hw : Y.w = X.w := by rw [← hY]; rfl
  have hK : Y.K = X.K := by rw [← hY]; rfl
  have hA : Y.A = X.A := by rw [← hY]; rfl
  have hcY : Y.calm = true := by rw [← hY]; exact hc
  have hE : Y.xe = fun _ _ => False := by rw [← hY]; rfl
  have hen : Y.env = compEnvC scope (closL scope X.env) s3.heap.objs.size X.env := by rw [← hY]; rfl
  have hloc : Y.env.locals = s3.heap.objs.size := by rw [hen]; rfl
  have fpY : ∀ b ∈ fp, ∀ H' : Hp, H' b = none → FpOk Y [] H' b := fun b hb H' e => by
    rw [← hY]
    refine ⟨e, Nat.ne_of_lt (fpl3 b hb), fun z => ?_, .inl hb, fun x c q => (hf3 b hb).2.2.2.2.1 x c (S.cl I3 q), fun p hp => absurd (show p ∈ ([] : List (Addr × Obj)) from hp) (by simp)⟩
    rcases List.mem_cons.mp (I3.stkSub b z) with e | e
    · exact (hf b hb).2.1 e
    · exact (hf b hb).2.2.1 e
  have loop : codeAny (model X.prog X.w) X.A (.compLoop (.ListComp elt [⟨tg, iter, ifs, 0⟩] scope pos) 0 (.ref it) (.ref s.heap.objs.size) Y.env) (R (.ref s.heap.objs.size) s3.heap.objs.size) s4 := by
    refine compLoop_any (fun n s' => ∃ i τ H', Inv Y [] τ H' s' ∧ tn i s'.heap ∧ (∀ b ∈ fp, H' b = none) ∧ W i n τ H') ?_ m0 ⟨0, _, _, I4, st4, fun b hb => (hf3 b hb).1, w0⟩
    rintro n s5 ⟨i, τ, H5, I5, st5, fr5, w5⟩
    have toF : ∀ {α : Type} {t : Sem α} {Q : α → Shared → Prop} {s : Shared}, wpAny (model Y.prog Y.w) Y.A t Q Y.xe s → wpAny (model X.prog X.w) X.A t Q (fun _ _ => False) s := fun h => by
      rw [hP, hw, hA, hE] at h; exact h
    rcases turn i n τ H5 w5 with ⟨stop, qn⟩ | ⟨go, N, hN, step⟩
    · have q := T.done Y hP hw hK hcY i [] s5 τ H5 (fun _ _ => False) I5 (fun b hb => fpY b hb _ (fr5 b hb)) st5 stop
      rw [hA] at q
      refine thn q fun r s6 ⟨hr, I6⟩ => ?_
      subst hr
      have IX6 : Inv X pins σ H5 s6 := by
        have I6' := I6
        rw [← hY] at I6'
        exact blk_end I3 hf3 I6'
      refine hR _ _ H5 s6 hD qn IX6 (I3.fpOk (Nat.le_refl _) ?_) ?_
      · have := I6.free
        rw [hloc] at this
        exact this
      · obtain ⟨m, hn, _⟩ := I6.loc
        rw [hloc] at hn
        exact ⟨m, hn⟩
    · have q := T.item Y hP hw hK hcY i [] s5 τ H5 (fun _ _ => False) I5 (fun b hb => fpY b hb _ (fr5 b hb)) st5 go
      rw [hA] at q
      refine thn q fun r s6 ⟨u, hr, h6⟩ => ?_
      subst hr
      refine thn h6 fun _ s7 ⟨x, H7, I7, r7, y7, st7, fr7⟩ => ?_
      have I7' := I7.pinned (fun b hb => fpY b hb _ (fr7 b hb)) (T.obj _ _ st7)
      have pinK : ∀ {τ' : St} {H8 : Hp} {s8 : Shared}, Inv Y ([] ++ pinsAt fp s7.heap) τ' H8 s8 → tn (i + 1) s8.heap ∧ ∀ b ∈ fp, H8 b = none := fun {τ' H8 s8} I8 => by
        refine ⟨T.keep _ _ _ st7 fun b hb o e => (I8.pin (b, o) (List.mem_append_right _ (List.mem_append_right _ (mem_pinsAt hb e)))).1, fun b hb => ?_⟩
        obtain ⟨o, e, d⟩ := T.obj _ _ st7 b hb
        exact (I8.pin (b, o) (List.mem_append_right _ (List.mem_append_right _ (mem_pinsAt hb e)))).2.1
      refine toF (thn (step x H7 y7 _ s7 u I7' r7) fun _ s8 ⟨τ8, H8, I8, q8⟩ => ?_)
      refine toF (thn (q8 _ s8 I8) fun ok s9 ⟨H9, I9, q9⟩ => ?_)
      cases ok with
      | false =>
        have q9' : N τ8 H9 := by simpa using q9
        obtain ⟨m', hm, w9⟩ := hN _ _ q9'
        obtain ⟨k1, k2⟩ := pinK I9
        show ∃ m, _
        exact ⟨m', hm, i + 1, τ8, H9, I9.unpinned, k1, k2, w9⟩
      | true =>
        have q9' : EV Y elt τ8 H9 fun y H4 => ∃ xs, H4 s.heap.objs.size = some (.lst xs) ∧ xs.length < sizeLine ∧ N τ8 (upd H4 s.heap.objs.size (.lst (xs ++ [y]))) := by simpa using q9
        show wpAny _ _ _ _ _ _
        refine toF (thn (q9' _ s9 I9) fun z s10 ⟨y, H10, I10, r10, xs, e10, l10, n10⟩ => ?_)
        refine toF (thn (mt_append _ s10 τ8 H10 (.ref s.heap.objs.size) [y] _ [z] (fun v H11 => v = .non ∧ H11 = upd H10 s.heap.objs.size (.lst (xs ++ [y]))) I10 rfl (.cons r10 .nil) ⟨_, xs, y, rfl, rfl, e10, l10, rfl, rfl⟩) fun _ s11 ⟨_, H11, I11, _, _, e11⟩ => ?_)
        subst e11
        obtain ⟨m', hm, w11⟩ := hN _ _ n10
        obtain ⟨k1, k2⟩ := pinK I11
        exact ⟨m', hm, i + 1, τ8, _, I11.unpinned, k1, k2, w11⟩
  rw [hen] at loop
  exact codeAny_compStart_list loop (T.self X.A 0 s4 _ _ st4 loop)

theorem ev_comp {Q : VK} (hc : X.calm = true) (S : CompSc X.env scope) (hs : ∀ x, foldedSetIterable iter X.env x = pure x)
    (h : EI X tg iter σ H fun J H1 => ∀ (fp : List Addr) (D C : Addr) (s3 : Shared), H1 D = none → CompT X (blk X N' scope (closL scope X.env) C s3 (upd H1 D (.lst [])) fp) tg elt ifs J D (capSt N' X.N σ scope) H1 (fun H' => Q (.ref D) H')) :
    EV X (.ListComp elt [⟨tg, iter, ifs, 0⟩] scope pos) σ H Q := by
  intro pins s I
  rw [eval_ListComp]
  refine wpAny_comprehension_free (use := none) rfl hs (closure_eq (S.has I)) S.kind S.loc (thn (h pins s I) fun v s1 h1 => thn h1 fun itv s2 h2 => ?_)
  obtain ⟨it, fp, tn, J, H2, e, I2, T, st2, f2, q2⟩ := h2
  subst e
  refine comp_run (R := fun acc C => compPost (model X.prog X.w) X.A X.xe none (EP X pins σ Q) acc C) (Q := fun D H' => Q (.ref D) H') hc S I2 T st2 f2 (fun D C s3 hD => q2 fp D C s3 hD) fun D C H' s' hD qD IX fC hn => ?_
  obtain ⟨m, hn⟩ := hn
  obtain ⟨f0, f1, f2', f3, f4, f5⟩ := fC
  exact ⟨m, hn, fun h' hsb => ⟨.ref D, H', IX.turned (t' := s'.toks) (fun b o hb e => hsb.extBut b o hb e) f0 f1 f3 f4 f5, rfl, qD⟩⟩

/-- y = [.. for ..] at a local name, on one line: the stores are exchanged -/
theorem sx_comp {D : Ends} {y : Str} {py spos : Pos} {j : Nat} (hsw : swapsWith (.ListComp elt [⟨tg, iter, ifs, 0⟩] scope pos) (some (.Name y py)) spos.line X.env = pure true) (hc : X.calm = true) (S : CompSc X.env scope) (hs : ∀ x, foldedSetIterable iter X.env x = pure x)
    (hN : X.N.Nodup) (hi : nameAt X.N y = some j) (hx : X.env.scope.names.lookup y = some .local)
    (h : EI X tg iter σ H fun J H1 => ∀ (fp : List Addr) (E C : Addr) (s3 : Shared), H1 E = none → CompT X (blk X N' scope (closL scope X.env) C s3 (upd H1 E (.lst [])) fp) tg elt ifs J E (capSt N' X.N σ scope) H1 (fun H' => D.nx (σ.set j (some (.ref E))) H')) :
    SX X (.Assign [.Name y py] (.ListComp elt [⟨tg, iter, ifs, 0⟩] scope pos) spos) D σ H := by
  intro pins s I
  rw [exec_Assign_Name_used _ _ _ _ hsw]
  refine wpAny_bind (wpAny_standAt (wpAny_bind ?_))
  show wpAny _ X.A (do let _ ← comprehension (.ListComp elt [⟨tg, iter, ifs, 0⟩] scope pos) scope X.env _ (newList []) false (eval iter X.env) (some (assign (.Name y py) X.env))) _ _ s
  refine wpAny_bind (wpAny_mono (wpAny_comprehension_free (use := some (assign (.Name y py) X.env)) (Q := fun _ s' => SP X pins D .next s') rfl hs (closure_eq (S.has I)) S.kind S.loc
    (thn (h pins s I) fun v s1 h1 => thn h1 fun itv s2 h2 => ?_)) (fun _ s' hq => wpAny_pure (wpAny_pure hq)) fun _ _ e => e)
  obtain ⟨it, fp, tn, J, H2, e, I2, T, st2, f2, q2⟩ := h2
  subst e
  refine comp_run (R := fun acc C => compPost (model X.prog X.w) X.A X.xe (some (assign (.Name y py) X.env)) (fun _ s' => SP X pins D .next s') acc C) (Q := fun E H' => D.nx (σ.set j (some (.ref E))) H') hc S I2 T st2 f2 (fun E C s3 hD => q2 fp E C s3 hD) fun E C H' s' hD qD IX fC hn => ?_
  obtain ⟨m, hn⟩ := hn
  obtain ⟨f0, f1, f2', f3, f4, f5⟩ := fC
  show wpAny _ _ (assign (.Name y py) X.env (.ref E)) _ _ _
  refine wpAny_assign_Name (store_ok2 IX hN (nameAt_get hi) (.inl hx) (v := .ref E) rfl (fun s'' I'' hb => ?_) (.inr hx))
  obtain ⟨a, sb, ha⟩ := hb
  have hCa : C ≠ a := by
    rcases ha with ha | ha
    · rw [ha]; exact f1
    · intro z
      exact f4 y a ha z.symm
  refine ⟨m, hn.sameBut sb hCa, fun h' hsb => ⟨σ.set j (some (.ref E)), H', I''.turned (t' := s''.toks) (fun b o hb e => hsb.extBut b o hb e) f0 f1 f3 f4 f5, qD⟩⟩

theorem eifs_nil {Q : Bool → Hp → Prop} (q : Q true H) : EIfs X [] σ H Q := fun pins s I => by
  rw [List.forIn_nil]
  exact wpAny_pure ⟨H, I, q⟩
end

end L2

namespace L2
open PySem PySem.Spec PyProof.Rows

/-! ### short forms: loops, comprehensions, tests -/
theorem ifD {c A B : Prop} [Decidable c] (h1 : c → A) (h2 : ¬ c → B) : if decide c = true then A else B := by
  by_cases h : c
  · rw [if_pos (decide_eq_true h)]; exact h1 h
  · rw [if_neg (by simpa using h)]; exact h2 h
theorem ifN {c A B : Prop} [Decidable c] (h1 : ¬ c → A) (h2 : c → B) : if (!decide c) = true then A else B := by
  by_cases h : c
  · rw [if_neg (by simp [h])]; exact h2 h
  · rw [if_pos (by simp [h])]; exact h1 h
theorem ifB {k : Bool} {A B : Prop} (h1 : k = true → A) (h2 : k = false → B) : if k = true then A else B := by
  cases k with
  | true => rw [if_pos rfl]; exact h1 rfl
  | false => rw [if_neg Bool.false_ne_true]; exact h2 rfl
theorem iteNT {A B : Prop} (h : B) : if (!true) = true then A else B := by rw [if_neg (by decide)]; exact h
theorem Same.upd {H : Hp} {p : Addr} {o : HO} (h : H p = none) : Same H (L2.upd H p o) := fun b u e => by rw [upd_ne (ne_of_none e h)]; exact e
section
variable {X : Cx} {a e : Expr} {σ : St} {H : Hp} {Q : VK} {D : Ends} {pos p p' : Pos}
/-- for y in range(e) -/
theorem sx_forR {tg : Expr} {body : List Stmt} (hp : PassesOwn (model X.prog X.w) X.A X.env X.xe) (hc : X.calm = true) (hg : Gl X "range") (hm : X.mg "range" = none) (hs : starEach [a] X.env = [(false, eval a X.env)])
    (h : EV X a σ H fun v H1 => ∃ n : Int, v = .int n ∧ -(2 ^ 62) ≤ n ∧ n < 2 ^ 62 ∧ ∃ Pv : Nat → St → Hp → Prop, Pv 0 σ H1 ∧
      (∀ i σ' H', i < n.toNat → Pv i σ' H' → EG X tg (.int i) σ' H' fun σ2 H2 => SXs X body { D with nx := Pv (i + 1), ct := Pv (i + 1), bk := D.nx } σ2 H2) ∧ ∀ σ' H', Pv n.toNat σ' H' → D.nx σ' H') :
    SX X (.For tg (.Call (.Name "range" p) [a] [] p') body [] pos) D σ H := by
  refine sx_for hp hc (by intro _; rfl) (ei_range1 hg hm hs (ea_cons hs (ev_mono h fun v H1 q => ?_)))
  obtain ⟨n, rfl, h1, h2, Pv, h0, hst, hd⟩ := q
  refine ea_nil ⟨n, rfl, h1, h2, ?_⟩
  exact for_range (g := EG X tg) (tb := SXs X body) Pv h0 (fun i σ' H' hi hP => by rw [Int.zero_add]; exact hst i σ' H' hi hP) hd
/-- for y in a list that stays -/
theorem sx_forL {tg : Expr} {body : List Stmt} (hp : PassesOwn (model X.prog X.w) X.A X.env X.xe) (hc : X.calm = true) (hs : ∀ x, foldedSetIterable e X.env x = pure x)
    (h : EV X e σ H fun v H1 => ∃ q xs, v = .ref q ∧ SqL X.K H1 q xs ∧ ∃ Pv : Nat → St → Hp → Prop, Pv 0 σ H1 ∧ (∀ i σ' H', i ≤ xs.length → Pv i σ' H' → SqL X.K H' q xs) ∧
      (∀ i x σ' H', xs[i]? = some x → Pv i σ' H' → EG X tg x σ' H' fun σ2 H2 => SXs X body { D with nx := Pv (i + 1), ct := Pv (i + 1), bk := D.nx } σ2 H2) ∧ ∀ σ' H', Pv xs.length σ' H' → D.nx σ' H') :
    SX X (.For tg e body [] pos) D σ H := by
  refine sx_for hp hc hs (ei_list (ev_mono h fun v H1 q => ?_))
  obtain ⟨q, xs, rfl, hq, Pv, h0, hl, hst, hd⟩ := q
  exact ⟨q, rfl, ⟨xs, hq⟩, for_list (g := EG X tg) (tb := SXs X body) Pv h0 hl hst hd⟩
/-- a comprehension with one name, by what holds of each element -/
theorem comp_name {Y : Cx} {elt : Expr} {J : It} {E : Addr} {τ0 : St} {Q : Hp → Prop} {y : Str} {py : Pos} {j : Nat} (hN : Y.N.Nodup) (hj : nameAt Y.N y = some j) (hx : Y.env.scope.names.lookup y = some .local)
    (n : Nat) (hn : n ≤ sizeLine) (Pi : Nat → V → Prop) (It : Nat → V → Prop) (hE : H E = none)
    (go : ∀ i H1, Same (upd H E (.lst [])) (upd H1 E (.lst [])) → i < n → J.go i H1) (stop : ∀ H1, Same (upd H E (.lst [])) (upd H1 E (.lst [])) → J.stop n H1)
    (yld : ∀ i H1 x H2, i < n → Same (upd H E (.lst [])) (upd H1 E (.lst [])) → J.yld i H1 x H2 → It i x ∧ H2 = H1)
    (step : ∀ i x H1, i < n → It i x → Same H H1 → EV Y elt (τ0.set j (some x)) H1 fun v H2 => Pi i v ∧ Same H1 H2)
    (fin : ∀ H1 xs, xs.length = n → (∀ i v, xs[i]? = some v → Pi i v) → H1 E = some (.lst xs) → Same H H1 → Q H1) : CompT X Y (.Name y py) elt [] J E τ0 H Q := by
  have sU : ∀ {H1 : Hp}, Same H H1 → Same (upd H E (.lst [])) (upd H1 E (.lst [])) := fun {H1} s b o e => by
    by_cases hb : b = E
    · subst hb; rw [upd_same] at e ⊢; exact e
    · rw [upd_ne hb] at e ⊢; exact s b o e
  refine ⟨fun i m τ H1 => m = n - i ∧ i ≤ n ∧ Same H H1 ∧ (τ = τ0 ∨ ∃ x, τ = τ0.set j (some x)) ∧ ∃ xs, H1 E = some (.lst xs) ∧ xs.length = i ∧ ∀ k v, xs[k]? = some v → Pi k v, ⟨n, by simp, Nat.zero_le _, Same.upd hE, .inl rfl, [], upd_same, rfl, fun k v e => by simp at e⟩, ?_⟩
  rintro i m τ H1 ⟨rfl, hi, s1, hτ, xs, eE, lx, px⟩
  by_cases hlt : i < n
  · refine .inr ⟨go i H1 (sU s1) hlt, fun τ' H' => Same H H' ∧ (τ' = τ0 ∨ ∃ x, τ' = τ0.set j (some x)) ∧ ∃ xs, H' E = some (.lst xs) ∧ xs.length = i + 1 ∧ ∀ k v, xs[k]? = some v → Pi k v, fun τ' H' ⟨a, b, c⟩ => ⟨n - (i + 1), by omega, rfl, hlt, a, b, c⟩, fun x H2 y => ?_⟩
    obtain ⟨hI, e2⟩ := yld i H1 x H2 hlt (sU s1) y
    subst e2
    refine eg_name hN hj (.inl hx) (.inr hx) (eifs_nil ?_)
    rw [if_pos rfl]
    have eτ : τ.set j (some x) = τ0.set j (some x) := by
      rcases hτ with e | ⟨z, e⟩
      · rw [e]
      · rw [e, List.set_set]
    rw [eτ]
    refine ev_mono (step i x H2 hlt hI s1) fun v H3 ⟨pv, s2⟩ => ⟨xs, s2 _ _ eE, by omega, ?_⟩
    refine ⟨fun b o e => ?_, .inr ⟨x, rfl⟩, xs ++ [v], upd_same, by simp [lx], fun k u e => ?_⟩
    · rw [upd_ne (ne_of_none e hE)]
      exact s2 _ _ (s1 _ _ e)
    · by_cases hk : k < xs.length
      · rw [List.getElem?_append_left hk] at e
        exact px k u e
      · have hk2 : k = i := by
          have := (List.getElem?_eq_some_iff.mp e).1
          rw [List.length_append, List.length_singleton] at this
          omega
        subst hk2
        rw [← lx, List.getElem?_concat_length] at e
        cases e
        exact pv
  · have e : i = n := by omega
    subst e
    exact .inl ⟨stop H1 (sU s1), fin H1 xs lx px eE s1⟩

/-- [elt for y in range(a)] -/
theorem ev_compR {elt : Expr} {scope : Scope} {y : Str} {py : Pos} {j : Nat} (N' : List Str) {σ' : St} (hσ : capSt N' X.N σ scope = σ') (hc : X.calm = true) (S : CompSc X.env scope) (hN : N'.Nodup) (hj : nameAt N' y = some j) (hx : scope.names.lookup y = some .local)
    (hg : Gl X "range") (hm : X.mg "range" = none) (hs : starEach [a] X.env = [(false, eval a X.env)])
    (h : EV X a σ H fun v H1 => ∃ n : Int, v = .int n ∧ -(2 ^ 62) ≤ n ∧ n.toNat ≤ sizeLine ∧ ∃ Pi : Nat → V → Prop,
      (∀ (fp : List Addr) (E C : Addr) (s3 : Shared) (H0 : Hp) (i : Nat) (H2 : Hp), i < n.toNat → Same H1 H2 → EV (blk X N' scope (closL scope X.env) C s3 H0 fp) elt (σ'.set j (some (.int i))) H2 fun v H3 => Pi i v ∧ Same H2 H3) ∧
      ∀ (E : Addr) (H2 : Hp) (xs : List V), H1 E = none → xs.length = n.toNat → (∀ i v, xs[i]? = some v → Pi i v) → H2 E = some (.lst xs) → Same H1 H2 → Q (.ref E) H2) :
    EV X (.ListComp elt [⟨.Name y py, .Call (.Name "range" p) [a] [] p', [], 0⟩] scope pos) σ H Q := by
  refine ev_comp (N' := N') hc S (by intro _; rfl) (ei_range1 hg hm hs (ea_cons hs (ev_mono h fun v H1 q => ?_)))
  obtain ⟨n, rfl, h1, h2, Pi, hst, hfin⟩ := q
  have hsz : (sizeLine : Nat) < 2 ^ 62 := by rw [sizeLine_eq]; decide
  refine ea_nil ⟨n, rfl, h1, by omega, fun fp E C s3 hE => ?_⟩
  rw [hσ]
  refine comp_name (Y := blk X N' scope (closL scope X.env) C s3 (upd H1 E (.lst [])) fp) hN hj (lookup_relabel_local hx) n.toNat h2 Pi (fun i x => x = .int i) hE (fun i _ _ hi => hi) (fun _ _ => Nat.le_refl _) (fun i H1 x H2 _ _ yl => ?_) (fun i x H2 hi ex s => ?_) (fun H2 xs l px eE s => hfin E H2 xs hE l px eE s)
  · obtain ⟨e1, e2⟩ := yl
    exact ⟨by rw [e2, Int.zero_add], e1⟩
  · subst ex
    exact hst fp E C s3 _ i H2 hi s
end

/-! ### a def by its body -/
section
variable {P : Program} {w : World} {K : PySem.W.Frag} {mg : Str → Option Value} {base : Heap} {cc : Bool}
/-- the context in which a def's body runs -/
abbrev CxF (cc : Bool) (P : Program) (w : World) (K : PySem.W.Frag) (mg : Str → Option Value) (base : Heap) (N : List Str) (qual : Str) (scope : Scope) (f : Addr) (cd : Value) (A : Around) (outer : List Env) (s : Shared) (H : Hp) (E : XK) : Cx :=
  cxOf cc (CX1 P w) P w K mg base N qual scope f cd A outer s H E
theorem fn_sx {x qual : Str} {st : Stmt} {ps N : List Str} {k : Nat} {sp : Sp} {f : Addr} {fd : FuncData} (F : Fun K x qual st f fd) (S : FnScope N ps (defScope st))
    (len : ∀ vs H Q E, sp vs H Q E → vs.length = ps.length)
    (body : ∀ (cdv : Value) (A : Around) (outer : List Env) (s : Shared) (H : Hp) (vs : List V) (Q : VK) (E : XK), Room cc k (A.deeper (envOfC qual (defScope st) s.heap.objs.size f cdv)) → sp vs H Q E →
      SXs (CxF cc P w K mg base N qual (defScope st) f cdv A outer s H E) (defBody st) { nx := fun _ H' => Q .non H', rt := Q } (start N vs) H) : FnOk P w K mg base (CX1 P w) cc (k + 1) f fd ps sp := by
  obtain ⟨oc, od, kV, doc, pm, an, cdv, ct, osl, rfl, lk, hcd⟩ := id F.ex
  exact fn_of lk hcd S len fun A outer s H vs Q E hr h => ⟨_, pss_self, body cdv A outer s H vs Q E hr h⟩
theorem def_of {x : Str} {st : Stmt} {ps N : List Str} {k : Nat} {sp : Sp} (F : ∃ f fd, Fun K x x st f fd ∧ mg x = some (.ref f)) (S : FnScope N ps (defScope st))
    (hb : ∀ (kV doc pm : Value) (an : Option Addr) (cdv ct : Value) (us : List Value), us.length = ps.length → bindArgs (PySem.W.fnOf x x (defArgs st) (defBody st) (defScope st) .none kV doc pm an cdv ct) ⟨us, []⟩ = pure (ps.zip us))
    (len : ∀ vs H Q E, sp vs H Q E → vs.length = ps.length)
    (body : ∀ (f : Addr) (cdv : Value) (A : Around) (outer : List Env) (s : Shared) (H : Hp) (vs : List V) (Q : VK) (E : XK), Room cc k (A.deeper (envOfC x (defScope st) s.heap.objs.size f cdv)) → sp vs H Q E →
      SXs (CxF cc P w K mg base N x (defScope st) f cdv A outer s H E) (defBody st) { nx := fun _ H' => Q .non H', rt := Q } (start N vs) H) : Def P w K mg base cc (k + 1) x ps sp := by
  obtain ⟨f, fd, F, hm⟩ := F
  exact ⟨f, fd, hm, F.kp, F.binds hb, fn_sx F S len fun cdv A outer s H vs Q E hr h => body f cdv A outer s H vs Q E hr h⟩
end
/-- law's promise: a list of at most 63 ints is handed in, True comes out -/
def spLaw (K : PySem.W.Frag) : Sp := fun vs H Q _ => ∃ (a : Addr) (ns : List Int), vs = [.ref a] ∧ SqL K H a (ns.map V.int) ∧ ns.length ≤ 63 ∧ ∀ H', Q (.bl true) H'
end L2

namespace L2
open PySem PySem.Spec PyProof.Rows

/-! ### texts -/
/-- z[lo:hi] -/
def cutS (z : Str) (lo hi : Option Int) : Str := ⟨((z.cps.toList.drop (HT.sIx z.length 0 lo)).take (HT.sIx z.length z.length hi - HT.sIx z.length 0 lo)).toArray⟩
theorem sIx_clip (n d : Nat) (v : Int) : max 0 (min (if v < 0 then v + (n : Int) else v) (n : Int)) = ((HT.sIx n d (some v) : Nat) : Int) := by
  rw [← HT.clip_eq]
  split <;> omega
theorem strSl (lo hi : Option Int) (n : Nat) : Builtin.Str.strSliceIndices lo hi 1 n = (List.range (HT.sIx n n hi - HT.sIx n 0 lo)).map (fun m => HT.sIx n 0 lo + m) := by
  have e : Builtin.Str.strSliceIndices lo hi 1 n = sliceRange ((HT.sIx n 0 lo : Nat) : Int) ((HT.sIx n n hi : Nat) : Int) 1 := by
    cases lo with
    | none =>
      cases hi with
      | none => rfl
      | some v => rw [← sIx_clip n n v]; rfl
    | some u =>
      cases hi with
      | none => rw [← sIx_clip n 0 u]; rfl
      | some v => rw [← sIx_clip n 0 u, ← sIx_clip n n v]; rfl
  rw [e]
  generalize HT.sIx n 0 lo = a
  generalize HT.sIx n n hi = b
  by_cases h : a ≤ b
  · have := StrLaws.strSliceIndices_plain (len := b) h (Nat.le_refl b)
    rw [← this]
    have e2 : Builtin.Str.strSliceIndices (some (a : Int)) (some (b : Int)) 1 b = sliceRange (a : Int) (b : Int) 1 := by
      have h1 : ¬ ((a : Int) < 0) := by omega
      have h2 : ¬ ((b : Int) < 0) := by omega
      have e1 : max (0 : Int) (min (a : Int) (b : Int)) = a := by omega
      have e2 : max (0 : Int) (min (b : Int) (b : Int)) = b := by omega
      simp only [Builtin.Str.strSliceIndices, h1, h2, if_false, e1, e2, show ((1 : Int) > 0) = True from by simp, if_true]
    rw [e2]
  · have e3 : b - a = 0 := by omega
    rw [e3]
    have : ¬ ((a : Int) < b) := by omega
    simp [sliceRange, this]
theorem picked_cut (z : Str) (lo hi : Option Int) : (⟨((Builtin.Str.strSliceIndices lo hi 1 z.length).filterMap (z.cps[·]?)).toArray⟩ : Str) = cutS z lo hi := by
  rw [strSl]
  unfold cutS
  have h1 := HT.sIx_le z.length z.length (Nat.le_refl _) hi
  have hl : z.cps.toList.length = z.length := by simp [Str.length]
  by_cases h : HT.sIx z.length 0 lo ≤ HT.sIx z.length z.length hi
  · have := StrLaws.picks z.cps.toList (HT.sIx z.length z.length hi - HT.sIx z.length 0 lo) (HT.sIx z.length 0 lo) (by omega)
    rw [← this]
    simp
  · have e3 : HT.sIx z.length z.length hi - HT.sIx z.length 0 lo = 0 := by omega
    rw [e3]
    simp
theorem isPart_of {v : Value} {o : Option Int} (h : IsPart v o) : ∃ l : Option (Int × Tok), v = partValue l ∧ l.map (·.1) = o := by
  cases h with
  | none => exact ⟨none, rfl, rfl⟩
  | int i t => exact ⟨some (i, t), rfl, rfl⟩
theorem sl_str {X : Cx} : SlR X (fun x lo hi H Q => ∃ z, x = .str z ∧ z.length ≤ sizeLine ∧ Q (.str (cutS z lo hi)) H) := by
  intro pins s σ H x v vl vu lo hi sl Q I rx hs pl pu h
  obtain ⟨z, rfl, hz, q⟩ := h
  obtain ⟨t, rfl⟩ := rx
  refine ⟨"str", _, F.slot_str_getitem.lookup, typeIs_str s z t, ?_⟩
  obtain ⟨l, rfl, rfl⟩ := isPart_of pl
  obtain ⟨u, rfl, rfl⟩ := isPart_of pu
  have hsl : s.heap.IsSlice sl l u none := by
    obtain ⟨o, ho, hc, hd⟩ := hs
    exact ⟨o, ho, hc, hd⟩
  refine wpAny_getItem_str_slice hsl rfl ?_
  have e : (slicePicked z l u none) = Builtin.Str.strSliceIndices (l.map (·.1)) (u.map (·.1)) 1 z.length := rfl
  unfold sliceMade
  have key : (⟨((slicePicked z l u none).filterMap (z.cps[·]?)).toArray⟩ : Str) = cutS z (l.map (·.1)) (u.map (·.1)) := by rw [e]; exact picked_cut z _ _
  split
  · rename_i hh
    have hlen : (slicePicked z l u none).length = z.length := by
      simp only [Bool.and_eq_true, beq_iff_eq] at hh
      exact hh.2
    have whole : cutS z (l.map (·.1)) (u.map (·.1)) = z := by
      rw [e, strSl, List.length_map, List.length_range] at hlen
      have h1 := HT.sIx_le z.length z.length (Nat.le_refl _) (u.map (·.1))
      have hl : z.cps.toList.length = z.length := by simp [Str.length]
      unfold cutS
      by_cases hz0 : z.length = 0
      · have : z.cps.toList = [] := List.eq_nil_of_length_eq_zero (by omega)
        rw [this]
        have e2 : z.cps = #[] := by
          have := congrArg List.toArray this
          simpa using this
        obtain ⟨c⟩ := z
        simp at e2
        subst e2
        simp
      · have ha : HT.sIx z.length 0 (l.map (·.1)) = 0 := by omega
        have hb : HT.sIx z.length z.length (u.map (·.1)) = z.length := by omega
        rw [ha, hb, List.drop_zero, Nat.sub_zero, List.take_of_length_le (by omega)]
    exact ⟨.str (cutS z (l.map (·.1)) (u.map (·.1))), H, I, ⟨t, by rw [whole]⟩, q⟩
  · rw [key]
    refine ⟨?_, .str (cutS z (l.map (·.1)) (u.map (·.1))), H, I.tok _, ⟨_, rfl⟩, q⟩
    have : (cutS z (l.map (·.1)) (u.map (·.1))).length ≤ z.length := by
      unfold cutS Str.length
      simp
      omega
    omega
section
variable {X : Cx} {H : Hp} {Q : VK} {z y : Str}
theorem s_str {lo hi : Option Int} (h : z.length ≤ sizeLine) (g : Q (.str (cutS z lo hi)) H) : SL X (.str z) lo hi H Q := ⟨_, sl_str, z, rfl, h, g⟩
theorem mt_by {id : String} {r : V → List V → Hp → VK → Prop} {x : V} {xs : List V} (h : MtR X id r) (q : r x xs H Q) : MT X id x xs H Q := ⟨r, h, q⟩
theorem strsAre_of {ys : List Str} : ∀ {us : List Value}, Vals (ys.map V.str) us → StrsAre us ys := by
  induction ys with
  | nil => intro us r; cases r; exact .nil
  | cons y ys ih =>
    intro us r
    cases r with
    | cons r rr =>
      obtain ⟨t, rfl⟩ := r
      exact .cons y t (ih rr)
theorem m_join {q : Addr} {ys : List Str} (h : SqL X.K H q (ys.map V.str)) (hw : (ys.map (·.length)).sum + ys.length * z.length ≤ 16777216) (g : Q (.str (Str.join z ys)) H) : MT X "str.join" (.str z) [.ref q] H Q := by
  refine mt_by (r := fun x xs H Q => ∃ z q ys, x = .str z ∧ xs = [.ref q] ∧ SqL X.K H q (ys.map V.str) ∧ (ys.map (·.length)).sum + ys.length * z.length ≤ 16777216 ∧ Q (.str (Str.join z ys)) H) ?_ ⟨z, q, ys, rfl, rfl, h, hw, g⟩
  intro pins s σ H x xs v us Q I rx rs h
  obtain ⟨z, q, ys, rfl, rfl, h, hw, g⟩ := h
  obtain ⟨t, rfl⟩ := rx
  obtain ⟨u, rfl, ru⟩ := vals1 rs
  cases (show u = Value.ref q from ru)
  obtain ⟨its, rv, pl, _⟩ := I.list h
  refine join_list pl.isList (by simpa using strsAre_of rv) hw fun t' k => ⟨.str (Str.join z ys), H, I.tok k, ⟨t', ?_⟩, g⟩
  have e : Txt.join z ys = Str.join z ys := by
    unfold Txt.join
    cases ys with
    | nil => rfl
    | cons y r => exact StrLaws.glued_cons z r y
  rw [e]
end
theorem compSc_of {env : Env} {scope : Scope} (sc : Scope) (hsc : env.scope = sc) (hk : scope.kind = .function)
    (h : (scope.names.all fun y => (if y.2 == .free then (sc.names.lookup y.1 == some .cell || sc.names.lookup y.1 == some .free) else true) && y.2 != .cell && (if y.2 == .local then scope.names.lookup y.1 == some .local else true)) = true) : CompSc env scope := by
  have h' := List.all_eq_true.mp h
  refine ⟨hk, fun y hy e => ?_, fun y hy e => ?_, fun y hy e => ?_⟩
  · have q := h' y hy
    simp only [e, beq_self_eq_true, if_true, Bool.and_eq_true, Bool.or_eq_true, beq_iff_eq] at q
    show env.scope.names.lookup y.1 = _ ∨ env.scope.names.lookup y.1 = _
    rw [hsc]
    exact q.1.1
  · have q := h' y hy
    rw [e] at q
    simp at q
  · have q := h' y hy
    simp only [e, Bool.and_eq_true, beq_iff_eq, beq_self_eq_true, if_true] at q
    exact q.2
theorem list_of_pi {α : Type} {xs : List V} {ys : List α} (f : α → V) (hl : xs.length = ys.length) (h : ∀ (i : Nat) v, xs[i]? = some v → ∃ c, ys[i]? = some c ∧ v = f c) : xs = ys.map f := by
  apply List.ext_getElem?
  intro i
  rw [List.getElem?_map]
  cases e : xs[i]? with
  | none =>
    have : xs.length ≤ i := List.getElem?_eq_none_iff.mp e
    rw [List.getElem?_eq_none (by omega)]
    rfl
  | some v =>
    obtain ⟨c, e1, e2⟩ := h i v e
    rw [e1, e2]
    rfl
section
variable {X : Cx} {H : Hp} {Q : VK}
theorem o_p9 (q : Q (.int 1000000000) H) : OP X (binaryOp .Pow) (.int 10) (.int 9) H Q := o_pow ⟨by decide, by decide, by decide⟩ (show Q (.int (10 ^ (9 : Int).toNat)) H from (show (10 : Int) ^ (9 : Int).toNat = 1000000000 from by decide) ▸ q)
theorem o_p18 (q : Q (.int 1000000000000000000) H) : OP X (binaryOp .Pow) (.int 10) (.int 18) H Q := o_pow ⟨by decide, by decide, by decide⟩ (show Q (.int (10 ^ (18 : Int).toNat)) H from (show (10 : Int) ^ (18 : Int).toNat = 1000000000000000000 from by decide) ▸ q)
end
end L2

namespace L2
open PySem PySem.Spec PyProof.Rows

/-! ### f-strings -/
def EJ (X : Cx) (vs : List Expr) (out : Str) (σ : St) (H : Hp) (Q : VK) : Prop :=
  ∀ (pins : List (Addr × Obj)) (s : Shared), Inv X pins σ H s → wpAny (model X.prog X.w) X.A (joinParts out (evalEach vs X.env)) (EP X pins σ Q) X.xe s
section
variable {X : Cx} {σ : St} {H : Hp} {Q : VK} {v v₁ v₂ : Expr} {rest : List Expr} {pos : Pos} {out : Str}
end

/-- a text of bounded length, whatever it is -/
def EJL (X : Cx) (vs : List Expr) (n : Nat) (σ : St) (H : Hp) (R : Hp → Prop) : Prop := ∀ out : Str, out.length ≤ n → ∀ Q : VK, (∀ z H', R H' → Q (.str z) H') → EJ X vs out σ H Q
section
variable {X : Cx} {σ : St} {H : Hp} {Q : VK} {R : Hp → Prop} {v v₁ v₂ : Expr} {rest : List Expr} {pos : Pos} {n : Nat}
end

/-! ### raising -/
abbrev bmV : List Value := [.type "ValueError", .type "Exception", .type "BaseException", .type "object"]
/-- the class that a name of the top stands for -/
def clsA (mg : Str → Option Value) (x : Str) : Addr := match mg x with
  | some (.ref C) => C
  | _ => 0
theorem clsA_eq {mg : Str → Option Value} {x : Str} {C : Addr} (h : mg x = some (.ref C)) : clsA mg x = C := by unfold clsA; rw [h]
/-- a class of refusals under ValueError, without a making of its own -/
structure XCls (K : PySem.W.Frag) (mg : Str → Option Value) (x : Str) : Prop where
  at_ : mg x = some (.ref (clsA mg x))
  ex : PySem.W.excIn K (clsA mg x) bmV "ValueError.__new__" = true
theorem xcls_mk {K : PySem.W.Frag} {mg : Str → Option Value} {x : Str} {C : Addr} (h : mg x = some (.ref C)) (e : PySem.W.excIn K C bmV "ValueError.__new__" = true) : XCls K mg x := by
  have z : clsA mg x = C := by unfold clsA; rw [h]
  exact ⟨by rw [z]; exact h, by rw [z]; exact e⟩
section
variable {X : Cx} {Kx : St → XK} {D : Ends} {σ : St} {H : Hp} {x : Str} {np cpos pos : Pos} {e : Expr} {es : List Expr}
end

/-! ### try -/
/-- code within a try: what becomes of its exceptions, the pins that every state bears -/
abbrev Cx.tri (X : Cx) (F : Value → Shared → Prop) (pn : List (Addr × Obj)) : Cx := { X with xe := F, pn := pn }
/-- code within an except suite -/
abbrev Cx.inEx (X : Cx) (e : Value) (F : Value → Shared → Prop) (pn : List (Addr × Obj)) : Cx := { X with A := X.A.mark (some e), calm := false, xe := F, pn := pn }
section
variable {X : Cx} {pins pins' : List (Addr × Obj)} {σ : St} {H : Hp} {s : Shared} {F : Value → Shared → Prop} {e : Value}
end
/-- the handling of an exception that was noted -/
def EH (X : Cx) (hs : List ExceptHandler) (D : Ends) (σ : St) (cls : Value) (d : Option Addr × Bool) (H : Hp) : Prop :=
  ∀ (pins : List (Addr × Obj)) (s : Shared) (e T : Addr), Inv X pins σ H s → Flies s.heap e cls d (some T) .none → (∀ b ∈ [e, T], H b = none ∧ Ch X pins b) →
    wpAny (model X.prog X.w) X.A (handleBy (.ref e) X.env hs) (SP X pins D) X.xe s
section
variable {X : Cx} {D : Ends} {σ : St} {H : Hp} {h₀ : ExceptHandler} {hs rest : List ExceptHandler} {body orelse suite : List Stmt} {b₀ : Stmt} {pos np : Pos} {x n : Str} {cls c : Value} {d : Option Addr × Bool}
end
end L2

namespace L2
open PySem PySem.Spec PyProof.Rows

/-! ### plain data: lists and tuples of data, at any depth -/
mutual
inductive RD (K : PySem.W.Frag) (H : Hp) : V → PyData → Prop
  | non : RD K H .non .none
  | bl (b : Bool) : RD K H (.bl b) (.bool b)
  | int (i : Int) : RD K H (.int i) (.int i)
  | str (x : Str) : RD K H (.str x) (.str x)
  | lst {a : Addr} {xs : List V} {ds : List PyData} (h : SqL K H a xs) (r : RDs K H xs ds) : RD K H (.ref a) (.list ds)
  | tup {a : Addr} {xs : List V} {ds : List PyData} (h : SqT K H a xs) (r : RDs K H xs ds) : RD K H (.ref a) (.tuple ds)
inductive RDs (K : PySem.W.Frag) (H : Hp) : List V → List PyData → Prop
  | nil : RDs K H [] []
  | cons {x : V} {d : PyData} {xs : List V} {ds : List PyData} (h : RD K H x d) (r : RDs K H xs ds) : RDs K H (x :: xs) (d :: ds)
end
mutual
theorem RD.reads {X : Cx} {pins : List (Addr × Obj)} {σ : St} {H : Hp} {s : Shared} (I : Inv X pins σ H s) : ∀ {v : V} {d : PyData} {u : Value}, RD X.K H v d → RelV v u → ∃ as, Reads s.heap u d as
  | _, _, _, .non, e => by cases (show _ = Value.none from e); exact ⟨_, .none⟩
  | _, _, _, .bl b, e => by cases (show _ = Value.bool b from e); exact ⟨_, .bool b⟩
  | _, _, _, .int i, e => by obtain ⟨t, rfl⟩ := e; exact ⟨_, .int i t⟩
  | _, _, _, .str x, e => by obtain ⟨t, rfl⟩ := e; exact ⟨_, .str x t⟩
  | _, _, _, .lst h r, e => by
    cases (show _ = Value.ref _ from e)
    obtain ⟨its, rv, pl, _⟩ := I.list h
    obtain ⟨as, q⟩ := RDs.reads I r rv
    obtain ⟨o, ho, hc, n, hd⟩ := pl.isList
    exact ⟨_, .list ho hc hd (by simpa using q)⟩
  | _, _, _, .tup h r, e => by
    cases (show _ = Value.ref _ from e)
    obtain ⟨its, rv, tp, _⟩ := I.tuple h
    obtain ⟨as, q⟩ := RDs.reads I r rv
    obtain ⟨o, ho, hc, n, hd⟩ := tp
    exact ⟨_, .tuple ho hc hd (by simpa using q)⟩
theorem RDs.reads {X : Cx} {pins : List (Addr × Obj)} {σ : St} {H : Hp} {s : Shared} (I : Inv X pins σ H s) : ∀ {vs : List V} {ds : List PyData} {us : List Value}, RDs X.K H vs ds → Vals vs us → ∃ as, ReadsAll s.heap us ds as
  | _, _, _, .nil, .nil => ⟨_, .nil⟩
  | _, _, _, .cons h r, .cons e t => by
    obtain ⟨as, q⟩ := RD.reads I h e
    obtain ⟨bs, q2⟩ := RDs.reads I r t
    exact ⟨_, .cons q q2⟩
end
section
variable {X : Cx} {H : Hp} {Q : VK} {x y : V} {d d' : PyData}
/-- == of data -/
theorem o_eqD (hu : X.A.units + 64 < cLine) (hx : RD X.K H x d) (hy : RD X.K H y d') (h1 : d.canLay0 = true) (h2 : d'.canLay0 = true) (hd : d.depth ≤ 60) (q : Q (.bl (PyData.eqv d d')) H) : OP X (compareOp .Eq) x y H Q := by
  refine ⟨fun x y H Q => RD X.K H x d ∧ RD X.K H y d' ∧ Q (.bl (PyData.eqv d d')) H, ?_, hx, hy, q⟩
  intro pins s σ H x y v u Q I rx ry ⟨hx, hy, q⟩
  obtain ⟨as, r1⟩ := RD.reads I hx rx
  obtain ⟨bs, r2⟩ := RD.reads I hy ry
  exact SeqAt.rcAt_reads r1 r2 h1 h2 (by have := Nat.min_le_left d.depth d'.depth; omega) X.prog X.w X.xe _ ⟨.bl _, H, I, rfl, q⟩
theorem o_neD (hu : X.A.units + 64 < cLine) (hx : RD X.K H x d) (hy : RD X.K H y d') (h1 : d.canLay0 = true) (h2 : d'.canLay0 = true) (hd : d.depth ≤ 60) (q : Q (.bl (!PyData.eqv d d')) H) : OP X (compareOp .NotEq) x y H Q := by
  refine ⟨fun x y H Q => RD X.K H x d ∧ RD X.K H y d' ∧ Q (.bl (!PyData.eqv d d')) H, ?_, hx, hy, q⟩
  intro pins s σ H x y v u Q I rx ry ⟨hx, hy, q⟩
  obtain ⟨as, r1⟩ := RD.reads I hx rx
  obtain ⟨bs, r2⟩ := RD.reads I hy ry
  exact SeqAt.rcNeAt_reads r1 r2 h1 h2 (by have := Nat.min_le_left d.depth d'.depth; omega) X.prog X.w X.xe _ ⟨.bl _, H, I, rfl, q⟩
end
end L2

namespace L2
open PySem PySem.Spec PyProof.Rows
/-! ### parts of a text, by places -/
def stAt (l : List Stmt) (i : Nat) : Stmt := l.getD i (.Pass ⟨0, 0, 0, 0⟩)
def inFor (s : Stmt) : List Stmt := match s with
  | .For _ _ b _ _ => b
  | _ => []
def inIf (s : Stmt) : List Stmt := match s with
  | .If _ b _ _ => b
  | _ => []
def inElse (s : Stmt) : List Stmt := match s with
  | .If _ _ b _ => b
  | _ => []
def inTry (s : Stmt) : List Stmt := match s with
  | .Try b _ _ _ _ => b
  | _ => []
/-! ### is None of a value whose kind is known -/
theorem iteY {A B : Prop} (h : B) : if (!decide (V.non = V.non)) = true then A else B := by rw [if_neg (by decide)]; exact h
theorem iteYi {A B : Prop} {i : Int} (h : A) : if (!decide (V.int i = V.non)) = true then A else B := by rw [if_pos (by simp)]; exact h
theorem iteYs {A B : Prop} {i : Str} (h : A) : if (!decide (V.str i = V.non)) = true then A else B := by rw [if_pos (by simp)]; exact h
/-- a text some times -/
def repS (x : Str) (n : Int) : Str := ⟨(List.replicate n.toNat x.cps).foldl (· ++ ·) #[]⟩
theorem o_mulS {X : Cx} {H : Hp} {Q : VK} {z : Str} {n : Int} (h1 : 2 ≤ n) (h2 : n < 1000000) (h3 : 0 < z.length) (h4 : z.length * n.toNat ≤ sizeLine) (q : Q (.str (repS z n)) H) : OP X (binaryOp .Mult) (.str z) (.int n) H Q := by
  refine op_by (r := fun x y H Q => ∃ z n, x = .str z ∧ y = .int n ∧ 2 ≤ n ∧ n < 1000000 ∧ 0 < z.length ∧ z.length * n.toNat ≤ sizeLine ∧ Q (.str (repS z n)) H) ?_ ⟨z, n, rfl, rfl, h1, h2, h3, h4, q⟩
  intro pins s σ H x y v u Q I rx ry h
  obtain ⟨z, n, rfl, rfl, h1, h2, h3, h4, q⟩ := h
  obtain ⟨t, rfl⟩ := rx
  obtain ⟨t', rfl⟩ := ry
  have hsz : sizeLine = 16777216 := sizeLine_eq
  have e1 : (n == 1 || z.length == 0) = false := by
    rw [Bool.or_eq_false_iff, beq_eq_false_iff_ne, beq_eq_false_iff_ne]
    omega
  have hle : z.length ≤ 16777216 := by
    have : z.length * 1 ≤ z.length * n.toNat := Nat.mul_le_mul_left _ (by omega)
    omega
  refine PySem.P.mul_str (by rw [decide_eq_false (by omega), decide_eq_false (by omega)]; rfl) (fun _ _ h5 => ?_) (fun _ _ => ?_) ?_
  · have h6 : (2 ^ 63 - 1) / 1000000 ≤ (2 ^ 63 - 1 : Int) / n := by
      apply Int.le_ediv_of_mul_le (by omega)
      have : (2 ^ 63 - 1 : Int) / 1000000 * n ≤ (2 ^ 63 - 1) / 1000000 * 1000000 := Int.mul_le_mul_of_nonneg_left (by omega) (by decide)
      omega
    omega
  · unfold Builtin.Str.tooLong
    rw [decide_eq_false]
    omega
  · rw [if_neg (by omega), e1]
    exact ⟨by
      have hw : ∀ (k : Nat) (acc : Array Nat), ((List.replicate k z.cps).foldl (· ++ ·) acc).size = acc.size + k * z.cps.size := by
        intro k
        induction k with
        | zero => intro acc; simp
        | succ k ih =>
          intro acc
          rw [List.replicate_succ, List.foldl_cons, ih, Array.size_append, Nat.succ_mul]
          omega
      show ((List.replicate n.toNat z.cps).foldl (· ++ ·) #[]).size ≤ sizeLine
      rw [hw]
      have : z.cps.size = z.length := rfl
      rw [this, Nat.mul_comm]
      simpa using h4, .str (repS z n), H, I.tok _, ⟨_, rfl⟩, q⟩
/-! ### isinstance -/
theorem is_int_int {X : Cx} {H : Hp} {Q : VK} {i : Int} (q : Q (.bl true) H) : CL X (.builtin "isinstance") [V.int i, .ty "int"] H Q := c_isinst (TyOf.int _) (k := true) (by rfl) q
theorem is_int_bool {X : Cx} {H : Hp} {Q : VK} {i : Int} (q : Q (.bl false) H) : CL X (.builtin "isinstance") [V.int i, .ty "bool"] H Q := c_isinst (TyOf.int _) (k := false) (by rfl) q
theorem is_str_int {X : Cx} {H : Hp} {Q : VK} {i : Str} (q : Q (.bl false) H) : CL X (.builtin "isinstance") [V.str i, .ty "int"] H Q := c_isinst (TyOf.str _) (k := false) (by rfl) q
theorem is_NoneType_int {X : Cx} {H : Hp} {Q : VK}  (q : Q (.bl false) H) : CL X (.builtin "isinstance") [V.non, .ty "int"] H Q := c_isinst (TyOf.non) (k := false) (by rfl) q
theorem is_list_list {X : Cx} {H : Hp} {Q : VK} {a : Addr} {xs : List V} (e : H a = some (.lst xs)) (q : Q (.bl true) H) : CL X (.builtin "isinstance") [V.ref a, .ty "list"] H Q := c_isinst (TyOf.lst e) (k := true) (by rfl) q
theorem is_tuple_tuple {X : Cx} {H : Hp} {Q : VK} {a : Addr} {xs : List V} (e : H a = some (.tup xs)) (q : Q (.bl true) H) : CL X (.builtin "isinstance") [V.ref a, .ty "tuple"] H Q := c_isinst (TyOf.tup e) (k := true) (by rfl) q
/-! ### builtins by their names -/
section
variable {X : Cx} {e : Expr} {es : List Expr} {σ : St} {H : Hp} {Q : VK} {pos p : Pos}
theorem cb_len (hg : Gl X "len") (hm : X.mg "len" = none) (he : starEach (e :: es) X.env = (false, eval e X.env) :: starEach es X.env) (hpl : (backTo pos (starEach es X.env)).any (·.1) = false) (h : EA X (e :: es) σ H fun vs H1 => CL X (.builtin "len") vs H1 Q) : EV X (.Call (.Name "len" p) (e :: es) [] pos) σ H Q := ev_callB hg hm PySem.boot_len (by decide) (by decide) he hpl h
theorem cb_isinstance (hg : Gl X "isinstance") (hm : X.mg "isinstance" = none) (he : starEach (e :: es) X.env = (false, eval e X.env) :: starEach es X.env) (hpl : (backTo pos (starEach es X.env)).any (·.1) = false) (h : EA X (e :: es) σ H fun vs H1 => CL X (.builtin "isinstance") vs H1 Q) : EV X (.Call (.Name "isinstance" p) (e :: es) [] pos) σ H Q := ev_callB hg hm PyProof.Rows.boot_isinstance (by decide) (by decide) he hpl h
theorem cb_min (hg : Gl X "min") (hm : X.mg "min" = none) (he : starEach (e :: es) X.env = (false, eval e X.env) :: starEach es X.env) (hpl : (backTo pos (starEach es X.env)).any (·.1) = false) (h : EA X (e :: es) σ H fun vs H1 => CL X (.builtin "min") vs H1 Q) : EV X (.Call (.Name "min" p) (e :: es) [] pos) σ H Q := ev_callB hg hm PyProof.Rows.boot_min (by decide) (by decide) he hpl h
theorem cb_max (hg : Gl X "max") (hm : X.mg "max" = none) (he : starEach (e :: es) X.env = (false, eval e X.env) :: starEach es X.env) (hpl : (backTo pos (starEach es X.env)).any (·.1) = false) (h : EA X (e :: es) σ H fun vs H1 => CL X (.builtin "max") vs H1 Q) : EV X (.Call (.Name "max" p) (e :: es) [] pos) σ H Q := ev_callB hg hm PyProof.Rows.boot_max (by decide) (by decide) he hpl h
theorem ct_list (hg : Gl X "list") (hm : X.mg "list" = none) (he : starEach (e :: es) X.env = (false, eval e X.env) :: starEach es X.env) (hpl : (backTo pos (starEach es X.env)).any (·.1) = false) (h : EA X (e :: es) σ H fun vs H1 => CL X (.type "list") vs H1 Q) : EV X (.Call (.Name "list" p) (e :: es) [] pos) σ H Q := ev_callT hg hm PyProof.Rows.boot_list (by decide) (by decide) he hpl h
theorem ty_list (hg : Gl X "list") (hm : X.mg "list" = none) (q : Q (.ty "list") H) : EV X (.Name "list" pos) σ H Q := ev_ty hg hm PyProof.Rows.boot_list q (by decide) (by decide)
theorem ty_tuple (hg : Gl X "tuple") (hm : X.mg "tuple" = none) (q : Q (.ty "tuple") H) : EV X (.Name "tuple" pos) σ H Q := ev_ty hg hm PyProof.Rows.boot_tuple q (by decide) (by decide)
theorem ty_int (hg : Gl X "int") (hm : X.mg "int" = none) (q : Q (.ty "int") H) : EV X (.Name "int" pos) σ H Q := ev_ty hg hm PyProof.Rows.boot_int q (by decide) (by decide)
theorem ty_bool (hg : Gl X "bool") (hm : X.mg "bool" = none) (q : Q (.ty "bool") H) : EV X (.Name "bool" pos) σ H Q := ev_ty hg hm PyProof.Rows.boot_bool q (by decide) (by decide)
end
end L2

namespace L2
open PySem PySem.Spec PyProof.Rows

/-! ### iterators that tell tuples: enumerate, zip -/
section
variable {X : Cx} {pins : List (Addr × Obj)} {σ : St} {H : Hp} {s : Shared}
/-- some records have turned, and a new tuple is there -/
theorem Inv.turnNew {ch : List Addr} {T : Addr} {xs : List V} {us : List Value} {h' : Heap} {tk : Nat} (I : Inv X pins σ H s) (hf : ∀ b ∈ ch, FpOk X pins H b) (hT : s.heap.objs.size ≤ T)
    (k : ∀ b o, b ∉ ch → s.heap.get? b = some o → h'.get? b = some o) (hz : xs.length ≤ sizeLine) (rv : Vals xs us) (tp : IsTup h' T us.toArray) : Inv X pins σ (upd H T (.tup xs)) { s with heap := h', toks := tk } := by
  have nT := I.hok.fresh hT
  have neT : ∀ b o, s.heap.get? b = some o → b ≠ T := fun b o e z => Nat.lt_irrefl _ (Nat.lt_of_lt_of_le (Heap.lt_size e) (z ▸ hT))
  have nch : ∀ b u, H b = some u → b ∉ ch := fun b u e z => by rw [(hf b z).1] at e; cases e
  refine I.call (g' := s.gens) (d' := s.drawn) (t' := tk) (ch := ch) (h' := h') ⟨fun b o e _ _ hx => k b o hx e, fun b o e _ _ hx => ⟨o.slots, k b o hx e⟩, fun b o e n _ => ?_, fun b o e hx => ⟨o, k b o hx e⟩, fun b ys e => ?_, fun b o u e => ?_, fun b ps e => ⟨#[], ?_⟩⟩ ?_ I.bare
    fun b hb => ⟨(hf b hb).2.2.2.1, (hf b hb).2.1, (hf b hb).2.2.2.2.1, (hf b hb).2.2.2.2.2⟩
  · rw [upd_ne (neT b o e)]; exact n
  · rw [upd_ne (ne_of_none e nT)]; exact e
  · rw [upd_ne (ne_of_none e nT)]; exact e
  · rw [upd_ne (ne_of_none e nT), e]; simp
  · intro b u e
    by_cases hb : b = T
    · subst hb
      rw [upd_same] at e
      cases e
      exact ⟨hz, us, rv, tp⟩
    · rw [upd_ne hb] at e
      refine (I.hok b u e).stay (fun c v hc q => k c v ?_ q) (fun c q => by rw [upd_ne (ne_of_none q nT)]; exact q) fun c ys q => by rw [upd_ne (ne_of_none q nT)]; exact q
      rcases hc with z | z
      · subst z; exact nch c u e
      · exact nch c _ z
end
/-- (0, x), (1, y), .. of the list at l -/
def Ite (K : PySem.W.Frag) (l : Addr) : It :=
  ⟨fun i H => ∃ xs x, SqL K H l xs ∧ xs[i]? = some x, fun i H v H' => ∃ T x, v = .ref T ∧ H T = none ∧ H' = upd H T (.tup [.int i, x]) ∧ ∀ xs, SqL K H l xs → xs[i]? = some x, fun i H => ∃ xs, SqL K H l xs ∧ xs.length ≤ i⟩
theorem turn_enum {P : Program} {w : World} {K : PySem.W.Frag} {elts : List Expr} {k : Nat} {pos : Pos} (l e it : Addr) (hei : e ≠ it) (hle : l ≠ e) (hli : l ≠ it) :
    Turn P w K (.Tuple elts k pos) (Ite K l) [e, it] e (fun i h => (∃ old, IsEnum h e it i old) ∧ h.IsListIter it l i) where
  mem := by simp
  obj := fun i h st b hb => by
    obtain ⟨⟨old, he⟩, o, ho, _, hd⟩ := st
    rcases List.mem_cons.mp hb with z | z
    · subst z; exact ⟨_, he, fun v z => by cases z⟩
    · have z' : b = it := by simpa using z
      subst z'
      exact ⟨o, ho, fun v z => by rw [hd] at z; cases z⟩
  keep := fun i h h' st kk => by
    obtain ⟨⟨old, he⟩, o, ho, r⟩ := st
    exact ⟨⟨old, kk e (by simp) _ he⟩, o, kk it (by simp) _ ho, r⟩
  item := by
    intro X hP hw hK hc i pins s σ H E I hf st hg
    subst hP hw hK
    obtain ⟨⟨old, he⟩, hit⟩ := st
    obtain ⟨xs, x, hS, hx⟩ := hg
    obtain ⟨its, rv, pl, hz⟩ := I.list hS
    have W := WalksT.enumerate (prog := X.prog) (w := X.w) (A := X.A) (I.ok.hd hc) e it l hei hle hli its.toArray
    have hi : i < its.toArray.size := by
      rw [List.size_toArray, ← rv.length]
      exact (List.getElem?_eq_some_iff.mp hx).1
    obtain ⟨u, hu, ru⟩ := rv.get hx
    refine W.item i s _ _ hi ⟨⟨old, he⟩, hit, pl.isList⟩ fun T vals h1 tk hp hT tup mid keep => ⟨.ref T, rfl, ?_⟩
    obtain ⟨t, y, ey, rfl⟩ := hp
    have euy : y = u := by
      have : its[i]? = some y := by simpa using ey
      rw [hu] at this
      exact (Option.some.inj this).symm
    subst euy
    refine W.go elts k pos i T { s with heap := h1, toks := tk } _ _ mid fun h2 st2 keep2 => ?_
    obtain ⟨⟨old2, he2⟩, hit2, _⟩ := st2
    have tup2 : IsTup h2 T [Value.int i t, y].toArray := by
      obtain ⟨o, ho, r⟩ := tup
      exact ⟨o, keep2 T o (W.apart i T h1 mid) ho, r⟩
    refine ⟨.ref T, upd H T (.tup [.int i, x]), I.turnNew (ch := [e, it]) (tk := tk) hf hT (fun b o hb q => keep2 b o hb (keep b o hb q)) (by show 2 ≤ sizeLine; rw [sizeLine_eq]; decide) (.cons ⟨t, rfl⟩ (.cons ru .nil)) tup2, rfl, ?_, ?_, fun b hb => ?_⟩
    · refine ⟨T, x, rfl, I.hok.fresh hT, rfl, fun ys hy => ?_⟩
      rw [← I.list_inj hS hy]
      exact hx
    · exact ⟨⟨old2, by simpa using he2⟩, hit2⟩
    · have : b ≠ T := fun z => by
        obtain ⟨o, ho, _⟩ : ∃ o, s.heap.get? b = some o ∧ True := by
          rcases List.mem_cons.mp hb with z | z
          · subst z; exact ⟨_, he, trivial⟩
          · have z' : b = it := by simpa using z
            subst z'
            obtain ⟨o, ho, _⟩ := hit
            exact ⟨o, ho, trivial⟩
        exact Nat.lt_irrefl _ (Nat.lt_of_lt_of_le (Heap.lt_size ho) (z ▸ hT))
      rw [upd_ne this]
      exact (hf b hb).1
  done := by
    intro X hP hw hK hc i pins s σ H E I hf st hg
    subst hP hw hK
    obtain ⟨⟨old, he⟩, hit⟩ := st
    obtain ⟨xs, hS, hx⟩ := hg
    obtain ⟨its, rv, pl, hz⟩ := I.list hS
    have hn : its.toArray[i]? = none := Array.getElem?_eq_none (by rw [List.size_toArray, ← rv.length]; exact hx)
    refine wpAny_pyNext_enum_end (I.ok.hd hc) he hit pl.isList hn fun h' hk => ⟨rfl, ?_⟩
    obtain ⟨f0, f1, f2, f3, f4, f5⟩ := hf it (by simp)
    exact I.turned (t' := s.toks) (it := it) (fun b o hb q => hk b o hb q) f0 f1 f3 f4 f5
  self := fun A i s Q E st h => by
    obtain ⟨⟨old, he⟩, _⟩ := st
    exact wpAny_pyIter_enum he h
section
variable {X : Cx} {σ : St} {H : Hp} {a b : Expr} {elts : List Expr} {k : Nat} {tp p pos : Pos} {R : It → Hp → Prop}
theorem ei_enum (hg : Gl X "enumerate") (hm : X.mg "enumerate" = none) (hs : starEach [a] X.env = [(false, eval a X.env)])
    (h : EV X a σ H fun v H1 => ∃ l xs, v = .ref l ∧ H1 l = some (.lst xs) ∧ R (Ite X.K l) H1) : EI X (.Tuple elts k tp) (.Call (.Name "enumerate" p) [a] [] pos) σ H R := by
  intro pins s I
  refine Call_ (ld_blt I hg hm boot_enumerate (PyProof.Rows.callWith_type1 (thn (ea_cons (es := []) (QA := fun vs H1 => ∃ l xs, vs = [.ref l] ∧ H1 l = some (.lst xs) ∧ R (Ite X.K l) H1) hs (ev_mono h fun v H1 ⟨l, xs, e, q1, q2⟩ => ea_nil ⟨l, xs, by rw [e], q1, q2⟩) pos pins s I) fun us s1 ⟨vs, H1, I1, r1, l, xs, e, hl, q⟩ => ?_) hs rfl))
  subst e
  obtain ⟨u, rfl, ru⟩ := vals1 r1
  cases (show u = Value.ref l from ru)
  obtain ⟨hz, its, n, rv, ho⟩ := I1.hok l _ hl
  refine call_enumerate_1 ho fun h' he hit hsz hk => ?_
  refine wpAny_pyIter_enum he ?_
  have hlt : l < s1.heap.objs.size := Heap.lt_size ho
  refine ⟨s1.heap.objs.size + 1, [s1.heap.objs.size + 1, s1.heap.objs.size], _, _, H1, rfl, I1.kept (t' := s1.toks) hk, turn_enum l _ _ (Nat.succ_ne_self _) (Nat.ne_of_lt (Nat.lt_succ_of_lt hlt)) (Nat.ne_of_lt hlt), ⟨⟨_, he⟩, hit⟩, fun b hb => ?_, q⟩
  have hb' : b = s1.heap.objs.size + 1 ∨ b = s1.heap.objs.size := by simpa using hb
  rcases hb' with z | z <;> subst z
  · exact I1.fpOk (Nat.le_succ _) (I1.hok.fresh (Nat.le_succ _))
  · exact I1.fpOk (Nat.le_refl _) (I1.hok.fresh (Nat.le_refl _))
end
end L2

namespace L2
open PySem PySem.Spec PyProof.Rows

section
variable {X : Cx} {pins : List (Addr × Obj)} {σ : St} {H : Hp} {s : Shared}
/-- some records have turned -/
theorem Inv.turnAll {ch : List Addr} {h' : Heap} {tk : Nat} (I : Inv X pins σ H s) (hf : ∀ b ∈ ch, FpOk X pins H b) 
    (k : ∀ b o, b ∉ ch → s.heap.get? b = some o → h'.get? b = some o) : Inv X pins σ H { s with heap := h', toks := tk } := by
  have nch : ∀ b u, H b = some u → b ∉ ch := fun b u e z => by rw [(hf b z).1] at e; cases e
  refine I.call (g' := s.gens) (d' := s.drawn) (t' := tk) (ch := ch) (h' := h') ⟨fun b o e _ _ hx => k b o hx e, fun b o e _ _ hx => ⟨o.slots, k b o hx e⟩, fun b o e n _ => n, fun b o e hx => ⟨o, k b o hx e⟩, fun b ys e => e, fun b o u e => e, fun b ps e => ⟨#[], ?_⟩⟩ ?_ I.bare
    fun b hb => ⟨(hf b hb).2.2.2.1, (hf b hb).2.1, (hf b hb).2.2.2.2.1, (hf b hb).2.2.2.2.2⟩
  · rw [e]; simp
  · intro b u e
    refine (I.hok b u e).stay (fun c v hc q => k c v ?_ q) (fun c q => q) fun c ys q => q
    rcases hc with z | z
    · subst z; exact nch c u e
    · exact nch c _ z
end
/-- (x, y) of the lists at l and m -/
def Itz (K : PySem.W.Frag) (l m : Addr) : It :=
  ⟨fun i H => ∃ xs ys x y, SqL K H l xs ∧ SqL K H m ys ∧ xs[i]? = some x ∧ ys[i]? = some y,
   fun i H v H' => ∃ T x y, v = .ref T ∧ H T = none ∧ H' = upd H T (.tup [x, y]) ∧ (∀ xs, SqL K H l xs → xs[i]? = some x) ∧ ∀ ys, SqL K H m ys → ys[i]? = some y,
   fun i H => ∃ xs ys, SqL K H l xs ∧ SqL K H m ys ∧ min xs.length ys.length ≤ i⟩
section
variable {X : Cx} {σ : St} {H : Hp} {a b : Expr} {elts : List Expr} {k : Nat} {tp p pos : Pos} {R : It → Hp → Prop}
end
end L2

namespace L2
open PySem PySem.Spec PyProof.Rows
section
variable {X : Cx} {a e : Expr} {σ : St} {H : Hp} {Q : VK} {D : Ends} {pos p p' : Pos}
/-- a comprehension, by what holds of each element and the heap -/
theorem comp_any {Y : Cx} {tg elt : Expr} {J : It} {E : Addr} {τ0 : St} {Q : Hp → Prop}
    (n : Nat) (hn : n ≤ sizeLine) (Tp : St → Prop) (hT : Tp τ0) (Pi : Nat → V → Hp → Prop) (hE : H E = none)
    (mono : ∀ i v H1 H2 ys, H1 E = some (.lst ys) → (∀ b o, b ≠ E → H1 b = some o → H2 b = some o) → Pi i v H1 → Pi i v H2)
    (go : ∀ i H1, Same H H1 → i < n → J.go i H1) (stop : ∀ H1, Same H H1 → J.stop n H1)
    (step : ∀ i τ x H1 H2, i < n → Tp τ → Same H H1 → (∃ ys, H1 E = some (.lst ys)) → J.yld i H1 x H2 → EG Y tg x τ H2 fun τ2 H3 => EV Y elt τ2 H3 fun v H4 => Tp τ2 ∧ Pi i v H4 ∧ Same H1 H4)
    (fin : ∀ H1 xs, xs.length = n → (∀ i v, xs[i]? = some v → Pi i v H1) → H1 E = some (.lst xs) → Same H H1 → Q H1) : CompT X Y tg elt [] J E τ0 H Q := by
  refine ⟨fun i m τ H1 => m = n - i ∧ i ≤ n ∧ Same H H1 ∧ Tp τ ∧ ∃ xs, H1 E = some (.lst xs) ∧ xs.length = i ∧ ∀ k v, xs[k]? = some v → Pi k v H1, ⟨n, by simp, Nat.zero_le _, Same.upd hE, hT, [], upd_same, rfl, fun k v e => by simp at e⟩, ?_⟩
  rintro i m τ H1 ⟨rfl, hi, s1, hτ, xs, eE, lx, px⟩
  by_cases hlt : i < n
  · refine .inr ⟨go i H1 s1 hlt, fun τ' H' => Same H H' ∧ Tp τ' ∧ ∃ xs, H' E = some (.lst xs) ∧ xs.length = i + 1 ∧ ∀ k v, xs[k]? = some v → Pi k v H', fun τ' H' ⟨a, b, c⟩ => ⟨n - (i + 1), by omega, rfl, hlt, a, b, c⟩, fun x H2 y => ?_⟩
    intro pins s u I r
    refine thn (step i τ x H1 H2 hlt hτ s1 ⟨xs, eE⟩ y pins s u I r) fun _ s' ⟨τ2, H3, I3, q3⟩ => ⟨τ2, H3, I3, eifs_nil ?_⟩
    rw [if_pos rfl]
    refine ev_mono q3 fun v H4 ⟨t2, pv, s2⟩ => ⟨xs, s2 _ _ eE, by omega, ?_⟩
    have mm : ∀ k w', Pi k w' H4 → Pi k w' (upd H4 E (.lst (xs ++ [v]))) := fun k w' q => mono k w' H4 _ xs (s2 _ _ eE) (fun b o hb e => by rw [upd_ne hb]; exact e) q
    refine ⟨fun b o e => ?_, t2, xs ++ [v], upd_same, by simp [lx], fun k u e => ?_⟩
    · rw [upd_ne (ne_of_none e hE)]
      exact s2 _ _ (s1 _ _ e)
    · by_cases hk : k < xs.length
      · rw [List.getElem?_append_left hk] at e
        refine mono k u H1 _ xs eE (fun b o hb e => ?_) (px k u e)
        rw [upd_ne hb]
        exact s2 _ _ e
      · have hk2 : k = i := by
          have := (List.getElem?_eq_some_iff.mp e).1
          rw [List.length_append, List.length_singleton] at this
          omega
        subst hk2
        rw [← lx, List.getElem?_concat_length] at e
        cases e
        exact mm _ _ pv
  · have e : i = n := by omega
    subst e
    exact .inl ⟨stop H1 s1, fin H1 xs lx px eE s1⟩
variable {tg elt iter : Expr} {scope : Scope} {σ' : St}
/-- what is wanted of a comprehension over n items; G: the items -/
def CompW (X : Cx) (N' : List Str) (scope : Scope) (tg elt : Expr) (σ' : St) (H1 : Hp) (Q : VK) (n : Nat) (G : Nat → Hp → V → Hp → Prop) : Prop :=
  ∃ (Tp : St → Prop) (Pi : Addr → Nat → V → Hp → Prop), Tp σ' ∧
    (∀ E i v H2 H3 ys, H2 E = some (.lst ys) → (∀ b o, b ≠ E → H2 b = some o → H3 b = some o) → Pi E i v H2 → Pi E i v H3) ∧
    (∀ (fp : List Addr) (E C : Addr) (s3 : Shared) (H0 : Hp) (i : Nat) (τ : St) (x : V) (H2 H3 : Hp), H1 E = none → i < n → Tp τ → Same H1 H2 → (∃ ys, H2 E = some (.lst ys)) → G i H2 x H3 →
      EG (blk X N' scope (closL scope X.env) C s3 H0 fp) tg x τ H3 fun τ2 H4 => EV (blk X N' scope (closL scope X.env) C s3 H0 fp) elt τ2 H4 fun v H5 => Tp τ2 ∧ Pi E i v H5 ∧ Same H2 H5) ∧
    ∀ (E : Addr) (H2 : Hp) (xs : List V), H1 E = none → xs.length = n → (∀ i v, xs[i]? = some v → Pi E i v H2) → H2 E = some (.lst xs) → Same H1 H2 → Q (.ref E) H2
theorem compW {N' : List Str} {J : It} {n : Nat} {G : Nat → Hp → V → Hp → Prop} (hn : n ≤ sizeLine) (go : ∀ i H2, Same H H2 → i < n → J.go i H2) (stop : ∀ H2, Same H H2 → J.stop n H2)
    (yl : ∀ i H2 x H3, i < n → Same H H2 → J.yld i H2 x H3 → G i H2 x H3) (h : CompW X N' scope tg elt σ' H Q n G) :
    ∀ (fp : List Addr) (D C : Addr) (s3 : Shared), H D = none → CompT X (blk X N' scope (closL scope X.env) C s3 (upd H D (.lst [])) fp) tg elt [] J D σ' H (fun H' => Q (.ref D) H') := by
  intro fp E C s3 hE
  obtain ⟨Tp, Pi, t0, mono, step, fin⟩ := h
  exact comp_any n hn Tp t0 (Pi E) hE (fun i v H1 H2 ys => mono E i v H1 H2 ys) go stop (fun i τ x H1 H2 hi ht hs hy y => step fp E C s3 _ i τ x H1 H2 hE hi ht hs hy (yl i H1 x H2 hi hs y)) fun H1 xs l px eE s => fin E H1 xs hE l px eE s
/-- [elt for tg in a list] -/
theorem ev_compL (N' : List Str) (hσ : capSt N' X.N σ scope = σ') (hc : X.calm = true) (S : CompSc X.env scope) (hs : ∀ x, foldedSetIterable e X.env x = pure x)
    (h : EV X e σ H fun v H1 => ∃ l xs, v = .ref l ∧ SqL X.K H1 l xs ∧ xs.length ≤ sizeLine ∧ CompW X N' scope tg elt σ' H1 Q xs.length fun i H2 x H3 => xs[i]? = some x ∧ H2 = H3) :
    EV X (.ListComp elt [⟨tg, e, [], 0⟩] scope pos) σ H Q := by
  refine ev_comp (N' := N') hc S hs (ei_list (ev_mono h fun v H1 q => ?_))
  obtain ⟨l, xs, rfl, hl, hz, hw⟩ := q
  refine ⟨l, rfl, ⟨xs, hl⟩, ?_⟩
  rw [hσ]
  refine compW hz (fun i H2 s hi => ⟨xs, xs[i], Same.seq s hl, List.getElem?_eq_getElem hi⟩) (fun H2 s => ⟨xs, Same.seq s hl, Nat.le_refl _⟩) (fun i H2 x H3 hi s y => ⟨y.2 xs (Same.seq s hl), y.1.symm⟩) hw
/-- [elt for x in range(a)], the heap may grow -/
theorem ev_compRh (N' : List Str) (hσ : capSt N' X.N σ scope = σ') (hc : X.calm = true) (S : CompSc X.env scope) 
    (hg : Gl X "range") (hm : X.mg "range" = none) (hs : starEach [a] X.env = [(false, eval a X.env)])
    (h : EV X a σ H fun v H1 => ∃ n : Int, v = .int n ∧ -(2 ^ 62) ≤ n ∧ n.toNat ≤ sizeLine ∧ CompW X N' scope tg elt σ' H1 Q n.toNat fun i H2 x H3 => x = .int i ∧ H2 = H3) :
    EV X (.ListComp elt [⟨tg, .Call (.Name "range" p) [a] [] p', [], 0⟩] scope pos) σ H Q := by
  refine ev_comp (N' := N') hc S (by intro _; rfl) (ei_range1 hg hm hs (ea_cons hs (ev_mono h fun v H1 q => ?_)))
  obtain ⟨n, rfl, h1, h2, hw⟩ := q
  have hsz : (sizeLine : Nat) < 2 ^ 62 := by rw [sizeLine_eq]; decide
  refine ea_nil ⟨n, rfl, h1, by omega, ?_⟩
  rw [hσ]
  exact compW h2 (fun i H2 s hi => hi) (fun H2 s => Nat.le_refl _) (fun i H2 x H3 hi s y => ⟨by rw [y.2, Int.zero_add], y.1.symm⟩) hw
/-- for tg in enumerate(a list that stays) -/
theorem sx_forE {elts : List Expr} {k : Nat} {tp : Pos} {body : List Stmt} (hp : PassesOwn (model X.prog X.w) X.A X.env X.xe) (hc : X.calm = true) (hg : Gl X "enumerate") (hm : X.mg "enumerate" = none) (hs : starEach [a] X.env = [(false, eval a X.env)])
    (h : EV X a σ H fun v H1 => ∃ l xs, v = .ref l ∧ H1 l = some (.lst xs) ∧ ∃ Pv : Nat → St → Hp → Prop, Pv 0 σ H1 ∧ (∀ i σ' H', i ≤ xs.length → Pv i σ' H' → SqL X.K H' l xs) ∧
      (∀ i x T σ' H', xs[i]? = some x → Pv i σ' H' → H' T = none → EG X (.Tuple elts k tp) (.ref T) σ' (upd H' T (.tup [.int i, x])) fun σ2 H2 => SXs X body { D with nx := Pv (i + 1), ct := Pv (i + 1), bk := D.nx } σ2 H2) ∧ ∀ σ' H', Pv xs.length σ' H' → D.nx σ' H') :
    SX X (.For (.Tuple elts k tp) (.Call (.Name "enumerate" p) [a] [] p') body [] pos) D σ H := by
  refine sx_for hp hc (by intro _; rfl) (ei_enum hg hm hs (ev_mono h fun v H1 q => ?_))
  obtain ⟨l, xs, rfl, hq, Pv, h0, hl, hst, hd⟩ := q
  refine ⟨l, xs, rfl, hq, fun i m σ H => m = xs.length - i ∧ i ≤ xs.length ∧ Pv i σ H, ⟨xs.length, by simp, Nat.zero_le _, h0⟩, ?_⟩
  rintro i m σ' H' ⟨rfl, hi, p⟩
  have hS := hl i σ' H' hi p
  by_cases hlt : i < xs.length
  · refine .inr ⟨⟨xs, xs[i], hS, List.getElem?_eq_getElem hlt⟩, Pv (i + 1), fun σ2 H2 p2 => ⟨xs.length - (i + 1), by omega, rfl, hlt, p2⟩, fun x H2 y => ?_⟩
    obtain ⟨T, u, e1, e2, e3, e4⟩ := y
    subst e1 e3
    exact hst i u T σ' H' (e4 xs hS) p e2
  · have e : i = xs.length := by omega
    subst e
    exact .inl ⟨⟨xs, hS, Nat.le_refl _⟩, hd σ' H' p⟩
end
end L2

namespace L2
open PySem PySem.Spec PyProof.Rows
/-! ### set(list) of keys of any kind, and its size -/
section
variable {Kt : Type} [DecidableEq Kt] [BEq Kt] [LawfulBEq Kt]
/-- those met first, in order -/
def seenL (ks : List Kt) : List Kt := ks.foldl (fun a k => if k ∈ a then a else a ++ [k]) []
end
section
variable {prog : Program} {w : World} {A : Around} {E : Value → Shared → Prop} {s : Shared} {zs : List Str} {us : Array Value}
def strAt (us : Array Value) (zs : List Str) : Prop := ∀ (i : Nat) (v : Value), us[i]? = some v → ∃ t z, v = .str z t ∧ zs[i]? = some z
/-- what stands in the set after i of the texts -/
def TxS (prog : Program) (w : World) (h : Heap) (S : Addr) (zs : List Str) : Prop := h.SetOf (strKind prog w) S (fun k => decide (k ∈ seenL zs)) (seenL zs).length
abbrev newSet (h : Heap) (led : Bool) : Heap := h.push { cls := .type "set", dict := none, data := .set #[] 0 (.fresh 0 0 led) }
end
end L2

namespace L2
open PySem PySem.Spec PyProof.Rows
section
variable {X : Cx} {H : Hp} {Q : VK} {v : V}
/-- a set of texts at S -/
def txSet (X : Cx) (S : Addr) (zs : List Str) : HO := .ext fun h => TxS X.prog X.w h S zs
theorem o_inT {x : V} {p : Addr} {xs : List V} (h : SqT X.K H p xs) (f : flatV x = true) (fs : xs.all flatV = true) (q : Q (.bl (inV x xs)) H) : OP X (compareOp .In) x (.ref p) H Q := op_by op_in_seq ⟨p, xs, rfl, .inr h, f, fs, q⟩
end
section
variable {X : Cx} {H : Hp} {D : Ends} {σ σ' : St} {e a elt tg : Expr} {scope : Scope} {pos spos py p p' : Pos} {y : Str} {j : Nat}
/-- y = [elt for tg in a list] -/
theorem sx_compL (N' : List Str) (hσ : capSt N' X.N σ scope = σ') (hsw : swapsWith (.ListComp elt [⟨tg, e, [], 0⟩] scope pos) (some (.Name y py)) spos.line X.env = pure true) (hc : X.calm = true) (S : CompSc X.env scope) (hs : ∀ x, foldedSetIterable e X.env x = pure x)
    (hN : X.N.Nodup) (hi : nameAt X.N y = some j) (hx : X.env.scope.names.lookup y = some .local)
    (h : EV X e σ H fun v H1 => ∃ l xs, v = .ref l ∧ SqL X.K H1 l xs ∧ xs.length ≤ sizeLine ∧ CompW X N' scope tg elt σ' H1 (fun v H' => D.nx (σ.set j (some v)) H') xs.length fun i H2 x H3 => xs[i]? = some x ∧ H2 = H3) :
    SX X (.Assign [.Name y py] (.ListComp elt [⟨tg, e, [], 0⟩] scope pos) spos) D σ H := by
  refine sx_comp (N' := N') hsw hc S hs hN hi hx (ei_list (ev_mono h fun v H1 q => ?_))
  obtain ⟨l, xs, rfl, hl, hz, hw⟩ := q
  refine ⟨l, rfl, ⟨xs, hl⟩, ?_⟩
  rw [hσ]
  refine compW (J := Itl X.K l) hz (fun i H2 s hi => ⟨xs, xs[i], Same.seq s hl, List.getElem?_eq_getElem hi⟩) (fun H2 s => ⟨xs, Same.seq s hl, Nat.le_refl _⟩) (fun i H2 x H3 hi s y => ⟨y.2 xs (Same.seq s hl), y.1.symm⟩) hw
/-- y = [elt for tg in range(a)] -/
theorem sx_compRh (N' : List Str) (hσ : capSt N' X.N σ scope = σ') (hsw : swapsWith (.ListComp elt [⟨tg, .Call (.Name "range" p) [a] [] p', [], 0⟩] scope pos) (some (.Name y py)) spos.line X.env = pure true) (hc : X.calm = true) (S : CompSc X.env scope)
    (hN : X.N.Nodup) (hi : nameAt X.N y = some j) (hx : X.env.scope.names.lookup y = some .local) (hg : Gl X "range") (hm : X.mg "range" = none) (hs : starEach [a] X.env = [(false, eval a X.env)])
    (h : EV X a σ H fun v H1 => ∃ n : Int, v = .int n ∧ -(2 ^ 62) ≤ n ∧ n.toNat ≤ sizeLine ∧ CompW X N' scope tg elt σ' H1 (fun v H' => D.nx (σ.set j (some v)) H') n.toNat fun i H2 x H3 => x = .int i ∧ H2 = H3) :
    SX X (.Assign [.Name y py] (.ListComp elt [⟨tg, .Call (.Name "range" p) [a] [] p', [], 0⟩] scope pos) spos) D σ H := by
  refine sx_comp (N' := N') hsw hc S (by intro _; rfl) hN hi hx (ei_range1 hg hm hs (ea_cons hs (ev_mono h fun v H1 q => ?_)))
  obtain ⟨n, rfl, h1, h2, hw⟩ := q
  have hsz : (sizeLine : Nat) < 2 ^ 62 := by rw [sizeLine_eq]; decide
  refine ea_nil ⟨n, rfl, h1, by omega, ?_⟩
  rw [hσ]
  exact compW h2 (fun i H2 s hi => hi) (fun H2 s => Nat.le_refl _) (fun i H2 x H3 hi s y => ⟨by rw [y.2, Int.zero_add], y.1.symm⟩) hw
end
end L2

namespace L2
open PySem PySem.Spec PyProof.Rows
/-! ### texts cut at a sign -/
def cutAt (c : Nat) : List Nat → List (List Nat)
  | [] => [[]]
  | x :: r => if x = c then [] :: cutAt c r else match cutAt c r with
    | [] => [[x]]
    | h :: t => (x :: h) :: t
def glueL (c : Nat) : List (List Nat) → List Nat
  | [] => []
  | [p] => p
  | p :: q :: r => p ++ c :: glueL c (q :: r)
def cutT (c : Nat) (x : Str) : List Str := (cutAt c x.cps.toList).map fun l => ⟨l.toArray⟩
section
variable {X : Cx} {H : Hp} {Q : VK} {z y : Str} {v : V}
end
/-! ### a list from its end -/
def Itv (K : PySem.W.Frag) (l : Addr) (n : Nat) : It :=
  ⟨fun i H => i < n ∧ ∃ xs, SqL K H l xs ∧ xs.length = n, fun i H x H' => H' = H ∧ ∀ xs, SqL K H l xs → xs[n - 1 - i]? = some x, fun i _ => i = n⟩
section
variable {X : Cx} {σ : St} {H : Hp} {a : Expr} {tg : Expr} {p pos p' : Pos} {R : It → Hp → Prop} {D : Ends}
end
end L2

/-! comprehensions whose elements may raise -/
namespace L2
open PySem PySem.Spec PyProof.Rows
/-- what is due behind a comprehension's block, by its own env -/
def compDue (M : Model) (A : Around) (E : Value → Shared → Prop) (use : Option (Value → Sem Unit)) (Q : Value → Shared → Prop) (acc : Value) (C : Env) (r : Result) (s' : Shared) : Prop :=
  match r, use with
  | .ok _, none => ∃ m, s'.heap.Ns C.locals m ∧ ∀ h', Heap.SameBut C.locals s'.heap h' → Q acc { s' with heap := h' }
  | .ok _, some u => wpAny M A (u acc) (fun _ s'' => ∃ m, s''.heap.Ns C.locals m ∧ ∀ h', Heap.SameBut C.locals s''.heap h' → Q .none { s'' with heap := h' }) E s'
  | .error x, _ => ∃ m, s'.heap.Ns C.locals m ∧ ∀ h', Heap.SameBut C.locals s'.heap h' → wpAny M A (passOn "comprehension.variables-let-go" x C : Sem Value) (fun _ _ => False) E { s' with heap := h' }
/-- the block, F: what becomes of what is raised in it -/
abbrev blkF (X : Cx) (N' : List Str) (scope : Scope) (cl : List (Str × Addr)) (C : Addr) (s : Shared) (H : Hp) (fp : List Addr) (F : Value → Shared → Prop) : Cx := (blk X N' scope cl C s H fp).tri F []
section
variable {X : Cx} {pins : List (Addr × Obj)} {σ : St} {H : Hp} {s : Shared} {scope : Scope} {N' : List Str} {fp : List Addr} {elt iter tg : Expr} {ifs : List Expr} {pos : Pos} {Kx : St → XK}
end
section
variable {X : Cx} {a e : Expr} {σ σ' : St} {H : Hp} {Q : VK} {D : Ends} {pos spos py p p' : Pos} {tg elt iter : Expr} {scope : Scope} {Kx : St → XK} {y : Str} {j : Nat}
/-- what is wanted of a comprehension over n items, G: the items; its elements may raise as Kx allows -/
def CompX (X : Cx) (N' : List Str) (scope : Scope) (tg elt : Expr) (σ σ' : St) (Kx : St → XK) (H1 : Hp) (Q : VK) (n : Nat) (G : Nat → Hp → V → Hp → Prop) : Prop :=
  ∃ (Tp : St → Prop) (Pi : Addr → Nat → V → Hp → Prop), Tp σ' ∧
    (∀ E i v H2 H3 ys, H2 E = some (.lst ys) → (∀ b o, b ≠ E → H2 b = some o → H3 b = some o) → Pi E i v H2 → Pi E i v H3) ∧
    (∀ (fp : List Addr) (E C : Addr) (s3 : Shared) (H0 : Hp) (F : Value → Shared → Prop) (i : Nat) (τ : St) (x : V) (H2 H3 : Hp), XOk (blkF X N' scope (closL scope X.env) C s3 H0 fp F) (fun _ => Kx σ) → H1 E = none → i < n → Tp τ → Same H1 H2 → (∃ ys, H2 E = some (.lst ys) ∧ ys.length = i ∧ ∀ k v, ys[k]? = some v → Pi E k v H2) → G i H2 x H3 →
      EG (blkF X N' scope (closL scope X.env) C s3 H0 fp F) tg x τ H3 fun τ2 H4 => EV (blkF X N' scope (closL scope X.env) C s3 H0 fp F) elt τ2 H4 fun v H5 => Tp τ2 ∧ Pi E i v H5 ∧ Same H2 H5) ∧
    ∀ (E : Addr) (H2 : Hp) (xs : List V), H1 E = none → xs.length = n → (∀ i v, xs[i]? = some v → Pi E i v H2) → H2 E = some (.lst xs) → Same H1 H2 → Q (.ref E) H2
end
end L2

/-! exceptions with a making of their own: self.f = v, e.f -/
namespace L2
open PySem PySem.Spec PyProof.Rows
/-- a class straight under L, which is straight under ValueError; its instances have dicts -/
def xcIn (K : PySem.W.Frag) (C L : Addr) : Bool := (PySem.W.clsIn K C).any fun cd => cd.hasDict && cd.mro == .ref C :: .ref L :: bmV
section
variable {prog : Program} {w : World} {A : Around} {E : Value → Shared → Prop} {s : Shared} {K : PySem.W.Frag} {x C L : Addr} {ox : Obj} {vs : Array Value} {name : Str} {v : Value}
end
/-- C is a class of exceptions under ValueError whose making is the def at f -/
def iniIn (K : PySem.W.Frag) (C f : Addr) : Bool := match K.lookup C with
  | some ⟨.type "type", _, .cls cd, sl⟩ => (match cd.mro, sl.toList with
    | .ref C' :: bm, [_, _, _, _, some (.builtin n), _] => C' == C && n == "ValueError.__new__" && !cd.hasDel && PySem.W.tailIn K bmV bm && PySem.W.nsOkIn K cd.ns && PySem.W.nsIn K cd.ns "__init__" == some (some (.ref f))
    | _, _ => false)
  | _ => false
section
variable {prog : Program} {w : World} {A : Around} {E : Value → Shared → Prop} {h : Heap} {g : Array GenState} {d : Drawn} {t : Nat} {os : OsState}
variable {nm q : Str} {C N x : Addr} {bs bm : List Value} {hdct : Bool} {sn : List Str} {sub : List Value} {ab : Bool} {col : Option Bool} {dd : Option Addr} {k0 k1 k2 k3 k5 : Option Value} {ox : Obj} {vs : Array Value} {v : Value}
end
section
variable {prog : Program} {w : World} {A : Around} {E : Value → Shared → Prop} {s : Shared} {env : Env}
variable {nm q : Str} {C N : Addr} {bs bm : List Value} {hdct : Bool} {sn : List Str} {sub : List Value} {ab : Bool} {col : Option Bool} {dd : Option Addr} {k0 k1 k2 k3 k5 : Option Value}
end
end L2

namespace L2
open PySem PySem.Spec PyProof.Rows
/-- an exception's object, not yet raised -/
def xo (e C : Addr) (D : Option Addr) : HO := .ext fun h => ∃ t, h.get? e = some { cls := .ref C, dict := D, data := .fields #[.ref t, .none, .none, .none, .bool false, .none] }
/-- H without what is at e -/
def dropH (H : Hp) (e : Addr) : Hp := fun b => if b = e then none else H b
section
variable {X : Cx} {pins : List (Addr × Obj)} {σ : St} {H : Hp} {s : Shared} {e : Addr} {φ : Heap → Prop}
end
/-- what LeafError must be -/
structure XBase (K : PySem.W.Frag) (mg : Str → Option Value) (x : Str) : Prop where
  at_ : mg x = some (.ref (clsA mg x))
  reads : PySem.W.readsIn K (clsA mg x) (.type "type") = true
  ini : PySem.W.findCls K (.ref (clsA mg x)) (.type "type") "__init__" = some (.val (.builtin "ValueError.__init__"))
  ga : PySem.W.specialIn K (.ref (clsA mg x)) "__getattribute__" = some (some (.builtin "type.__getattribute__"))
/-- a class of exceptions under the base Lx whose making is the def st, with the field fld -/
structure XIni (K : PySem.W.Frag) (mg : Str → Option Value) (Lx x qual fld : Str) (st : Stmt) : Prop where
  at_ : mg x = some (.ref (clsA mg x))
  ex : ∃ f fd, Fun K "__init__" qual st f fd ∧ iniIn K (clsA mg x) f = true ∧ PySem.W.isFn K (.ref f) = true
  sa : PySem.W.findIn K (.ref (clsA mg x)) "__setattr__" = some (some (.builtin "object.__setattr__"))
  tk : PySem.W.takerIn K (clsA mg x) fld = some none
  xc : xcIn K (clsA mg x) (clsA mg Lx) = true
/-- the making's promise -/
def spIni (C : Addr) (fld : Str) : Sp := fun vs H Q _ => ∃ e n, vs = [.ref e, .int n] ∧ n.natAbs < 10 ^ 60 ∧ H e = some (xo e C none) ∧
  ∀ D H', D ≠ e → H D = none → (∀ b o, b ≠ e → H b = some o → H' b = some o) → H' e = some (xo e C (some D)) → H' D = some (.xd [(fld, .int n)]) → Q .non H'
section
variable {X : Cx} {σ : St} {H : Hp} {Q : VK} {D : Ends} {Lx x f fld : Str} {np apos pos pos' cpos : Pos} {a o value : Expr} {es : List Expr} {Kx : St → XK}
end
end L2

namespace L2
open PySem PySem.Spec PyProof.Rows
/-- a class of exceptions with a making of its own, as a promise -/
structure XDef (P : Program) (w : World) (K : PySem.W.Frag) (mg : Str → Option Value) (base : Heap) (cc : Bool) (k : Nat) (x fld : Str) : Prop where
  at_ : mg x = some (.ref (clsA mg x))
  ex : ∃ f fd ps oc od osl, FnOk P w K mg base (CX1 P w) cc k f fd ps (spIni (clsA mg x) fld) ∧ Binds K fd ps [] ∧ iniIn K (clsA mg x) f = true ∧ K.lookup f = some ⟨oc, od, .func fd, osl⟩ ∧ oc = .type "function"
section
variable {prog : Program} {w : World} {A : Around} {E : Value → Shared → Prop} {s : Shared} {env : Env}
variable {nm q : Str} {C N : Addr} {bs bm : List Value} {hdct : Bool} {sn : List Str} {sub : List Value} {ab : Bool} {col : Option Bool} {dd : Option Addr} {k0 k1 k2 k3 k5 : Option Value}
end
section
variable {X : Cx} {Kx : St → XK} {D : Ends} {σ : St} {H : Hp} {x fld : Str} {np cpos pos : Pos} {e : Expr} {es : List Expr} {cc cc' : Bool} {k k' : Nat}
end
end L2

/-! an exception at hand: its fields, isinstance of it -/
namespace L2
open PySem PySem.Spec PyProof.Rows
/-- what is looked up at an exception's class -/
structure XAttr (K : PySem.W.Frag) (C : Addr) : Prop where
  hd : PySem.W.hasDictIn K C = true
  ga : PySem.W.findIn K (.ref C) "__getattribute__" = some (some (.builtin "BaseException.__getattribute__"))
  gt : PySem.W.findIn K (.ref C) "__getattr__" = some none
  cl : PySem.W.findIn K (.ref C) "__class__" = some (some (.builtin "object.__class__"))
  cg : PySem.W.specialIn K (.builtin "object.__class__") "__get__" = some (some (.builtin "getset_descriptor.__get__"))
  ct : PySem.W.takesIn K (.builtin "object.__class__") = some true
  mo : PySem.W.mroIn K C (.type "object") = some true
  mb : PySem.W.mroIn K C (.type "BaseException") = some true
section
variable {prog : Program} {w : World} {A : Around} {E : Value → Shared → Prop} {s : Shared} {K : PySem.W.Frag} {x C : Addr} {ox : Obj} {od : Option Obj} {name : Str} {v : Value}
end
/-- an exception's object at a handler -/
def xw (e C : Addr) (D : Option Addr) : HO := .ext fun h => ∃ oe vs, h.get? e = some oe ∧ oe.cls = .ref C ∧ oe.dict = D ∧ oe.data = .fields vs
section
variable {X : Cx} {σ : St} {H : Hp} {Q : VK} {e C : Addr} {D : Option Addr} {k : Bool}
end
end L2

/-! except .. as e -/
namespace L2
open PySem PySem.Spec PyProof.Rows
section
variable {X : Cx} {pins : List (Addr × Obj)} {σ : St} {H : Hp} {s : Shared} {h' : Heap}
end
section
variable {X : Cx} {D : Ends} {σ : St} {H : Hp} {rest : List ExceptHandler} {suite : List Stmt} {b₀ : Stmt} {pos np : Pos} {x n : Str} {c : Value} {C : Addr} {d : Option Addr × Bool} {i : Nat}
/-- behind the suite: the name is gone, the exception let go -/
abbrev asEnds (D : Ends) (i : Nat) (e C : Addr) (dd : Option Addr) : Ends :=
  { nx := fun σ' H' => H' e = some (xw e C dd) ∧ D.nx (σ'.set i none) (dropH H' e), rt := fun v H' => H' e = some (xw e C dd) ∧ D.rt v (dropH H' e),
    bk := fun σ' H' => H' e = some (xw e C dd) ∧ D.bk (σ'.set i none) (dropH H' e), ct := fun σ' H' => H' e = some (xw e C dd) ∧ D.ct (σ'.set i none) (dropH H' e) }
end
end L2

/-! the classes of refusals: which stands under which -/
namespace L2
open PySem PySem.Spec PyProof.Rows
/-- the base of all refusals -/
structure XTop (K : PySem.W.Frag) (mg : Str → Option Value) (x : Str) : Prop extends XBase K mg x where
  ty : PySem.W.typeIn K (.ref (clsA mg x)) = some (.type "type")
  mb : PySem.W.mroIn K (clsA mg x) (.type "BaseException") = some true
/-- a refusal's class straight under the base -/
structure XC (K : PySem.W.Frag) (mg : Str → Option Value) (Lx x : Str) : Prop where
  at_ : mg x = some (.ref (clsA mg x))
  xc : xcIn K (clsA mg x) (clsA mg Lx) = true
  ty : PySem.W.typeIn K (.ref (clsA mg x)) = some (.type "type")
  attr : XAttr K (clsA mg x)
section
variable {K : PySem.W.Frag} {mg : Str → Option Value} {Lx x y : Str}
end
end L2
namespace L2
open PySem PySem.Spec PyProof.Rows
section
variable {K : PySem.W.Frag} {mg : Str → Option Value} {Lx x qual fld : Str} {C L f : Addr} {st : Stmt} {fd : FuncData}
end
end L2
namespace L2
open PySem PySem.Spec PyProof.Rows
end L2

/-! zip of three lists -/
namespace L2
open PySem PySem.Spec PyProof.Rows
abbrev IsTri (h : Heap) (T : Addr) (a b c : Value) : Prop := h.get? T = some { cls := .type "tuple", data := .seq #[a, b, c] }
theorem adne {a b : Addr} (h : @Ne Nat a b) : a ≠ b := h
theorem typeCall_zip_3 (a b c : Value) : checkTypeCall "zip" ⟨[a, b, c], []⟩ = pure () := by kernel_rfl
theorem newCall_zip_3 (a b c : Value) : checkBuiltinCall "zip.__new__" ⟨[.type "zip", a, b, c], []⟩ = pure () := by kernel_rfl
theorem args_object_init_4 (a b c d : Value) : argsOk "object.__init__" ⟨[a, b, c, d], []⟩ := by
  unfold argsOk; rw [signature?_of (id := "object.__init__") (n := ['_', '_', 't', 'i', 'n', 'i', '_', '_']) (o := ['t', 'c', 'e', 'j', 'b', 'o']) (by kernel_rfl) F.owner_object]; kernel_rfl
section
variable {prog : Program} {w : World} {A : Around} {E : Value → Shared → Prop} {s : Shared}
theorem updTri {T : Addr} {a b c x : Value} {k : Nat} {Q : Unit → Shared → Prop} (hT : IsTri s.heap T a b c)
    (h : ∀ h', h'.get? T = some { cls := .type "tuple", data := .seq ((#[a, b, c] : Array Value).setIfInBounds k x) } → Heap.SameBut T s.heap h' → Q () { s with heap := h' }) :
    wpAny (model prog w) A (updateSeq T (·.setIfInBounds k x)) Q E s := by
  refine wpAny_updateSeq hT rfl (h _ ?_ (Heap.SameBut.update ..))
  rw [Heap.get?_update_self _ hT rfl]
  simp [Obj.mapSeq]
theorem zip3_item {n l1 l2 l3 : Nat} {k : Nat} {xs ys zs : Array Value} {x y u a b c : Value} {Q : Value → Shared → Prop} (g1 : l1 < n) (g2 : l2 < n) (g3 : l3 < n)
    (hz : IsZip s.heap (n + 5) (n + 3) (n + 4) .none) (hTI : IsTri s.heap (n + 3) (.ref n) (.ref (n + 1)) (.ref (n + 2))) (hTO : IsTri s.heap (n + 4) a b c)
    (h1 : s.heap.IsListIter n l1 k) (h2 : s.heap.IsListIter (n + 1) l2 k) (h3 : s.heap.IsListIter (n + 2) l3 k) (hl1 : s.heap.IsList l1 xs) (hl2 : s.heap.IsList l2 ys) (hl3 : s.heap.IsList l3 zs) (hx : xs[k]? = some x) (hy : ys[k]? = some y) (hu : zs[k]? = some u)
    (hQ : ∀ h', IsZip h' (n + 5) (n + 3) (n + 4) (rawInt s.heap.objs.size) → IsTri h' (n + 4) x y u → h'.IsListIter n l1 (k + 1) → h'.IsListIter (n + 1) l2 (k + 1) → h'.IsListIter (n + 2) l3 (k + 1) → IsTri h' s.heap.objs.size x y u →
      (∀ c o, c ≠ n + 5 → c ≠ n + 4 → c ≠ n → c ≠ n + 1 → c ≠ n + 2 → s.heap.get? c = some o → h'.get? c = some o) → Q (.ref s.heap.objs.size) { s with heap := h' }) :
    wpAny (model prog w) A (Builtin.«zip.__next__» ⟨[.ref (n + 5)], []⟩) (fun fin s' => ∃ v, fin = .done (.ret v) ∧ Q v s') E s := by
  have e50 : n + 5 ≠ n := adne (by omega)
  have e51 : n + 5 ≠ n + 1 := adne (by omega)
  have e52 : n + 5 ≠ n + 2 := adne (by omega)
  have e54 : n + 5 ≠ n + 4 := adne (by omega)
  have e40 : n + 4 ≠ n := adne (by omega)
  have e41 : n + 4 ≠ n + 1 := adne (by omega)
  have e42 : n + 4 ≠ n + 2 := adne (by omega)
  have e10 : n + 1 ≠ n := adne (by omega)
  have e20 : n + 2 ≠ n := adne (by omega)
  have e21 : n + 2 ≠ n + 1 := adne (by omega)
  have lz : ∀ {l : Nat}, l < n → l ≠ n + 5 ∧ l ≠ n + 4 ∧ l ≠ n ∧ l ≠ n + 1 ∧ l ≠ n + 2 := fun h => ⟨adne (by omega), adne (by omega), adne (by omega), adne (by omega), adne (by omega)⟩
  obtain ⟨p1, p2, p3, p4, p5⟩ := lz g1
  obtain ⟨q1, q2, q3, q4, q5⟩ := lz g2
  obtain ⟨r1, r2, r3, r4, r5⟩ := lz g3
  show wpAny _ _ (field (.ref (n + 5)) 2 >>= _) _ _ _
  refine wpAny_bind (wpAny_field hz rfl (x := .bool false) rfl ?_)
  show wpAny _ _ (field (.ref (n + 5)) 3 >>= _) _ _ _
  refine wpAny_bind (wpAny_field hz rfl (x := .ref (n + 3)) rfl ?_)
  refine wpAny_bind (wpAny_seqItems hTI rfl ?_)
  show wpAny _ _ (Builtin.SmallTypes.ownedTupleIsFree (.ref (n + 5)) >>= _) _ _ _
  refine wpAny_bind ?_
  unfold Builtin.SmallTypes.ownedTupleIsFree
  refine wpAny_bind (wpAny_field hz rfl (x := .none) rfl (wpAny_pure ?_))
  simp only [if_true]
  refine wpAny_bind (wpAny_rule ?_)
  refine wpAny_bind (wpAny_field hz rfl (x := .ref (n + 4)) rfl ?_)
  refine wpAny_bind (wpAny_setField_rec hz (by simp) fun m1 hz1 s1 => ?_)
  replace hz1 : IsZip m1 (n + 5) (n + 3) (n + 4) .ellipsis := hz1
  refine wpAny_bind ?_
  simp only [List.zipIdx_cons, List.zipIdx_nil, List.forIn_cons, List.forIn_nil]
  refine wpAny_bind (wpAny_bind (wpAny_onRaise ?_))
  show wpAny _ _ (Builtin.SmallTypes.nextOf (.ref n) >>= _) _ _ _
  refine wpAny_bind (wpAny_nextOf_list_item (h1.extBut s1.extBut e50.symm) (hl1.extBut s1.extBut p1) hx fun m2 h1a s2 => wpAny_pure ?_)
  have t2 : IsTri m2 (n + 4) a b c := s2.extBut _ _ e40 (s1.extBut _ _ e54.symm hTO)
  refine wpAny_bind (wpAny_seqItems t2 rfl ?_)
  refine wpAny_bind (updTri t2 fun m3 t3 s3 => ?_)
  replace t3 : IsTri m3 (n + 4) x b c := t3
  refine wpAny_bind (wpAny_letGo (wpAny_pure ?_))
  refine wpAny_bind (wpAny_bind (wpAny_onRaise ?_))
  show wpAny _ _ (Builtin.SmallTypes.nextOf (.ref (n + 1)) >>= _) _ _ _
  refine wpAny_bind (wpAny_nextOf_list_item (((h2.extBut s1.extBut e51.symm).extBut s2.extBut e10).extBut s3.extBut e41.symm) (((hl2.extBut s1.extBut q1).extBut s2.extBut q3).extBut s3.extBut q2) hy fun m4 h2a s4 => wpAny_pure ?_)
  have t4 : IsTri m4 (n + 4) x b c := s4.extBut _ _ e41 t3
  refine wpAny_bind (wpAny_seqItems t4 rfl ?_)
  refine wpAny_bind (updTri t4 fun m5 t5 s5 => ?_)
  replace t5 : IsTri m5 (n + 4) x y c := t5
  refine wpAny_bind (wpAny_letGo (wpAny_pure ?_))
  refine wpAny_bind (wpAny_bind (wpAny_onRaise ?_))
  show wpAny _ _ (Builtin.SmallTypes.nextOf (.ref (n + 2)) >>= _) _ _ _
  refine wpAny_bind (wpAny_nextOf_list_item (((((h3.extBut s1.extBut e52.symm).extBut s2.extBut e20).extBut s3.extBut e42.symm).extBut s4.extBut e21).extBut s5.extBut e42.symm) (((((hl3.extBut s1.extBut r1).extBut s2.extBut r3).extBut s3.extBut r2).extBut s4.extBut r4).extBut s5.extBut r2) hu fun m6 h3a s6 => wpAny_pure ?_)
  have t6 : IsTri m6 (n + 4) x y c := s6.extBut _ _ e42 t5
  refine wpAny_bind (wpAny_seqItems t6 rfl ?_)
  refine wpAny_bind (updTri t6 fun m7 t7 s7 => ?_)
  replace t7 : IsTri m7 (n + 4) x y u := t7
  refine wpAny_bind (wpAny_letGo (wpAny_pure (wpAny_pure ?_)))
  refine wpAny_bind (wpAny_seqItems t7 rfl ?_)
  refine wpAny_bind (wpAny_newTuple ?_)
  have hsz : m7.objs.size = s.heap.objs.size := by rw [s7.1, s6.1, s5.1, s4.1, s3.1, s2.1, s1.1]
  have hz7 : IsZip m7 (n + 5) (n + 3) (n + 4) .ellipsis := s7.extBut _ _ e54 (s6.extBut _ _ e52 (s5.extBut _ _ e54 (s4.extBut _ _ e51 (s3.extBut _ _ e54 (s2.extBut _ _ e50 hz1)))))
  have hk7 : ∀ c o, c ≠ n + 5 → c ≠ n + 4 → c ≠ n → c ≠ n + 1 → c ≠ n + 2 → s.heap.get? c = some o → m7.get? c = some o := fun c o c1 c2 c3 c4 c5 e =>
    s7.extBut _ _ c2 (s6.extBut _ _ c5 (s5.extBut _ _ c2 (s4.extBut _ _ c4 (s3.extBut _ _ c2 (s2.extBut _ _ c3 (s1.extBut _ _ c1 e))))))
  have i1 : m7.IsListIter n l1 (k + 1) := ((((h1a.extBut s3.extBut e40.symm).extBut s4.extBut e10.symm).extBut s5.extBut e40.symm).extBut s6.extBut e20.symm).extBut s7.extBut e40.symm
  have i2 : m7.IsListIter (n + 1) l2 (k + 1) := ((h2a.extBut s5.extBut e41.symm).extBut s6.extBut e21.symm).extBut s7.extBut e41.symm
  have i3 : m7.IsListIter (n + 2) l3 (k + 1) := h3a.extBut s7.extBut e42.symm
  have hzlt : n + 5 < m7.objs.size := Heap.lt_size hz7
  show wpAny _ _ (Builtin.SmallTypes.ownedTupleHandOut (.ref (n + 5)) (.ref m7.objs.size) >>= _) _ _ _
  refine wpAny_bind ?_
  unfold Builtin.SmallTypes.ownedTupleHandOut
  have hz8 : IsZip (m7.push { cls := .type "tuple", data := .seq #[x, y, u] }) (n + 5) (n + 3) (n + 4) .ellipsis := Heap.get?_push_of_some _ hz7
  refine wpAny_bind (wpAny_setField_rec hz8 (by simp) fun m8 hz9 s8 => ?_)
  replace hz9 : IsZip m8 (n + 5) (n + 3) (n + 4) (rawInt m7.objs.size) := hz9
  refine wpAny_setField_rec hz9 (by simp) fun m9 hz10 s9 => ?_
  replace hz10 : IsZip m9 (n + 5) (n + 3) (n + 4) (rawInt m7.objs.size) := hz10
  have up : ∀ c o, c ≠ n + 5 → m7.get? c = some o → m9.get? c = some o := fun c o c1 e => s9.extBut _ _ c1 (s8.extBut _ _ c1 (Heap.get?_push_of_some _ e))
  have hT9 : IsTri m9 m7.objs.size x y u := s9.extBut _ _ (Nat.ne_of_gt hzlt) (s8.extBut _ _ (Nat.ne_of_gt hzlt) (Heap.get?_push_size _ rfl))
  rw [hsz] at hz10 hT9
  refine wpAny_pure ⟨_, rfl, ?_⟩
  show Q (.ref m7.objs.size) _
  rw [hsz]
  exact hQ m9 hz10 (up _ _ e54.symm t7) (i1.at fun o e => up _ o e50.symm e) (i2.at fun o e => up _ o e51.symm e) (i3.at fun o e => up _ o e52.symm e) hT9 fun c o c1 c2 c3 c4 c5 e => up c o c1 (hk7 c o c1 c2 c3 c4 c5 e)
theorem zip3_end {n l1 l2 l3 : Nat} {k : Nat} {xs ys zs : Array Value} {a b c : Value} {Q : Fin → Shared → Prop} (hh : A.handled = none) (g1 : l1 < n) (g2 : l2 < n) (g3 : l3 < n)
    (hz : IsZip s.heap (n + 5) (n + 3) (n + 4) .none) (hTI : IsTri s.heap (n + 3) (.ref n) (.ref (n + 1)) (.ref (n + 2))) (hTO : IsTri s.heap (n + 4) a b c)
    (h1 : s.heap.IsListIter n l1 k) (h2 : s.heap.IsListIter (n + 1) l2 k) (h3 : s.heap.IsListIter (n + 2) l3 k) (hl1 : s.heap.IsList l1 xs) (hl2 : s.heap.IsList l2 ys) (hl3 : s.heap.IsList l3 zs) (hend : xs[k]? = none ∨ ys[k]? = none ∨ zs[k]? = none)
    (hE : ∀ h' e, (∀ c o, c ≠ n + 5 → c ≠ n + 4 → c ≠ n → c ≠ n + 1 → c ≠ n + 2 → s.heap.get? c = some o → h'.get? c = some o) → (∃ o, h'.get? e = some o ∧ o.cls = .type "StopIteration") → E (.ref e) { s with heap := h' }) :
    wpAny (model prog w) A (Builtin.«zip.__next__» ⟨[.ref (n + 5)], []⟩) Q E s := by
  have e50 : n + 5 ≠ n := adne (by omega)
  have e51 : n + 5 ≠ n + 1 := adne (by omega)
  have e52 : n + 5 ≠ n + 2 := adne (by omega)
  have e54 : n + 5 ≠ n + 4 := adne (by omega)
  have e40 : n + 4 ≠ n := adne (by omega)
  have e41 : n + 4 ≠ n + 1 := adne (by omega)
  have e42 : n + 4 ≠ n + 2 := adne (by omega)
  have e10 : n + 1 ≠ n := adne (by omega)
  have e20 : n + 2 ≠ n := adne (by omega)
  have e21 : n + 2 ≠ n + 1 := adne (by omega)
  have lz : ∀ {l : Nat}, l < n → l ≠ n + 5 ∧ l ≠ n + 4 ∧ l ≠ n ∧ l ≠ n + 1 ∧ l ≠ n + 2 := fun h => ⟨adne (by omega), adne (by omega), adne (by omega), adne (by omega), adne (by omega)⟩
  obtain ⟨p1, p2, p3, p4, p5⟩ := lz g1
  obtain ⟨q1, q2, q3, q4, q5⟩ := lz g2
  obtain ⟨r1, r2, r3, r4, r5⟩ := lz g3
  show wpAny _ _ (field (.ref (n + 5)) 2 >>= _) _ _ _
  refine wpAny_bind (wpAny_field hz rfl (x := .bool false) rfl ?_)
  show wpAny _ _ (field (.ref (n + 5)) 3 >>= _) _ _ _
  refine wpAny_bind (wpAny_field hz rfl (x := .ref (n + 3)) rfl ?_)
  refine wpAny_bind (wpAny_seqItems hTI rfl ?_)
  show wpAny _ _ (Builtin.SmallTypes.ownedTupleIsFree (.ref (n + 5)) >>= _) _ _ _
  refine wpAny_bind ?_
  unfold Builtin.SmallTypes.ownedTupleIsFree
  refine wpAny_bind (wpAny_field hz rfl (x := .none) rfl (wpAny_pure ?_))
  simp only [if_true]
  refine wpAny_bind (wpAny_rule ?_)
  refine wpAny_bind (wpAny_field hz rfl (x := .ref (n + 4)) rfl ?_)
  refine wpAny_bind (wpAny_setField_rec hz (by simp) fun m1 hz1 s1 => ?_)
  replace hz1 : IsZip m1 (n + 5) (n + 3) (n + 4) .ellipsis := hz1
  refine wpAny_bind ?_
  simp only [List.zipIdx_cons, List.zipIdx_nil, List.forIn_cons, List.forIn_nil]
  refine wpAny_bind (wpAny_bind (wpAny_onRaise ?_))
  show wpAny _ _ (Builtin.SmallTypes.nextOf (.ref n) >>= _) _ _ _
  have i1a := h1.extBut s1.extBut e50.symm
  have l1a := hl1.extBut s1.extBut p1
  cases hx : xs[k]? with
  | none =>
    refine wpAny_bind (wpAny_nextOf_list_end hh i1a l1a hx fun m2 e s2 he => ?_)
    obtain ⟨oe, hoe, hce⟩ := he
    have hz2 : IsZip m2 (n + 5) (n + 3) (n + 4) .ellipsis := s2 _ _ e50 hz1
    have hez : e ≠ n + 5 := fun x => by subst x; rw [hz2] at hoe; cases hoe; simp at hce
    refine wpAny_setField_rec hz2 (by simp) fun m3 _ s3 => hE m3 e (fun c o c1 c2 c3 c4 c5 x => s3.extBut _ _ c1 (s2 _ _ c3 (s1.extBut _ _ c1 x))) ⟨oe, s3.extBut _ _ hez hoe, hce⟩
  | some x =>
    refine wpAny_bind (wpAny_nextOf_list_item i1a l1a hx fun m2 h1a s2 => wpAny_pure ?_)
    have t2 : IsTri m2 (n + 4) a b c := s2.extBut _ _ e40 (s1.extBut _ _ e54.symm hTO)
    refine wpAny_bind (wpAny_seqItems t2 rfl ?_)
    refine wpAny_bind (updTri t2 fun m3 t3 s3 => ?_)
    replace t3 : IsTri m3 (n + 4) x b c := t3
    refine wpAny_bind (wpAny_letGo (wpAny_pure ?_))
    refine wpAny_bind (wpAny_bind (wpAny_onRaise ?_))
    show wpAny _ _ (Builtin.SmallTypes.nextOf (.ref (n + 1)) >>= _) _ _ _
    have i2a := ((h2.extBut s1.extBut e51.symm).extBut s2.extBut e10).extBut s3.extBut e41.symm
    have l2a := ((hl2.extBut s1.extBut q1).extBut s2.extBut q3).extBut s3.extBut q2
    have hz3 : IsZip m3 (n + 5) (n + 3) (n + 4) .ellipsis := s3.extBut _ _ e54 (s2.extBut _ _ e50 hz1)
    have k3 : ∀ c o, c ≠ n + 5 → c ≠ n + 4 → c ≠ n → s.heap.get? c = some o → m3.get? c = some o := fun c o c1 c2 c3 x => s3.extBut _ _ c2 (s2.extBut _ _ c3 (s1.extBut _ _ c1 x))
    cases hy : ys[k]? with
    | none =>
      refine wpAny_bind (wpAny_nextOf_list_end hh i2a l2a hy fun m4 e s4 he => ?_)
      obtain ⟨oe, hoe, hce⟩ := he
      have hz4 : IsZip m4 (n + 5) (n + 3) (n + 4) .ellipsis := s4 _ _ e51 hz3
      have hez : e ≠ n + 5 := fun x => by subst x; rw [hz4] at hoe; cases hoe; simp at hce
      refine wpAny_setField_rec hz4 (by simp) fun m5 _ s5 => hE m5 e (fun c o c1 c2 c3 c4 c5 x => s5.extBut _ _ c1 (s4 _ _ c4 (k3 c o c1 c2 c3 x))) ⟨oe, s5.extBut _ _ hez hoe, hce⟩
    | some y =>
      have hu : zs[k]? = none := by
        rcases hend with h | h | h
        · rw [hx] at h; cases h
        · rw [hy] at h; cases h
        · exact h
      refine wpAny_bind (wpAny_nextOf_list_item i2a l2a hy fun m4 h2a s4 => wpAny_pure ?_)
      have t4 : IsTri m4 (n + 4) x b c := s4.extBut _ _ e41 t3
      refine wpAny_bind (wpAny_seqItems t4 rfl ?_)
      refine wpAny_bind (updTri t4 fun m5 t5 s5 => ?_)
      refine wpAny_bind (wpAny_letGo (wpAny_pure ?_))
      refine wpAny_bind (wpAny_bind (wpAny_onRaise ?_))
      show wpAny _ _ (Builtin.SmallTypes.nextOf (.ref (n + 2)) >>= _) _ _ _
      refine wpAny_bind (wpAny_nextOf_list_end hh (((((h3.extBut s1.extBut e52.symm).extBut s2.extBut e20).extBut s3.extBut e42.symm).extBut s4.extBut e21).extBut s5.extBut e42.symm) (((((hl3.extBut s1.extBut r1).extBut s2.extBut r3).extBut s3.extBut r2).extBut s4.extBut r4).extBut s5.extBut r2) hu fun m6 e s6 he => ?_)
      obtain ⟨oe, hoe, hce⟩ := he
      have hz6 : IsZip m6 (n + 5) (n + 3) (n + 4) .ellipsis := s6 _ _ e52 (s5.extBut _ _ e54 (s4.extBut _ _ e51 hz3))
      have hez : e ≠ n + 5 := fun x => by subst x; rw [hz6] at hoe; cases hoe; simp at hce
      refine wpAny_setField_rec hz6 (by simp) fun m7 _ s7 => hE m7 e (fun c o c1 c2 c3 c4 c5 x => s7.extBut _ _ c1 (s6 _ _ c5 (s5.extBut _ _ c2 (s4.extBut _ _ c4 (k3 c o c1 c2 c3 x))))) ⟨oe, s7.extBut _ _ hez hoe, hce⟩
end
abbrev z3a (h : Heap) (l1 : Addr) : Heap := h.push { cls := .type "list_iterator", data := .fields #[.ref l1, .int 0 0] }
abbrev z3b (h : Heap) (l1 l2 : Addr) : Heap := (z3a h l1).push { cls := .type "list_iterator", data := .fields #[.ref l2, .int 0 0] }
abbrev z3c (h : Heap) (l1 l2 l3 : Addr) : Heap := (z3b h l1 l2).push { cls := .type "list_iterator", data := .fields #[.ref l3, .int 0 0] }
abbrev z3d (h : Heap) (l1 l2 l3 : Addr) : Heap := (z3c h l1 l2 l3).push { cls := .type "tuple", data := .seq #[.ref h.objs.size, .ref (z3a h l1).objs.size, .ref (z3b h l1 l2).objs.size] }
abbrev z3e (h : Heap) (l1 l2 l3 : Addr) : Heap := (z3d h l1 l2 l3).push { cls := .type "tuple", data := .seq #[.none, .none, .none] }
abbrev z3f (h : Heap) (l1 l2 l3 : Addr) : Heap := (z3e h l1 l2 l3).push { cls := .type "zip", data := .fields #[.none, .bool false, .bool false, .ref (z3c h l1 l2 l3).objs.size, .ref (z3d h l1 l2 l3).objs.size] }
theorem zip3_new (l1 l2 l3 : Addr) (xs ys zs : Array Value) :
    Meets (Builtin.«zip.__new__» ⟨[.type "zip", .ref l1, .ref l2, .ref l3], []⟩) (fun _ R s => s.heap.IsList l1 xs ∧ s.heap.IsList l2 ys ∧ s.heap.IsList l3 zs ∧ R (.ok (.ret (.ref (z3e s.heap l1 l2 l3).objs.size))) { s with heap := z3f s.heap l1 l2 l3 }) :=
  .of_wp fun prog w A R s h => by
    obtain ⟨hp, g, d, tk, os⟩ := s; obtain ⟨hl1, hl2, hl3, h⟩ := h
    have hsub := sub_zip
    have hL1 : Heap.IsList (Shared.heap ⟨hp, g, d, tk, os⟩) l1 xs := hl1
    have hL2 : Heap.IsList (Shared.heap ⟨hp.push { cls := .type "list_iterator", data := .fields #[.ref l1, .int 0 0] }, g, d, tk, os⟩) l2 ys := Heap.IsList.push hl2 _
    have hL3 : Heap.IsList (Shared.heap ⟨(hp.push { cls := .type "list_iterator", data := .fields #[.ref l1, .int 0 0] }).push { cls := .type "list_iterator", data := .fields #[.ref l2, .int 0 0] }, g, d, tk, os⟩) l3 zs := Heap.IsList.push (Heap.IsList.push hl3 _) _
    wp_walk using wpAny_pyIter_list hL1, wpAny_pyIter_list hL2, wpAny_pyIter_list hL3
    exact ⟨_, rfl, h⟩
section
variable {prog : Program} {w : World} {A : Around} {E : Value → Shared → Prop} {s : Shared}
theorem call_zip_3 {l1 l2 l3 : Addr} {xs ys zs : Array Value} {Q : Value → Shared → Prop} (hl1 : s.heap.IsList l1 xs) (hl2 : s.heap.IsList l2 ys) (hl3 : s.heap.IsList l3 zs)
    (h : ∀ h', IsZip h' (s.heap.objs.size + 5) (s.heap.objs.size + 3) (s.heap.objs.size + 4) .none → IsTri h' (s.heap.objs.size + 3) (.ref s.heap.objs.size) (.ref (s.heap.objs.size + 1)) (.ref (s.heap.objs.size + 2)) →
      IsTri h' (s.heap.objs.size + 4) .none .none .none → h'.IsListIter s.heap.objs.size l1 0 → h'.IsListIter (s.heap.objs.size + 1) l2 0 → h'.IsListIter (s.heap.objs.size + 2) l3 0 →
      (∀ c o, s.heap.get? c = some o → h'.get? c = some o) → Q (.ref (s.heap.objs.size + 5)) { s with heap := h' }) :
    wpAny (model prog w) A (call (.type "zip") [.ref l1, .ref l2, .ref l3]) Q E s := by
  refine callType_new F.called_zip (by decide) (typeCall_zip_3 _ _ _) (newCall_zip_3 _ _ _) (fun obj => args_object_init_4 obj _ _ _) F.entry_zip_new (zip3_new l1 l2 l3 xs ys zs) ⟨hl1, hl2, hl3, ?_⟩
  have z1 : (z3a s.heap l1).objs.size = s.heap.objs.size + 1 := Heap.size_push ..
  have z2 : (z3b s.heap l1 l2).objs.size = s.heap.objs.size + 2 := by rw [Heap.size_push, z1]
  have z3 : (z3c s.heap l1 l2 l3).objs.size = s.heap.objs.size + 3 := by rw [Heap.size_push, z2]
  have z4 : (z3d s.heap l1 l2 l3).objs.size = s.heap.objs.size + 4 := by rw [Heap.size_push, z3]
  have z5 : (z3e s.heap l1 l2 l3).objs.size = s.heap.objs.size + 5 := by rw [Heap.size_push, z4]
  have g6 : (z3f s.heap l1 l2 l3).get? (z3e s.heap l1 l2 l3).objs.size = some _ := Heap.get?_push_size _ rfl
  have g5 : (z3f s.heap l1 l2 l3).get? (z3d s.heap l1 l2 l3).objs.size = some _ := Heap.get?_push_of_some _ (Heap.get?_push_size _ rfl)
  have g4 : (z3f s.heap l1 l2 l3).get? (z3c s.heap l1 l2 l3).objs.size = some _ := Heap.get?_push_of_some _ (Heap.get?_push_of_some _ (Heap.get?_push_size _ rfl))
  have g3 : (z3f s.heap l1 l2 l3).get? (z3b s.heap l1 l2).objs.size = some _ := Heap.get?_push_of_some _ (Heap.get?_push_of_some _ (Heap.get?_push_of_some _ (Heap.get?_push_size _ rfl)))
  have g2 : (z3f s.heap l1 l2 l3).get? (z3a s.heap l1).objs.size = some _ := Heap.get?_push_of_some _ (Heap.get?_push_of_some _ (Heap.get?_push_of_some _ (Heap.get?_push_of_some _ (Heap.get?_push_size _ rfl))))
  have g1 : (z3f s.heap l1 l2 l3).get? s.heap.objs.size = some _ := Heap.get?_push_of_some _ (Heap.get?_push_of_some _ (Heap.get?_push_of_some _ (Heap.get?_push_of_some _ (Heap.get?_push_of_some _ (Heap.get?_push_size _ rfl)))))
  show _ ∧ _
  rw [z3, z4, z5] at g6
  rw [z1, z2, z3] at g4
  rw [z4] at g5
  rw [z2] at g3
  rw [z1] at g2
  rw [z5]
  exact ⟨⟨_, g6, rfl⟩, h _ g6 g4 g5 ⟨_, g1, rfl, rfl⟩ ⟨_, g2, rfl, rfl⟩ ⟨_, g3, rfl, rfl⟩ fun c o x =>
    Heap.get?_push_of_some _ (Heap.get?_push_of_some _ (Heap.get?_push_of_some _ (Heap.get?_push_of_some _ (Heap.get?_push_of_some _ (Heap.get?_push_of_some _ x)))))⟩
end
/-- (x, y, z) of three lists -/
def Itz3 (K : PySem.W.Frag) (l m q : Addr) : It :=
  ⟨fun i H => ∃ xs ys zs x y z, (SqL K H l xs ∧ SqL K H m ys ∧ SqL K H q zs) ∧ xs[i]? = some x ∧ ys[i]? = some y ∧ zs[i]? = some z,
   fun i H v H' => ∃ T x y z, v = .ref T ∧ H T = none ∧ H' = upd H T (.tup [x, y, z]) ∧ (∀ xs, SqL K H l xs → xs[i]? = some x) ∧ (∀ ys, SqL K H m ys → ys[i]? = some y) ∧ ∀ zs, SqL K H q zs → zs[i]? = some z,
   fun i H => ∃ xs ys zs, (SqL K H l xs ∧ SqL K H m ys ∧ SqL K H q zs) ∧ (xs.length ≤ i ∨ ys.length ≤ i ∨ zs.length ≤ i)⟩
theorem turn_zip3 {P : Program} {w : World} {K : PySem.W.Frag} {elts : List Expr} {k : Nat} {pos : Pos} (n l m q : Nat) (g1 : l < n) (g2 : m < n) (g3 : q < n) :
    Turn P w K (.Tuple elts k pos) (Itz3 K l m q) [n + 5, n + 3, n + 4, n, n + 1, n + 2] (n + 5) (fun i h => IsZip h (n + 5) (n + 3) (n + 4) .none ∧ IsTri h (n + 3) (.ref n) (.ref (n + 1)) (.ref (n + 2)) ∧ (∃ a b c, IsTri h (n + 4) a b c) ∧ h.IsListIter n l i ∧ h.IsListIter (n + 1) m i ∧ h.IsListIter (n + 2) q i) where
  mem := by simp
  obj := fun i h st b hb => by
    obtain ⟨hz, hTI, ⟨a, a', a2, hTO⟩, ⟨o1, h1, _, d1⟩, ⟨o2, h2, _, d2⟩, ⟨o3, h3, _, d3⟩⟩ := st
    simp only [List.mem_cons, List.not_mem_nil, or_false] at hb
    rcases hb with e | e | e | e | e | e <;> subst e
    · exact ⟨_, hz, fun v z => by cases z⟩
    · exact ⟨_, hTI, fun v z => by cases z⟩
    · exact ⟨_, hTO, fun v z => by cases z⟩
    · exact ⟨_, h1, fun v z => by rw [d1] at z; cases z⟩
    · exact ⟨_, h2, fun v z => by rw [d2] at z; cases z⟩
    · exact ⟨_, h3, fun v z => by rw [d3] at z; cases z⟩
  keep := fun i h h' st kk => by
    obtain ⟨hz, hTI, ⟨a, a', a2, hTO⟩, ⟨o1, h1, r1⟩, ⟨o2, h2, r2⟩, ⟨o3, h3, r3⟩⟩ := st
    exact ⟨kk _ (by simp) _ hz, kk _ (by simp) _ hTI, ⟨a, a', a2, kk _ (by simp) _ hTO⟩, ⟨o1, kk _ (by simp) _ h1, r1⟩, ⟨o2, kk _ (by simp) _ h2, r2⟩, ⟨o3, kk _ (by simp) _ h3, r3⟩⟩
  item := by
    intro X hP hw hK hc i pins s σ H E I hf st hg
    subst hP hw hK
    obtain ⟨hz, hTI, ⟨a, b, c, hTO⟩, h1, h2, h3⟩ := id st
    obtain ⟨xs, ys, zs, x, y, z, ⟨hS1, hS2, hS3⟩, hx, hy, hu⟩ := hg
    obtain ⟨it1, rv1, pl1, _⟩ := I.list hS1
    obtain ⟨it2, rv2, pl2, _⟩ := I.list hS2
    obtain ⟨it3, rv3, pl3, _⟩ := I.list hS3
    obtain ⟨u1, hu1, ru1⟩ := rv1.get hx
    obtain ⟨u2, hu2, ru2⟩ := rv2.get hy
    obtain ⟨u3, hu3, ru3⟩ := rv3.get hu
    have hT : s.TypeIs (.ref (n + 5)) "zip" := ⟨_, hz, rfl⟩
    unfold pyNext
    refine wpAny_bind (wpAny_attempt (wpAny_callSpecial?_slot (name := Str.ofString "__next__") hT F.slot_zip_next (wpAny_call_entry F.slot_zip_next hT F.entry_zip_next
      (zip3_item g1 g2 g3 hz hTI hTO h1 h2 h3 pl1.isList pl2.isList pl3.isList (by simpa using hu1) (by simpa using hu2) (by simpa using hu3) fun h' a1 a2 a3 a4 a5 a6 hk => wpAny_pure ?_) (F.args_zip_next_1 _))))
    refine ⟨_, rfl, ?_⟩
    refine wpAny_letOwnedTupleGo_zip (s := { s with heap := h' }) a1 fun h2' hz2 sb => ?_
    have hfr : s.heap.objs.size ≤ s.heap.objs.size := Nat.le_refl _
    have hz5 : s.heap.objs.size ≠ n + 5 := Nat.ne_of_gt (Heap.lt_size hz)
    have tup2 : IsTup h2' s.heap.objs.size [u1, u2, u3].toArray := ⟨_, sb.extBut _ _ hz5 a6, rfl, _, rfl⟩
    have keepAll : ∀ b o, b ∉ [n + 5, n + 3, n + 4, n, n + 1, n + 2] → s.heap.get? b = some o → h2'.get? b = some o := fun b o hb q => by
      simp only [List.mem_cons, List.not_mem_nil, or_false, not_or] at hb
      exact sb.extBut _ _ hb.1 (hk b o hb.1 hb.2.2.1 hb.2.2.2.1 hb.2.2.2.2.1 hb.2.2.2.2.2 q)
    refine ⟨.ref s.heap.objs.size, upd H s.heap.objs.size (.tup [x, y, z]), I.turnNew (ch := [n + 5, n + 3, n + 4, n, n + 1, n + 2]) (tk := s.toks) hf hfr keepAll (by show 3 ≤ sizeLine; rw [sizeLine_eq]; decide) (.cons ru1 (.cons ru2 (.cons ru3 .nil))) tup2, rfl, ?_, ?_, fun b hb => ?_⟩
    · refine ⟨_, x, y, z, rfl, I.hok.fresh hfr, rfl, fun a ha => ?_, fun a ha => ?_, fun a ha => ?_⟩
      · rw [← I.list_inj hS1 ha]; exact hx
      · rw [← I.list_inj hS2 ha]; exact hy
      · rw [← I.list_inj hS3 ha]; exact hu
    · have e53 : n + 3 ≠ n + 5 := adne (by omega)
      have e34 : n + 3 ≠ n + 4 := adne (by omega)
      have e30 : n + 3 ≠ n := adne (by omega)
      have e31 : n + 3 ≠ n + 1 := adne (by omega)
      have e32 : n + 3 ≠ n + 2 := adne (by omega)
      exact ⟨hz2, sb.extBut _ _ e53 (hk _ _ e53 e34 e30 e31 e32 hTI), ⟨_, _, _, sb.extBut _ _ (adne (by omega)) a2⟩, a3.extBut sb.extBut (adne (by omega)), a4.extBut sb.extBut (adne (by omega)), a5.extBut sb.extBut (adne (by omega))⟩
    · have : b ≠ s.heap.objs.size := fun q => by
        obtain ⟨o, ho⟩ : ∃ o, s.heap.get? b = some o := by
          obtain ⟨o1, h1, _⟩ := h1
          obtain ⟨o2, h2, _⟩ := h2
          obtain ⟨o3, h3, _⟩ := h3
          simp only [List.mem_cons, List.not_mem_nil, or_false] at hb
          rcases hb with e | e | e | e | e | e <;> subst e
          · exact ⟨_, hz⟩
          · exact ⟨_, hTI⟩
          · exact ⟨_, hTO⟩
          · exact ⟨_, h1⟩
          · exact ⟨_, h2⟩
          · exact ⟨_, h3⟩
        exact Nat.lt_irrefl _ (q ▸ Heap.lt_size ho)
      rw [upd_ne this]
      exact (hf b hb).1
  done := by
    intro X hP hw hK hc i pins s σ H E I hf st hg
    subst hP hw hK
    obtain ⟨hz, hTI, ⟨a, b, c, hTO⟩, h1, h2, h3⟩ := st
    obtain ⟨xs, ys, zs, ⟨hS1, hS2, hS3⟩, hx⟩ := hg
    obtain ⟨it1, rv1, pl1, _⟩ := I.list hS1
    obtain ⟨it2, rv2, pl2, _⟩ := I.list hS2
    obtain ⟨it3, rv3, pl3, _⟩ := I.list hS3
    have hend : it1.toArray[i]? = none ∨ it2.toArray[i]? = none ∨ it3.toArray[i]? = none := by
      rcases hx with q | q | q
      · exact .inl (Array.getElem?_eq_none (by rw [List.size_toArray, ← rv1.length]; exact q))
      · exact .inr (.inl (Array.getElem?_eq_none (by rw [List.size_toArray, ← rv2.length]; exact q)))
      · exact .inr (.inr (Array.getElem?_eq_none (by rw [List.size_toArray, ← rv3.length]; exact q)))
    have hT : s.TypeIs (.ref (n + 5)) "zip" := ⟨_, hz, rfl⟩
    unfold pyNext
    refine wpAny_bind (wpAny_attempt (wpAny_callSpecial?_slot (name := Str.ofString "__next__") hT F.slot_zip_next
      (wpAny_call_entry F.slot_zip_next hT F.entry_zip_next (zip3_end (I.ok.hd hc) g1 g2 g3 hz hTI hTO h1 h2 h3 pl1.isList pl2.isList pl3.isList hend fun h' e hk he => ?_) (F.args_zip_next_1 _))))
    obtain ⟨o, ho, hcl⟩ := he
    refine wpAny_bind (wpAny_isInstance (T := "StopIteration") (b := true) ⟨o, ho, hcl⟩ isSubtype_stop ?_)
    refine wpAny_pure ⟨rfl, I.turnAll (tk := s.toks) hf fun b o hb q => ?_⟩
    simp only [List.mem_cons, List.not_mem_nil, or_false, not_or] at hb
    exact hk b o hb.1 hb.2.2.1 hb.2.2.2.1 hb.2.2.2.2.1 hb.2.2.2.2.2 q
  self := fun A i s Q E st h => wpAny_pyIter_zip st.1 h
end L2

namespace L2
open PySem PySem.Spec PyProof.Rows
theorem vals3 {x y z : V} {us : List Value} (r : Vals [x, y, z] us) : ∃ u v w, us = [u, v, w] ∧ RelV x u ∧ RelV y v ∧ RelV z w := by
  cases r with
  | cons a r =>
    cases r with
    | cons b r =>
      cases r with
      | cons c r =>
        cases r
        exact ⟨_, _, _, rfl, a, b, c⟩
section
variable {X : Cx} {σ : St} {H : Hp} {a b c : Expr} {elts : List Expr} {k : Nat} {tp p pos p' : Pos} {R : It → Hp → Prop} {D : Ends}
theorem ei_zip3 (hg : Gl X "zip") (hm : X.mg "zip" = none) (hs : starEach [a, b, c] X.env = (false, eval a X.env) :: starEach [b, c] X.env) (hs1 : starEach [b, c] X.env = (false, eval b X.env) :: starEach [c] X.env) (hs2 : starEach [c] X.env = [(false, eval c X.env)])
    (h : EV X a σ H fun v1 H1 => EV X b σ H1 fun v2 H2 => EV X c σ H2 fun v3 H3 => ∃ l m q xs ys zs, (v1 = .ref l ∧ v2 = .ref m ∧ v3 = .ref q) ∧ H3 l = some (.lst xs) ∧ H3 m = some (.lst ys) ∧ H3 q = some (.lst zs) ∧ R (Itz3 X.K l m q) H3) : EI X (.Tuple elts k tp) (.Call (.Name "zip" p) [a, b, c] [] pos) σ H R := by
  intro pins s I
  have hA : EA X [a, b, c] σ H fun vs H3 => ∃ l m q xs ys zs, vs = [.ref l, .ref m, .ref q] ∧ H3 l = some (.lst xs) ∧ H3 m = some (.lst ys) ∧ H3 q = some (.lst zs) ∧ R (Itz3 X.K l m q) H3 :=
    ea_cons hs (ev_mono h fun v1 H1 h1 => ea_cons hs1 (ev_mono h1 fun v2 H2 h2 => ea_cons (es := []) (by rw [hs2]; rfl) (ev_mono h2 fun v3 H3 ⟨l, m, q, xs, ys, zs, ⟨e1, e2, e3⟩, r⟩ => ea_nil ⟨l, m, q, xs, ys, zs, by rw [e1, e2, e3], r⟩)))
  refine Call_ (ld_blt I hg hm boot_zip (PyProof.Rows.callWith_type1 (thn (hA pos pins s I) fun us s1 ⟨vs, H1, I1, r1, l, m, q, xs, ys, zs, e, hl, hm', hq, rr⟩ => ?_) hs (by rw [hs1, hs2]; rfl)))
  subst e
  obtain ⟨u1, u2, u3, rfl, ru1, ru2, ru3⟩ := vals3 r1
  cases (show u1 = Value.ref l from ru1)
  cases (show u2 = Value.ref m from ru2)
  cases (show u3 = Value.ref q from ru3)
  obtain ⟨_, it1, n1, rv1, ho1⟩ := I1.hok l _ hl
  obtain ⟨_, it2, n2, rv2, ho2⟩ := I1.hok m _ hm'
  obtain ⟨_, it3, n3, rv3, ho3⟩ := I1.hok q _ hq
  refine call_zip_3 (xs := it1.toArray) (ys := it2.toArray) (zs := it3.toArray) ⟨_, ho1, rfl, _, rfl⟩ ⟨_, ho2, rfl, _, rfl⟩ ⟨_, ho3, rfl, _, rfl⟩ fun h' h1 h2 h3 h4 h5 h6 hk => ?_
  refine wpAny_pyIter_zip h1 ?_
  refine ⟨s1.heap.objs.size + 5, [s1.heap.objs.size + 5, s1.heap.objs.size + 3, s1.heap.objs.size + 4, s1.heap.objs.size, s1.heap.objs.size + 1, s1.heap.objs.size + 2], _, _, H1, rfl, I1.kept (t' := s1.toks) hk, turn_zip3 _ l m q (Heap.lt_size ho1) (Heap.lt_size ho2) (Heap.lt_size ho3), ⟨h1, h2, ⟨_, _, _, h3⟩, h4, h5, h6⟩, fun b hb => ?_, rr⟩
  have hb' : s1.heap.objs.size ≤ b := by
    simp only [List.mem_cons, List.not_mem_nil, or_false] at hb
    rcases hb with e | e | e | e | e | e <;> subst e
    · exact Nat.le_add_right _ _
    · exact Nat.le_add_right _ _
    · exact Nat.le_add_right _ _
    · exact Nat.le_refl _
    · exact Nat.le_add_right _ _
    · exact Nat.le_add_right _ _
  exact I1.fpOk hb' (I1.hok.fresh hb')
/-- for x, y, z in zip(..) of three lists of one length that stay -/
theorem sx_forZ3 {body : List Stmt} (hp : PassesOwn (model X.prog X.w) X.A X.env X.xe) (hc : X.calm = true) (hg : Gl X "zip") (hm : X.mg "zip" = none) (hs : starEach [a, b, c] X.env = (false, eval a X.env) :: starEach [b, c] X.env) (hs1 : starEach [b, c] X.env = (false, eval b X.env) :: starEach [c] X.env) (hs2 : starEach [c] X.env = [(false, eval c X.env)])
    (h : EV X a σ H fun v1 H1 => EV X b σ H1 fun v2 H2 => EV X c σ H2 fun v3 H3 => ∃ l m q xs ys zs, (v1 = .ref l ∧ v2 = .ref m ∧ v3 = .ref q) ∧ H3 l = some (.lst xs) ∧ H3 m = some (.lst ys) ∧ H3 q = some (.lst zs) ∧ ys.length = xs.length ∧ zs.length = xs.length ∧
      ∃ Pv : Nat → St → Hp → Prop, Pv 0 σ H3 ∧ (∀ i σ' H', Pv i σ' H' → SqL X.K H' l xs ∧ SqL X.K H' m ys ∧ SqL X.K H' q zs) ∧
      (∀ i x y z T σ' H', xs[i]? = some x → ys[i]? = some y → zs[i]? = some z → Pv i σ' H' → H' T = none → EG X (.Tuple elts k tp) (.ref T) σ' (upd H' T (.tup [x, y, z])) fun σ2 H2 => SXs X body { D with nx := Pv (i + 1), ct := Pv (i + 1), bk := D.nx } σ2 H2) ∧ ∀ σ' H', Pv xs.length σ' H' → D.nx σ' H') :
    SX X (.For (.Tuple elts k tp) (.Call (.Name "zip" p) [a, b, c] [] p') body [] pos) D σ H := by
  refine sx_for hp hc (by intro _; rfl) (ei_zip3 hg hm hs hs1 hs2 (ev_mono h fun v1 H1 h1 => ev_mono h1 fun v2 H2 h2 => ev_mono h2 fun v3 H3 h3 => ?_))
  obtain ⟨l, m, q, xs, ys, zs, e, hl, hm', hq, ly, lz, Pv, h0, hS, hst, hd⟩ := h3
  refine ⟨l, m, q, xs, ys, zs, e, hl, hm', hq, fun i m σ H => m = xs.length - i ∧ i ≤ xs.length ∧ Pv i σ H, ⟨xs.length, by simp, Nat.zero_le _, h0⟩, ?_⟩
  rintro i m' σ' H' ⟨rfl, hi, pv⟩
  have hS' := hS i σ' H' pv
  by_cases hlt : i < xs.length
  · have g1 : ys[i]? = some ys[i] := List.getElem?_eq_getElem (by omega)
    have g2 : zs[i]? = some zs[i] := List.getElem?_eq_getElem (by omega)
    refine .inr ⟨⟨xs, ys, zs, xs[i], ys[i], zs[i], hS', List.getElem?_eq_getElem hlt, g1, g2⟩, Pv (i + 1), fun σ2 H2 p2 => ⟨xs.length - (i + 1), by omega, rfl, hlt, p2⟩, fun v H2 y => ?_⟩
    obtain ⟨T, x, y, z, e1, e2, e3, e4, e5, e6⟩ := y
    subst e1 e3
    exact hst i x y z T σ' H' (e4 xs hS'.1) (e5 ys hS'.2.1) (e6 zs hS'.2.2) pv e2
  · have e : i = xs.length := by omega
    refine .inl ⟨⟨xs, ys, zs, hS', .inl (by omega)⟩, ?_⟩
    subst e
    exact hd σ' H' pv
end
end L2

namespace L2
open PySem PySem.Spec PyProof.Rows
/-! ### list.index of texts -/
theorem strsAre_get : ∀ {us : List Value} {ys : List Str} {m : Nat} {u : Value}, StrsAre us ys → us[m]? = some u → ∃ y t, ys[m]? = some y ∧ u = .str y t
  | _, _, _, _, .nil, e => by simp at e
  | _, _, 0, u, .cons y t h, e => by
    simp at e
    exact ⟨y, t, rfl, e.symm⟩
  | _, _, m + 1, u, .cons y t h, e => by
    obtain ⟨y', t', e1, e2⟩ := strsAre_get h (by simpa using e)
    exact ⟨y', t', by simpa using e1, e2⟩
section
variable {X : Cx} {H : Hp} {Q : VK}
theorem m_lindex {a : Addr} {zs : List Str} {z : Str} {j : Nat} (h : SqL X.K H a (zs.map V.str)) (hj : zs[j]? = some z) (hno : ∀ m y, m < j → zs[m]? = some y → ¬ y = z) (g : Q (.int j) H) : MT X "list.index" (.ref a) [.str z] H Q := by
  refine mt_by (r := fun x xs H Q => ∃ a zs z j, x = .ref a ∧ xs = [.str z] ∧ SqL X.K H a (zs.map V.str) ∧ zs[j]? = some z ∧ (∀ m y, m < j → zs[m]? = some y → ¬ y = z) ∧ Q (.int (j : Nat)) H) ?_ ⟨a, zs, z, j, rfl, rfl, h, hj, hno, g⟩
  intro pins s σ H x xs v us Q I rx rs h
  obtain ⟨a, zs, z, j, rfl, rfl, h, hj, hno, g⟩ := h
  cases rx
  obtain ⟨u, rfl, ru⟩ := vals1 rs
  obtain ⟨t, rfl⟩ := ru
  obtain ⟨its, r, ⟨⟨cls, dd, data, sl⟩, n, e, hc, hd, hs⟩, hz⟩ := I.list h
  simp only at hc hd hs
  subst hc hd hs
  have hS := strsAre_of r
  have hlen : its.length = zs.length := by have := r.length; rw [List.length_map] at this; exact this.symm
  have hjl : j < its.toArray.size := by
    rw [List.size_toArray, hlen]
    exact (List.getElem?_eq_some_iff.mp hj).1
  rw [List.length_map] at hz
  have hsz : sizeLine = 16777216 := sizeLine_eq
  have hjz : j < zs.length := (List.getElem?_eq_some_iff.mp hj).1
  refine call_meets F.slot_list_index ⟨_, e, rfl⟩ F.entry_list_index (F.args_list_index_2 _ _) (SeqAt.list_indexAt a its.toArray n _ sl (.str z t) (isStrOf z) j hjl (by omega) ?_ ?_) ⟨e, fun y hy => (eq_isStrOf z t hS y (by simpa using hy)).at _ _, ?_⟩
  · obtain ⟨y, t', e1, e2⟩ := strsAre_get (m := j) (u := its.toArray[j]) hS (by simp)
    rw [e2]
    rw [hj] at e1
    cases e1
    show (z == z) = true
    exact beq_self_eq_true z
  · intro m hm hmj
    obtain ⟨y, t', e1, e2⟩ := strsAre_get (m := m) (u := its.toArray[m]) hS (by simp)
    rw [e2]
    show (y == z) = false
    exact beq_eq_false_iff_ne.mpr (hno m y hmj e1)
  · exact ⟨.int j, H, I.tok _, ⟨_, rfl⟩, g⟩
/-! ### None in a list of tuples -/
/-! ### t < u of tuples of one length -/
/-- what t < u gives, told by the items -/
def LexAt (A : Around) (s : Shared) : List Value → List Value → Bool → Prop
  | [], [], r => r = false
  | x :: xs, y :: ys, r => ∃ e, SeqAt.EqAt A s x y e ∧ (e = true → LexAt A s xs ys r) ∧ (e = false → ∀ (prog : Program) (w : World) (E : Value → Shared → Prop) (Q : Value → Shared → Prop), Q (.bool r) s → wpAny (model prog w) A (richCompare .Lt x y) Q E s)
  | _, _, _ => False
def ltV : V → V → Bool
  | .int i, .int j => decide (i < j)
  | .str x, .str y => decide (x.cps.toList < y.cps.toList)
  | _, _ => false
def ltP (i j : Int) (x y : V) : Bool := if i = j then ltV x y else decide (i < j)
end
end L2

namespace L2
open PySem PySem.Spec PyProof.Rows
/-! ### instances of own classes: fields, methods, making, at a state -/
/-- a method of the class at C, with its promise -/
structure MDef (P : Program) (w : World) (K : PySem.W.Frag) (mg : Str → Option Value) (base : Heap) (cc : Bool) (k : Nat) (C : Addr) (m : Str) (ps : List Str) (sp : Sp) : Prop where
  cls : Cls K C
  ex : ∃ f fd, Meth K C m f ∧ Binds K fd ps [] ∧ FnOk P w K mg base (CX1 P w) cc k f fd ps sp
/-- the class of the name x, with its making's promise -/
structure CDef (P : Program) (w : World) (K : PySem.W.Frag) (mg : Str → Option Value) (base : Heap) (cc : Bool) (k : Nat) (x : Str) (C : Addr) (ps : List Str) (sp : Sp) : Prop where
  at_ : mg x = some (.ref C)
  ex : ∃ f fd, Mk K C f ∧ Binds K fd ps [] ∧ FnOk P w K mg base (CX1 P w) cc k f fd ps sp
/-- a def of the class of the name x, asked of the class itself -/
structure BDef (P : Program) (w : World) (K : PySem.W.Frag) (mg : Str → Option Value) (base : Heap) (cc : Bool) (k : Nat) (x m : Str) (ps : List Str) (sp : Sp) : Prop where
  ex : ∃ C f fd, mg x = some (.ref C) ∧ PySem.W.readsIn K C (.type "type") = true ∧ PySem.W.findCls K (.ref C) (.type "type") m = some (.val (.ref f)) ∧
    PySem.W.specialIn K (.ref C) "__getattribute__" = some (some (.builtin "type.__getattribute__")) ∧ PySem.W.keepIn K (.ref f) = true ∧ Binds K fd ps [] ∧ FnOk P w K mg base (CX1 P w) cc k f fd ps sp
section
variable {X : Cx} {σ : St} {H : Hp} {Q : VK} {D : Ends} {x f m : Str} {p np apos pos pos' tpos : Pos} {a e o value : Expr} {es : List Expr} {Kx : St → XK} {cc : Bool} {k' : Nat}
end
end L2

namespace L2
open PySem PySem.Spec PyProof.Rows
/-- a method of the class at C: the def st -/
structure OM (K : PySem.W.Frag) (C : Addr) (m qual : Str) (st : Stmt) : Prop where
  ex : ∃ f fd, Fun K m qual st f fd ∧ Meth K C m f
/-- the making of the class at C: the def st -/
structure OI (K : PySem.W.Frag) (C : Addr) (qual : Str) (st : Stmt) : Prop where
  ex : ∃ f fd, Fun K "__init__" qual st f fd ∧ Mk K C f
/-- a def of the class at C, asked of the class -/
structure OB (K : PySem.W.Frag) (C : Addr) (m qual : Str) (st : Stmt) : Prop where
  rd : PySem.W.readsIn K C (.type "type") = true
  ga : PySem.W.specialIn K (.ref C) "__getattribute__" = some (some (.builtin "type.__getattribute__"))
  ex : ∃ f fd, Fun K m qual st f fd ∧ PySem.W.findCls K (.ref C) (.type "type") m = some (.val (.ref f))
/-- the promise of a def, wherever it stands -/
def FD (P : Program) (w : World) (K : PySem.W.Frag) (mg : Str → Option Value) (base : Heap) (cc : Bool) (k : Nat) (m qual : Str) (st : Stmt) (ps : List Str) (sp : Sp) : Prop :=
  ∀ f fd, Fun K m qual st f fd → Binds K fd ps [] ∧ FnOk P w K mg base (CX1 P w) cc k f fd ps sp
section
variable {P : Program} {w : World} {K : PySem.W.Frag} {mg : Str → Option Value} {base : Heap} {cc : Bool} {k : Nat} {x m qual : Str} {C : Addr} {st : Stmt} {ps N : List Str} {sp : Sp}
end
/-- a, b = e, of a tuple -/
theorem sx_setT {X : Cx} {σ : St} {H : Hp} {D : Ends} {elts : List Expr} {k : Nat} {tp pos : Pos} {value : Expr} (hs : swapsWithSole [.Tuple elts k tp] value pos.line X.env = pure false) (hw : swappedStores [.Tuple elts k tp] value X.env = pure none)
    (h : EV X value σ H fun v H1 => EG X (.Tuple elts k tp) v σ H1 fun σ' H' => D.nx σ' H') : SX X (.Assign [.Tuple elts k tp] value pos) D σ H := by
  intro pins s I
  refine Assign_Tuple (thn (h pins s I) fun u s1 ⟨v, H1, I1, r1, q1⟩ => ?_) hs hw
  exact thn (q1 pins s1 u I1 r1) fun _ s2 ⟨σ', H', I2, q2⟩ => ⟨σ', H', I2, q2⟩
/-- what isinstance asks of an instance's class -/
structure OT (K : PySem.W.Frag) (C : Addr) : Prop where
  ty : ∀ (H : Hp) (a dx : Addr) (fs : List (Str × V)), H a = some (.ins C dx fs) → TyOf K H (.ref a) (.ref C)
end L2

namespace L2
open PySem PySem.Spec PyProof.Rows
section
variable {X : Cx} {σ : St} {H : Hp} {Q : VK} {D : Ends} {pos tpos : Pos} {o i value : Expr}
end
/-! a, b = e, of a list -/
section
variable {prog : Program} {w : World} {A : Around} {E : Value → Shared → Prop} {s : Shared}
end
section
variable {X : Cx} {H : Hp} {Q : VK} {D : Ends} {σ σ' : St} {e a b c elt tg : Expr} {scope : Scope} {pos spos py p p' : Pos} {x y : Str} {j : Nat}
/-- while c: body -/
theorem sx_while {body : List Stmt} (hp : PassesOwn (model X.prog X.w) X.A X.env X.xe) (W : Nat → St → Hp → Prop) (m0 : Nat) (h0 : W m0 σ H)
    (turn : ∀ m σ H, W m σ H → ET X c σ H fun k H1 => if k = true then ∃ N : St → Hp → Prop, (∀ σ' H', N σ' H' → ∃ m', m' < m ∧ W m' σ' H') ∧ SXs X body { D with nx := N, ct := N, bk := D.nx } σ H1 else D.nx σ H1) : SX X (.While c body [] pos) D σ H :=
  fun pins s I => ps_while (X := X) hp pt_self pss_self pins s σ H D I ⟨W, ⟨m0, h0⟩, turn⟩
end
end L2

/-! dicts at a state -/
namespace L2
open PySem PySem.Spec PyProof.Rows
section
variable {X : Cx} {σ : St} {H : Hp} {Q : VK} {D : Ends} {pos pos' tpos apos cpos : Pos} {o i e f value : Expr} {y v : V} {a : Addr} {r : Option V}
theorem ev_dnew (h : ∀ p, H p = none → Q (.ref p) (upd H p (.dK []))) : EV X (.Dict [] [] pos) σ H Q := ev_of pe_dnewK h
/-- d[i] = value -/
theorem sx_dput (hu : X.A.units + 1 < cLine) (hs : swapsWith value (some (.Subscript o i pos')) pos.line X.env = pure false)
    (h : EV X value σ H fun v H1 => EV X o σ H1 fun x H2 => EV X i σ H2 fun y H3 => ∃ a H4, x = .ref a ∧ DPut H3 a y v H4 ∧ D.nx σ H4) : SX X (.Assign [.Subscript o i pos'] value pos) D σ H :=
  sx_of (ps_dput hu pe_self pe_self pe_self hs) h
end
end L2

namespace My
open PySem
abbrev SGs : Str := Str.ofString "-0123456789abcdefghijklmnopqrstuvwxyz"
abbrev TSs : Str := Str.ofString "abcdefghijklmnopqrstuvwxyz0123456789-"
def SG : List Nat := SGs.cps.toList
def TS : List Nat := TSs.cps.toList
/-- the law's own order of two texts -/
def tb : List Nat → List Nat → Bool
  | [], [] => false
  | [], _ :: _ => true
  | _ :: _, [] => false
  | x :: xs, y :: ys => if x = y then tb xs ys else decide (SG.idxOf x < SG.idxOf y)
end My

/-! what the laws of this program share: values, words, draws; places in lists and texts -/
namespace L2
open PySem PySem.Spec PyProof.Rows
theorem atI_map {α : Type} {xs : List α} {f : α → V} {i : Int} (d : α) (h0 : 0 ≤ i) (h1 : i < xs.length) : atI (xs.map f) i = some (f (xs.getD i.toNat d)) := by
  have e : i = ((i.toNat : Nat) : Int) := by omega
  have hl : i.toNat < xs.length := by omega
  have h2 : (xs.map f)[i.toNat]? = some (f (xs.getD i.toNat d)) := by
    rw [List.getElem?_map, List.getElem?_eq_getElem hl]
    simp [hl]
  have := atI_nat h2
  rw [← e] at this
  exact this
/-- a place that is drawn in a list: what stands there is one of its items -/
theorem atI_mem {α : Type} {xs : List α} {i : Int} (h0 : 0 ≤ i) (h1 : i < xs.length) : ∃ v, atI xs i = some v ∧ v ∈ xs := by
  have hl : i.toNat < xs.length := by omega
  have e : i = ((i.toNat : Nat) : Int) := by omega
  have := atI_nat (List.getElem?_eq_getElem hl)
  rw [← e] at this
  exact ⟨_, this, List.getElem_mem hl⟩
theorem ones_sum : ∀ l : List Nat, ((l.map fun c => (⟨#[c]⟩ : Str)).map (·.length)).sum = l.length
  | [] => rfl
  | c :: r => by
    rw [List.map_cons, List.map_cons, List.sum_cons, ones_sum r, List.length_cons]
    show 1 + r.length = _
    omega
theorem join_signs : ∀ l : List Nat, Str.join (Str.ofString "") (l.map fun c => ⟨#[c]⟩) = ⟨l.toArray⟩
  | [] => rfl
  | [c] => rfl
  | c :: d :: r => by
    have ih := join_signs (d :: r)
    show (⟨#[c]⟩ : Str) ++ Str.ofString "" ++ Str.join (Str.ofString "") ((d :: r).map fun c => ⟨#[c]⟩) = _
    rw [ih]
    have e0 : (Str.ofString "") = ⟨#[]⟩ := by decide +kernel
    rw [e0]
    show (⟨(#[c] ++ #[]) ++ (d :: r).toArray⟩ : Str) = ⟨(c :: d :: r).toArray⟩
    simp
/-! texts as lists of codes -/
theorem str_ext {x y : Str} (h : x.cps.toList = y.cps.toList) : x = y := by
  obtain ⟨⟨a⟩⟩ := x
  obtain ⟨⟨b⟩⟩ := y
  simp only at h
  rw [h]
theorem cps_app (x y : Str) : (x ++ y).cps.toList = x.cps.toList ++ y.cps.toList := by
  show (x.cps ++ y.cps).toList = _
  simp
theorem len_list (z : Str) : z.length = z.cps.toList.length := by simp [Str.length]
theorem len_app (x y : Str) : (x ++ y).length = x.length + y.length := by rw [len_list, cps_app, List.length_append, len_list, len_list]
theorem cutS_le (z : Str) (lo hi : Option Int) : (cutS z lo hi).length ≤ z.length := by
  unfold cutS Str.length
  simp
  omega
theorem cutS_list (z : Str) (lo hi : Option Int) : (cutS z lo hi).cps.toList = (z.cps.toList.drop (HT.sIx z.length 0 lo)).take (HT.sIx z.length z.length hi - HT.sIx z.length 0 lo) := by
  unfold cutS
  simp
/-- z[:k] -/
theorem cutS_to (z : Str) (k : Nat) : (cutS z none (some (k : Int))).cps.toList = z.cps.toList.take k := by
  rw [cutS_list, HT.sIx_nat, HT.sIx_none, List.drop_zero, Nat.sub_zero]
  have hl := len_list z
  by_cases h : k ≤ z.length
  · rw [Nat.min_eq_left h]
  · have h' : z.length ≤ k := by omega
    rw [Nat.min_eq_right h', List.take_of_length_le (by omega), List.take_of_length_le (by omega)]
end L2
namespace Vl
open PySem L2 PyProof.Rows My NumText
/-! ### values.py -/
def scalar : V → Bool
  | .non | .int _ | .str _ => true
  | _ => false
def isIntV : V → Bool
  | .int _ => true
  | _ => false
def isNum : V → Bool
  | .int i => decide (-1000000000000000000 ≤ i ∧ i ≤ 1000000000000000000)
  | _ => false
def madeOf (z g : Str) : Bool := z.cps.toList.all fun c => decide (c ∈ g.cps.toList)
def isTxt : V → Bool
  | .str z => decide (z.length ≤ 20) && madeOf z TSs
  | _ => false
def isVal (kind : Str) : V → Bool
  | .non => true
  | v => if kind = "number" then isNum v else isTxt v
def before : V → V → Bool
  | _, .non => false
  | .non, _ => true
  | .int i, .int j => decide (i < j)
  | .str x, .str y => decide (x.cps.toList < y.cps.toList)
  | _, _ => false
def short : V → Prop
  | .str z => z.length ≤ 4000
  | _ => True
def spWhole : Sp := fun vs H Q _ => ∃ v, vs = [v] ∧ scalar v = true ∧ Q (.bl (isIntV v)) H
def spMade : Sp := fun vs H Q _ => ∃ z g : Str, vs = [.str z, .str g] ∧ z.length ≤ 4000 ∧ ∀ H', Same H H' → Q (.bl (madeOf z g)) H'
def spNum : Sp := fun vs H Q _ => ∃ v, vs = [v] ∧ scalar v = true ∧ Q (.bl (isNum v)) H
def spTxt : Sp := fun vs H Q _ => ∃ v, vs = [v] ∧ scalar v = true ∧ short v ∧ ∀ H', Same H H' → Q (.bl (isTxt v)) H'
def spVal : Sp := fun vs H Q _ => ∃ (k : Str) (v : V), vs = [.str k, v] ∧ scalar v = true ∧ short v ∧ ∀ H', Same H H' → Q (.bl (isVal k v)) H'
def spBefore : Sp := fun vs H Q _ => ∃ x y : V, vs = [x, y] ∧ (x = .non ∨ y = .non ∨ (∃ i j, x = .int i ∧ y = .int j) ∨ ∃ i j, x = .str i ∧ y = .str j) ∧ Q (.bl (before x y)) H
/-! words -/
def isDig (c : Nat) : Bool := decide (48 ≤ c ∧ c ≤ 57)
abbrev FGs : Str := Str.ofString "0123456789"
def areFig (l : List Nat) : Bool := decide (l = [48]) || (decide (l ≠ []) && (decide (l[0]? ≠ some 48) && l.all isDig))
def isNW (l : List Nat) : Bool := if l[0]? = some 45 then decide (l.drop 1 ≠ [48]) && areFig (l.drop 1) else areFig l
/-- the number that a word writes -/
def wordInt (l : List Nat) : Int := if l[0]? = some 45 then -((digitsVal (l.drop 1) : Nat) : Int) else ((digitsVal l : Nat) : Int)
def readNum (l : List Nat) : Option Int := if isNW l = true ∧ l.length ≤ 20 ∧ -1000000000000000000 ≤ wordInt l ∧ wordInt l ≤ 1000000000000000000 then some (wordInt l) else none
def readTxt (z : Str) : Option Str := if z.cps.toList[0]? = some 39 ∧ isTxt (.str (cutS z (some 1) none)) = true then some (cutS z (some 1) none) else none
def numV : Option Int → Option V
  | some i => some (.int i)
  | none => none
def txtV : Option Str → Option V
  | some i => some (.str i)
  | none => none
/-- what read_value gives; none: refused -/
def readV (kind word : Str) : Option V := if word = "?" then some .non else if kind = "number" then numV (readNum word.cps.toList) else txtV (readTxt word)
def wordOf : V → Str
  | .non => "?"
  | .str z => Str.ofString "'" ++ z
  | .int i => Str.ofString (toString i)
  | _ => ""
def spWord : Sp := fun vs H Q _ => ∃ v, vs = [v] ∧ scalar v = true ∧ short v ∧ (∀ i, v = .int i → i.natAbs.log2 < 1920) ∧ Q (.str (wordOf v)) H
def spFig : Sp := fun vs H Q _ => ∃ z, vs = [.str z] ∧ z.length ≤ 4000 ∧ ∀ H', Same H H' → Q (.bl (areFig z.cps.toList)) H'
def spNW : Sp := fun vs H Q _ => ∃ z, vs = [.str z] ∧ z.length ≤ 4000 ∧ ∀ H', Same H H' → Q (.bl (isNW z.cps.toList)) H'
/-- a reading: a value, or the class's refusal -/
def orRefused (c : Value) (r : Option V) (H : Hp) (Q : VK) (E : XK) : Prop := ∀ H', Same H H' → match r with
  | some v => Q v H'
  | none => E c (none, true) H'
def spReadN (c : Value) : Sp := fun vs H Q E => ∃ z, vs = [.str z] ∧ z.length ≤ 4000 ∧ orRefused c (numV (readNum z.cps.toList)) H Q E
def spReadT (c : Value) : Sp := fun vs H Q E => ∃ z, vs = [.str z] ∧ z.length ≤ 4000 ∧ orRefused c (txtV (readTxt z)) H Q E
def spReadV (c : Value) : Sp := fun vs H Q E => ∃ k z, vs = [.str k, .str z] ∧ z.length ≤ 4000 ∧ orRefused c (readV k z) H Q E
/-! texts that are plain: short, of real signs -/
def okS (n : Nat) (z : Str) : Prop := z.length ≤ n ∧ ∀ c ∈ z.cps.toList, c < 1114112
theorem okS.lay {n : Nat} {z : Str} (h : okS n z) : (PyData.str z).canLay0 = true := by
  show PyData.strOk z = true
  unfold PyData.strOk
  rw [Array.all_eq_true_iff_forall_mem]
  intro c hc
  exact decide_eq_true (h.2 c (by simpa using hc))
theorem okS.sg {n : Nat} {z : Str} (hl : z.length ≤ n) (h : ∀ c ∈ z.cps.toList, c ∈ SG) : okS n z := ⟨hl, fun c hc => by
  have : ∀ c ∈ SG, c < 1114112 := by decide +kernel
  exact this c (h c hc)⟩
/-- a scalar as data -/
def dV : V → PyData
  | .bl b => .bool b
  | .int i => .int i
  | .str x => .str x
  | _ => .none
def sca : V → Bool
  | .non | .int _ | .str _ | .bl _ => true
  | _ => false
theorem rd_sca {K : PySem.W.Frag} {H : Hp} {v : V} (h : sca v = true) : RD K H v (dV v) := by
  cases v with
  | non => exact .non
  | bl b => exact .bl b
  | int i => exact .int i
  | str x => exact .str x
  | _ => cases h
theorem rds_sca {K : PySem.W.Frag} {H : Hp} : ∀ {xs : List V}, xs.all sca = true → RDs K H xs (xs.map dV)
  | [], _ => .nil
  | x :: xs, h => by
    rw [List.all_cons, Bool.and_eq_true] at h
    exact .cons (rd_sca h.1) (rds_sca h.2)
/-! numbers as texts -/
end Vl
namespace Lw
open PySem L2 PyProof.Rows My NumText
/-! ### the draws of the laws -/
def cellF (ns : List Int) (k : Int) : Int := if 0 < ns.length then ns.getD (k % (ns.length : Int)).toNat 0 else 0
def drawF (ns : List Int) (k m : Int) : Int := (cellF ns k % 1000003 + 31 * k * k + 1) * 48271 % 999983 * 7919 % 524287 % m
theorem drawF_nn (ns : List Int) (k : Int) {m : Int} (h : 0 < m) : 0 ≤ drawF ns k m := Int.emod_nonneg _ (by omega)
theorem drawF_lt (ns : List Int) (k : Int) {m : Int} (h : 0 < m) : drawF ns k m < m := Int.emod_lt_of_pos _ h
def spDraw (K : PySem.W.Frag) : Sp := fun vs H Q _ => ∃ (a : Addr) (ns : List Int) (k m : Int), vs = [.ref a, .int k, .int m] ∧ SqL K H a (ns.map V.int) ∧ ns.length ≤ 63 ∧ 0 ≤ k ∧ k ≤ 100000 ∧ 0 < m ∧ Q (.int (drawF ns k m)) H
/-- the signs of a drawn text -/
def codesF (ns : List Int) (b : Int) (n : Nat) : List Nat := (List.range n).map fun k : Nat => SG.getD (drawF ns (b + (k : Int)) 37).toNat 0
def textF (ns : List Int) (b : Int) (n : Nat) : Str := ⟨(codesF ns b n).toArray⟩
def spText (K : PySem.W.Frag) : Sp := fun vs H Q _ => ∃ (a : Addr) (ns : List Int) (b n : Int), vs = [.ref a, .int b, .int n] ∧ SqL K H a (ns.map V.int) ∧ ns.length ≤ 63 ∧ 0 ≤ b ∧ b ≤ 50000 ∧ 0 ≤ n ∧ n ≤ 1000 ∧ ∀ H', Same H H' → Q (.str (textF ns b n.toNat)) H'
end Lw

namespace Vl
open PySem L2 PyProof.Rows My NumText
/-! ### columns.py -/
inductive All2 {α β : Type} (R : α → β → Prop) : List α → List β → Prop
  | nil : All2 R [] []
  | cons {a : α} {b : β} {l : List α} {m : List β} : R a b → All2 R l m → All2 R (a :: l) (b :: m)
theorem All2.len {α β : Type} {R : α → β → Prop} : ∀ {l : List α} {m : List β}, All2 R l m → l.length = m.length
  | _, _, .nil => rfl
  | _, _, .cons _ t => by rw [List.length_cons, List.length_cons, t.len]
theorem All2.imp {α β : Type} {R S : α → β → Prop} (h : ∀ a b, R a b → S a b) : ∀ {l : List α} {m : List β}, All2 R l m → All2 S l m
  | _, _, .nil => .nil
  | _, _, .cons r t => .cons (h _ _ r) (t.imp h)
theorem All2.get {α β : Type} {R : α → β → Prop} : ∀ {l : List α} {m : List β}, All2 R l m → ∀ {i : Nat} {a : α}, l[i]? = some a → ∃ b, m[i]? = some b ∧ R a b
  | _, _, .nil, i, a, e => by simp at e
  | _, _, .cons r t, 0, a, e => by simp at e; subst e; exact ⟨_, rfl, r⟩
  | _, _, .cons r t, i + 1, a, e => by simp at e; exact t.get e
theorem All2.get' {α β : Type} {R : α → β → Prop} : ∀ {l : List α} {m : List β}, All2 R l m → ∀ {i : Nat} {b : β}, m[i]? = some b → ∃ a, l[i]? = some a ∧ R a b
  | _, _, .nil, i, a, e => by simp at e
  | _, _, .cons r t, 0, a, e => by simp at e; subst e; exact ⟨_, rfl, r⟩
  | _, _, .cons r t, i + 1, a, e => by simp at e; exact t.get' e
theorem All2.app {α β : Type} {R : α → β → Prop} : ∀ {l l' : List α} {m m' : List β}, All2 R l m → All2 R l' m' → All2 R (l ++ l') (m ++ m')
  | _, _, _, _, .nil, h => h
  | _, _, _, _, .cons r t, h => .cons r (t.app h)
theorem All2.drop {α β : Type} {R : α → β → Prop} : ∀ {l : List α} {m : List β} (n : Nat), All2 R l m → All2 R (l.drop n) (m.drop n)
  | _, _, 0, h => h
  | _, _, n + 1, .nil => .nil
  | _, _, n + 1, .cons r t => t.drop n
theorem All2.take {α β : Type} {R : α → β → Prop} : ∀ {l : List α} {m : List β} (n : Nat), All2 R l m → All2 R (l.take n) (m.take n)
  | _, _, 0, h => .nil
  | _, _, n + 1, .nil => .nil
  | _, _, n + 1, .cons r t => .cons r (t.take n)
abbrev Col := Str × Str
/-- the tuple (name, kind) -/
def ColAt (H : Hp) (v : V) (c : Col) : Prop := ∃ t, v = .ref t ∧ H t = some (.tup [.str c.1, .str c.2])
theorem ColAt.same {H H' : Hp} {v : V} {c : Col} (h : ColAt H v c) (s : Same H H') : ColAt H' v c := by
  obtain ⟨t, e, q⟩ := h
  exact ⟨t, e, s _ _ q⟩
/-- the list of the columns -/
def Cols (H : Hp) (a : Addr) (cs : List Col) : Prop := ∃ vs : List V, H a = some (.lst vs) ∧ All2 (ColAt H) vs cs
theorem Cols.same {H H' : Hp} {a : Addr} {cs : List Col} (h : Cols H a cs) (s : Same H H') : Cols H' a cs := by
  obtain ⟨vs, e, q⟩ := h
  exact ⟨vs, s _ _ e, q.imp fun a b r => r.same s⟩
abbrev LTs : Str := Str.ofString "abcdefghijklmnopqrstuvwxyz"
def isName (z : Str) : Bool := decide (1 ≤ z.length ∧ z.length ≤ 8) && madeOf z LTs
def isKind (k : Str) : Bool := decide (k = "number" ∨ k = "text")
def okCols (cs : List Col) : Bool := decide (1 ≤ cs.length ∧ cs.length ≤ 6) && (cs.all fun c => isName c.1 && isKind c.2) && decide ((cs.map Prod.fst).Nodup)
def spName : Sp := fun vs H Q _ => ∃ z, vs = [.str z] ∧ z.length ≤ 4000 ∧ ∀ H', Same H H' → Q (.bl (isName z)) H'
def shortC (cs : List Col) : Prop := ∀ c ∈ cs, c.1.length ≤ 4000 ∧ c.2.length ≤ 4000
def spAsk (c : Value) : Sp := fun vs H Q E => ∃ a cs, vs = [.ref a] ∧ Cols H a cs ∧ cs.length ≤ 4000 ∧ shortC cs ∧ ∀ H', Same H H' → if okCols cs = true then Q .non H' else E c (none, true) H'
def placeF : List Col → Str → Nat → V
  | [], _, _ => .non
  | c :: r, z, i => if c.1 = z then .int i else placeF r z (i + 1)
def spPlace : Sp := fun vs H Q _ => ∃ a cs z, vs = [.ref a, .str z] ∧ Cols H a cs ∧ ∀ H', Same H H' → Q (placeF cs z 0) H'
def isRowN : V → Bool
  | .int i => decide (0 ≤ i ∧ i ≤ 1000000000)
  | _ => false
def spRowN : Sp := fun vs H Q _ => ∃ v, vs = [v] ∧ scalar v = true ∧ Q (.bl (isRowN v)) H
def allVal : List Col → List V → Bool
  | c :: cs, v :: vs => isVal c.2 v && allVal cs vs
  | _, _ => true
def isRow (cs : List Col) (v : V) (xs : List V) : Bool := isRowN v && decide (xs.length = cs.length) && allVal cs xs
def spRow : Sp := fun vs H Q _ => ∃ a cs v b xs, vs = [.ref a, v, .ref b] ∧ Cols H a cs ∧ cs.length ≤ 4000 ∧ scalar v = true ∧ H b = some (.lst xs) ∧ (∀ x ∈ xs, scalar x = true ∧ short x) ∧ ∀ H', Same H H' → Q (.bl (isRow cs v xs)) H'
/-! columns and values as data -/
def dCol (c : Col) : PyData := .tuple [.str c.1, .str c.2]
def layC (cs : List Col) : Prop := ∀ c ∈ cs, okS 4000 c.1 ∧ okS 4000 c.2
theorem vals_lay : ∀ {xs : List V}, (∀ x ∈ xs, sca x = true ∧ ∀ z, x = .str z → okS 4000 z) → (PyData.list (xs.map dV)).canLay0 = true
  | [], _ => rfl
  | x :: xs, h => by
    have ih := vals_lay (xs := xs) fun d hd => h d (by simp [hd])
    have h1 : (dV x).canLay0 = true := by
      obtain ⟨hs, hz⟩ := h x (by simp)
      cases x with
      | str z => exact (hz z rfl).lay
      | _ => rfl
    show ((dV x).canLay0 && PyData.canLayAll0 (xs.map dV)) = true
    rw [h1]
    exact ih
theorem vals_depA : ∀ xs : List V, PyData.depthAll (xs.map dV) ≤ 1
  | [] => by show (0 : Nat) ≤ 1; omega
  | x :: xs => by
    have ih := vals_depA xs
    have h1 : (dV x).depth ≤ 1 := by cases x <;> (show (_ : Nat) ≤ 1; exact Nat.le_of_ble_eq_true rfl)
    show max (dV x).depth (PyData.depthAll (xs.map dV)) ≤ 1
    omega
theorem cutV_to (xs : List V) (k : Nat) : cutV xs none (some (k : Int)) = xs.take k := by
  unfold cutV
  rw [HT.sIx_none, HT.sIx_nat]
  show ((xs.drop 0).take (min k xs.length - 0)) = _
  rw [List.drop_zero, Nat.sub_zero, List.take_eq_take_iff]
  omega
end Vl

namespace Vl
open PySem L2 PyProof.Rows My NumText
/-! ### checks.py -/
def checkR : List Nat → Int
  | [] => 0
  | c :: r => ((c : Int) + 137 * checkR r) % 9973
/-- the check, in four figures -/
def fourF (n : Int) : Str := Txt.zfill (Str.ofString (toString n)) 4
def figV (l : List Nat) : Nat := l.foldl (fun a c => a * 10 + (c - 48)) 0
def fourOk (n : Nat) : Bool := decide ((fourF n).length = 4) && ((fourF n).cps.toList.all isDig && decide (figV (fourF n).cps.toList = n))
def spCheck : Sp := fun vs H Q _ => ∃ z, vs = [.str z] ∧ z.length ≤ 100000 ∧ (∀ c ∈ z.cps.toList, c < 1114112) ∧ Q (.int (checkR z.cps.toList)) H
def spCheckW : Sp := fun vs H Q _ => ∃ z, vs = [.str z] ∧ z.length ≤ 100000 ∧ (∀ c ∈ z.cps.toList, c < 1114112) ∧ Q (.str (fourF (checkR z.cps.toList))) H
/-! ### figures read up to a bound -/
def figN (l : List Nat) (m : Int) : Option Int := if areFig l = true ∧ ((digitsVal l : Nat) : Int) ≤ m then some ((digitsVal l : Nat) : Int) else none
def intO : Option Int → V
  | none => .non
  | some i => .int i
def spReadF : Sp := fun vs H Q _ => ∃ (z : Str) (m : Int) (k : Nat), vs = [.str z, .int m] ∧ z.length ≤ 4000 ∧ 0 ≤ m ∧ m.natAbs < 10 ^ 60 ∧ (Str.ofString (toString m)).length = k ∧ m < ((10 ^ k : Nat) : Int) ∧ 1 ≤ k ∧ k ≤ 600 ∧ ∀ H', Same H H' → Q (intO (figN z.cps.toList m)) H'
end Vl
namespace Vl
open PySem L2 PyProof.Rows My NumText
end Vl

namespace Vl
open PySem L2 PyProof.Rows My NumText
/-! ### orders.py -/
abbrev Ord := Str × Bool
/-- the tuple (name, up) -/
def OrdAt (H : Hp) (v : V) (o : Ord) : Prop := ∃ t, v = .ref t ∧ H t = some (.tup [.str o.1, .bl o.2])
theorem OrdAt.same {H H' : Hp} {v : V} {o : Ord} (h : OrdAt H v o) (s : Same H H') : OrdAt H' v o := by
  obtain ⟨t, e, q⟩ := h
  exact ⟨t, e, s _ _ q⟩
def Ords (H : Hp) (a : Addr) (os : List Ord) : Prop := ∃ vs : List V, H a = some (.lst vs) ∧ All2 (OrdAt H) vs os
theorem Ords.same {H H' : Hp} {a : Addr} {os : List Ord} (h : Ords H a os) (s : Same H H') : Ords H' a os := by
  obtain ⟨vs, e, q⟩ := h
  exact ⟨vs, s _ _ e, q.imp fun a b r => r.same s⟩
def mapO {α β : Type} (f : α → Option β) : List α → Option (List β)
  | [] => some []
  | x :: r => match f x, mapO f r with
    | some y, some ys => some (y :: ys)
    | _, _ => none
/-- a word of an order -/
def ordOf (cs : List Col) (z : Str) : Option Ord :=
  if (z.cps.toList[0]? = some 43 ∨ z.cps.toList[0]? = some 45) ∧ placeF cs (cutS z (some 1) none) 0 ≠ .non then some (cutS z (some 1) none, decide (z.cps.toList[0]? = some 43)) else none
def readOrd (cs : List Col) (z : Str) : Option (List Ord) :=
  if z = "" then some [] else if 4 < (cutT 32 z).length then none else match mapO (ordOf cs) (cutT 32 z) with
    | none => none
    | some os => if (os.map Prod.fst).Nodup then some os else none
def spReadOW (c : Value) : Sp := fun vs H Q E => ∃ a cs z, vs = [.ref a, .str z] ∧ Cols H a cs ∧ z.length ≤ 4000 ∧
  (∀ H', Same H H' → ordOf cs z = none → E c (none, true) H') ∧ ∀ p o H', Same H H' → ordOf cs z = some o → H' p = some (.tup [.str o.1, .bl o.2]) → Q (.ref p) H'
def spReadO (c : Value) : Sp := fun vs H Q E => ∃ a cs z, vs = [.ref a, .str z] ∧ Cols H a cs ∧ z.length ≤ 4000 ∧
  (∀ H', Same H H' → readOrd cs z = none → E c (none, true) H') ∧ ∀ p os H', Same H H' → readOrd cs z = some os → H p = none → Ords H' p os → Q (.ref p) H'
/-- an order's word -/
def ordW (o : Ord) : Str := (if o.2 = true then Str.ofString "+" else Str.ofString "-") ++ o.1
def ordT (os : List Ord) : Str := Str.join " " (os.map ordW)
def spOrdT : Sp := fun vs H Q _ => ∃ a os, vs = [.ref a] ∧ Ords H a os ∧ os.length ≤ 4000 ∧ (∀ o ∈ os, o.1.length ≤ 1000) ∧ ∀ H', Same H H' → Q (.str (ordT os)) H'
end Vl

namespace Vl
open PySem L2 PyProof.Rows My NumText
/-! ### keys -/
def placeN : List Col → Str → Nat
  | [], _ => 0
  | c :: r, z => if c.1 = z then 0 else placeN r z + 1
theorem placeN_lt : ∀ {cs : List Col} {z : Str}, (∃ c ∈ cs, c.1 = z) → placeN cs z < cs.length
  | [], _, h => by obtain ⟨c, hc, _⟩ := h; simp at hc
  | d :: r, z, h => by
    unfold placeN
    split
    · simp
    · rename_i hd
      have := placeN_lt (cs := r) (z := z) (by
        obtain ⟨c, hc, e⟩ := h
        rcases List.mem_cons.mp hc with x | x
        · subst x; exact absurd e hd
        · exact ⟨c, x, e⟩)
      simp
      omega
theorem placeF_N : ∀ {cs : List Col} {z : Str} (i : Nat), (∃ c ∈ cs, c.1 = z) → placeF cs z i = .int ((i + placeN cs z : Nat) : Int)
  | [], _, _, h => by obtain ⟨c, hc, _⟩ := h; simp at hc
  | d :: r, z, i, h => by
    unfold placeF placeN
    split
    · rfl
    · rename_i hd
      rw [placeF_N (i + 1) (by
        obtain ⟨c, hc, e⟩ := h
        rcases List.mem_cons.mp hc with x | x
        · subst x; exact absurd e hd
        · exact ⟨c, x, e⟩)]
      congr 2
      omega
theorem placeN_get : ∀ {cs : List Col} {z : Str}, (∃ c ∈ cs, c.1 = z) → ∃ c, cs[placeN cs z]? = some c ∧ c.1 = z
  | [], _, h => by obtain ⟨c, hc, _⟩ := h; simp at hc
  | d :: r, z, h => by
    unfold placeN
    split
    · rename_i e; exact ⟨d, rfl, e⟩
    · rename_i hd
      obtain ⟨c, h1, h2⟩ := placeN_get (cs := r) (z := z) (by
        obtain ⟨c, hc, e⟩ := h
        rcases List.mem_cons.mp hc with x | x
        · subst x; exact absurd e hd
        · exact ⟨c, x, e⟩)
      exact ⟨c, by simpa using h1, h2⟩
/-- a row's value at a name -/
def atN (cs : List Col) (xs : List V) (z : Str) : V := (xs[placeN cs z]?).getD .non
def keyL (cs : List Col) (os : List Ord) (xs : List V) : List V := os.map fun o => atN cs xs o.1
def inC (cs : List Col) (os : List Ord) : Prop := ∀ o ∈ os, ∃ c ∈ cs, c.1 = o.1
def spKey : Sp := fun vs H Q _ => ∃ a b n c cs os xs, vs = [.ref a, .ref b, .int n, .ref c] ∧ Cols H a cs ∧ Ords H b os ∧ H c = some (.lst xs) ∧ xs.length = cs.length ∧ cs.length ≤ 4000 ∧ os.length ≤ 4000 ∧ inC cs os ∧
  ∀ p l H', Same H H' → H p = none → H l = none → H' l = some (.lst (keyL cs os xs)) → H' p = some (.tup [.ref l, .int n]) → Q (.ref p) H'
/-- values that may be held against one another -/
def like (x y : V) : Prop := x = .non ∨ y = .non ∨ (∃ i j, x = .int i ∧ y = .int j) ∨ ∃ i j, x = .str i ∧ y = .str j
theorem scal_of {x y : V} (hx : scalar x = true) (hy : scalar y = true) : scal x y = true := by
  cases x <;> cases y <;> first | rfl | (exact absurd hx Bool.false_ne_true) | (exact absurd hy Bool.false_ne_true)
def aheadF : List Ord → List V → List V → Int → Int → Bool
  | o :: os, x :: xs, y :: ys, n, k => if x = y then aheadF os xs ys n k else decide (before x y = o.2)
  | _, _, _, n, k => decide (n < k)
def KeyAt (H : Hp) (p : Addr) (xs : List V) (n : Int) : Prop := ∃ l, H p = some (.tup [.ref l, .int n]) ∧ H l = some (.lst xs)
theorem KeyAt.same {H H' : Hp} {p : Addr} {xs : List V} {n : Int} (h : KeyAt H p xs n) (s : Same H H') : KeyAt H' p xs n := by
  obtain ⟨l, h1, h2⟩ := h
  exact ⟨l, s _ _ h1, s _ _ h2⟩
def spAhead : Sp := fun vs H Q _ => ∃ b p q os xs ys n k, vs = [.ref b, .ref p, .ref q] ∧ Ords H b os ∧ KeyAt H p xs n ∧ KeyAt H q ys k ∧ xs.length = os.length ∧ ys.length = os.length ∧ (∀ (i : Nat) x y, xs[i]? = some x → ys[i]? = some y → scalar x = true ∧ scalar y = true ∧ like x y) ∧
  ∀ H', Same H H' → Q (.bl (aheadF os xs ys n k)) H'
theorem aheadF_skip : ∀ {i : Nat} {os : List Ord} {xs ys : List V} {n k : Int}, xs.length = os.length → ys.length = os.length → i ≤ os.length → (∀ j x y, j < i → xs[j]? = some x → ys[j]? = some y → x = y) → aheadF os xs ys n k = aheadF (os.drop i) (xs.drop i) (ys.drop i) n k
  | 0, _, _, _, _, _, _, _, _, _ => rfl
  | i + 1, [], [], [], _, _, _, _, hi, _ => by simp at hi
  | i + 1, o :: os, x :: xs, y :: ys, n, k, h1, h2, hi, h => by
    show (if x = y then aheadF os xs ys n k else decide (before x y = o.2)) = _
    rw [if_pos (h 0 x y (by omega) rfl rfl)]
    exact aheadF_skip (by simpa using h1) (by simpa using h2) (by simpa using hi) fun j x y hj e1 e2 => h (j + 1) x y (by omega) (by simpa using e1) (by simpa using e2)
  | i + 1, [], _ :: _, _, _, _, h1, _, _, _ => by simp at h1
  | i + 1, [], [], _ :: _, _, _, _, h2, _, _ => by simp at h2
  | i + 1, _ :: _, [], _, _, _, h1, _, _, _ => by simp at h1
  | i + 1, _ :: _, _ :: _, [], _, _, _, h2, _, _ => by simp at h2
theorem drop_get {α : Type} {l : List α} {i : Nat} {x : α} (h : l[i]? = some x) : l.drop i = x :: l.drop (i + 1) := by
  obtain ⟨hi, e⟩ := List.getElem?_eq_some_iff.mp h
  rw [← e]
  exact List.drop_eq_getElem_cons hi
theorem aheadF_hit {i : Nat} {os : List Ord} {xs ys : List V} {n k : Int} {o : Ord} {x y : V} (h1 : xs.length = os.length) (h2 : ys.length = os.length) (ho : os[i]? = some o) (hx : xs[i]? = some x) (hy : ys[i]? = some y) (h : ∀ j x y, j < i → xs[j]? = some x → ys[j]? = some y → x = y) (hne : ¬ x = y) : aheadF os xs ys n k = decide (before x y = o.2) := by
  have hi := (List.getElem?_eq_some_iff.mp ho).1
  rw [aheadF_skip h1 h2 (by omega) h, drop_get ho, drop_get hx, drop_get hy]
  show (if x = y then _ else _) = _
  rw [if_neg hne]
theorem aheadF_end {os : List Ord} {xs ys : List V} {n k : Int} (h1 : xs.length = os.length) (h2 : ys.length = os.length) (h : ∀ j x y, j < os.length → xs[j]? = some x → ys[j]? = some y → x = y) : aheadF os xs ys n k = decide (n < k) := by
  rw [aheadF_skip h1 h2 (Nat.le_refl _) h, List.drop_length]
  rfl
end Vl

namespace Vl
open PySem L2 PyProof.Rows My NumText
/-! ### numbers written and read back -/
/-! ### words parted by blanks -/
/-! ### places of names -/
/-! ### before, as the laws walk it -/
/-! ### a sign some times -/
theorem repS_go (x : Nat) : ∀ (k : Nat) (acc : Array Nat), ((List.replicate k #[x]).foldl (· ++ ·) acc).toList = acc.toList ++ List.replicate k x
  | 0, acc => by simp
  | k + 1, acc => by
    rw [List.replicate_succ, List.foldl_cons, repS_go x k, List.replicate_succ]
    simp
theorem repS_one (x : Nat) (n : Int) (h : 0 ≤ n) : (repS (⟨#[x]⟩ : Str) n).cps.toList = List.replicate n.toNat x := by
  show ((List.replicate n.toNat #[x]).foldl (· ++ ·) #[]).toList = _
  rw [repS_go]
  simp
end Vl

/-! list.insert; sorted of a dict of ints, at a state -/
namespace L2
open PySem PySem.Spec PyProof.Rows PySem.W
section
variable {X : Cx} {σ : St} {H : Hp} {Q : VK} {a : Addr}
/-- xs with y put in at the place k -/
def insAt {α : Type} (xs : List α) (k : Nat) (y : α) : List α := xs.take k ++ y :: xs.drop k
def rInsert : V → List V → Hp → VK → Prop := fun x vs H Q => ∃ l xs k y, x = .ref l ∧ vs = [.int (k : Nat), y] ∧ H l = some (.lst xs) ∧ k ≤ xs.length ∧ xs.length < sizeLine ∧ Q .non (upd H l (.lst (insAt xs k y)))
theorem mt_insert : MtM X "list.insert" rInsert := by
  intro pins s σ H x vs v us Q I rx rv h
  obtain ⟨l, xs, k, y, rfl, rfl, hH, hk, hz, q⟩ := h
  cases rx
  obtain ⟨u0, u, rfl, ru0, ru⟩ := rv.two
  obtain ⟨t, rfl⟩ := ru0
  have hsz : sizeLine = 16777216 := sizeLine_eq
  obtain ⟨z, its, n, r, hl, e⟩ := I.lstM hH
  obtain ⟨i, hi⟩ : ∃ i : Int, i = (k : Int) := ⟨_, rfl⟩
  rw [← hi]
  have hf : Builtin.List.listFitsIndex i = true := fitsIndex_both (by omega) (by omega)
  have hm := PySem.AutoSeq1.list_insert_list_int_val_1 l its.toArray n i t u (by rw [hf]; decide) (by rw [List.size_toArray]; omega)
  refine call_meets F.slot_list_insert ⟨_, e, rfl⟩ F.entry_list_insert (F.args_list_insert_3 (.ref l) (.int i t) u) hm ⟨e, ?_⟩
  refine ⟨.non, _, I.lset (its' := insAt its k u) hH e ?_ ((r.take k).append (.cons ru (r.drop k))) ?_, rfl, q⟩
  · show (its.toArray.extract 0 (if i < 0 then (i + (its.toArray.size : Int)).toNat else min i.toNat its.toArray.size)).push u ++ its.toArray.extract (if i < 0 then (i + (its.toArray.size : Int)).toNat else min i.toNat its.toArray.size) = (insAt its k u).toArray
    rw [if_neg (by omega), hi, Int.toNat_natCast, List.size_toArray, Nat.min_eq_left (by omega)]
    unfold insAt
    apply Array.toList_inj.mp
    simp
    rw [List.take_of_length_le (by rw [List.length_drop]; omega)]
  · rw [List.length_append, List.length_cons, List.length_take, List.length_drop]
    omega
/-- d[i], as values -/
theorem i_dict {y v : V} (hu : X.A.units + 1 < cLine) (g : DGet H a y (some v)) (q : Q v H) : IX X (.ref a) y H Q := by
  refine ix_by (r := fun x y H Q => ∃ a v, x = .ref a ∧ DGet H a y (some v) ∧ Q v H) ?_ ⟨a, v, rfl, g, q⟩
  intro value slice pins s σ H x y w u Q I rx ry h hs
  obtain ⟨a, v, rfl, g, q⟩ := h
  obtain rfl : w = Value.ref a := rx
  have ty := dict_typeIs I g
  have run : wpAny (model X.prog X.w) X.A (subscripted slice false (Value.ref a) u) (fun r s2 => wpAny (model X.prog X.w) X.A (letTemporaryGo value (Value.ref a) r >>= fun _ => pure r) (EP X pins σ Q) X.xe s2) X.xe s := by
    rw [hs]
    exact wpAny_operating (d_getItem hu I g ry fun r s2 I2 rr => wpAny_bind (wpAny_letTemporaryGo (wpAny_pure ⟨v, H, I2, rr, q⟩)))
  unfold subscriptTail
  refine wpAny_bind ?_
  rw [getitemInPython_of_ne ty.not_modules]
  refine wpAny_bind (wpAny_specialOf ty PySem.F.slot_dict_getitem.lookup ?_)
  first
    | exact wpAny_pure (wpAny_bind run)
    | exact wpAny_bind (wpAny_pure (wpAny_bind run))
    | exact wpAny_bind run
end
end L2

/-! dicts of ints as data; books -/
namespace Vl
open PySem L2 PyProof.Rows My
section
variable {α β : Type}
def aGet (m : List (Int × α)) (i : Int) : Option α := (m.find? fun p => decide (p.1 = i)).map (·.2)
def aPut (m : List (Int × α)) (i : Int) (x : α) : List (Int × α) := if (m.any fun p => decide (p.1 = i)) = true then m.map (fun p => if p.1 = i then (p.1, x) else p) else m ++ [(i, x)]
def aDrop (m : List (Int × α)) (i : Int) : List (Int × α) := m.filter fun p => decide (p.1 ≠ i)
/-- keys and what stands at them -/
abbrev PR (R : V → α → Prop) (kv : Key × V) (p : Int × α) : Prop := kv.1 = Sum.inl p.1 ∧ R kv.2 p.2
def DictAt (R : V → α → Prop) (H : Hp) (a : Addr) (m : List (Int × α)) : Prop := ∃ kvs, H a = some (.dK kvs) ∧ All2 (PR R) kvs m
/-- the same but for some -/
def Out (S : List Addr) (H H' : Hp) : Prop := ∀ b o, b ∉ S → H b = some o → H' b = some o
/-! ### books -/
def TupAt (H : Hp) (v : V) (xs : List V) : Prop := ∃ t, v = .ref t ∧ H t = some (.tup xs)
def OptAt (H : Hp) (v : V) : Option (List V) → Prop
  | none => v = .non
  | some xs => TupAt H v xs
structure Deed where
  at_ : Int
  row : Int
  was : Option (List V)
  is : Option (List V)
def DeedAt (H : Hp) (v : V) (d : Deed) : Prop := ∃ t w u, v = .ref t ∧ H t = some (.tup [.int d.at_, .int d.row, w, u]) ∧ OptAt H w d.was ∧ OptAt H u d.is
structure Bk where
  heads : List Col
  rows : List (Int × List V)
  touched : List (Int × Int)
  done : List Deed
  known : Int
  now : Int
/-- where a book's things stand -/
structure BA where
  b : Addr
  dx : Addr
  h : Addr
  r : Addr
  t : Addr
  d : Addr
def IntAt (v : V) (i : Int) : Prop := v = .int i
structure BookAt (C : Addr) (H : Hp) (A : BA) (B : Bk) : Prop where
  ins : H A.b = some (.ins C A.dx [("heads", .ref A.h), ("rows", .ref A.r), ("touched", .ref A.t), ("done", .ref A.d), ("known", .int B.known), ("now", .int B.now)])
  own : H A.dx = some (.own A.b)
  heads : Cols H A.h B.heads
  rows : DictAt (TupAt H) H A.r B.rows
  touched : DictAt IntAt H A.t B.touched
  done : ∃ xs, H A.d = some (.lst xs) ∧ All2 (DeedAt H) xs B.done
  rt : A.r ≠ A.t
  hd : A.h ≠ A.d
/-- what a book may write -/
def BA.fp (A : BA) : List Addr := [A.b, A.r, A.t, A.d]
section
variable {C : Addr} {H H' : Hp} {A : BA} {B : Bk}
end
end
end Vl

/-! list(reversed(a list)) -/
namespace L2
open PySem PySem.Spec PyProof.Rows PySem.W
section
variable {prog : Program} {w : World} {A : Around} {E : Value → Shared → Prop} {s : Shared}
variable {I : Addr} {fp wr : List Addr} {G : Array GenState → Array GenState → Prop} {n : Nat} {P : Nat → Value → Prop} {St : Nat → Shared → Prop}
end
section
variable {X : Cx} {σ : St} {H : Hp} {Q : VK} {a : Expr} {p pos p' pos' : Pos}
end
end L2

/-! dict.pop with a default; for over a tuple -/
namespace L2
open PySem PySem.Spec PyProof.Rows PySem.W
section
variable {X : Cx} {σ : St} {H : Hp} {Q : VK} {D : Ends} {o e f : Expr} {apos cpos pos : Pos}
end
end L2

/-! for over a dict of ints that is the function's own; it is out of sight meanwhile and behind it -/
namespace L2
open PySem PySem.Spec PyProof.Rows PySem.W
section
variable {X : Cx} {pins : List (Addr × Obj)} {σ : St} {H : Hp} {s : Shared} {d : Addr}
theorem Inv.young (I : Inv X pins σ H s) {o : HO} (hd : H d = some o) (h0 : X.H₀ d = none) : d ≠ X.env.locals ∧ d ∉ X.fs ∧ (d ∈ X.ex ∨ X.s₀.heap.get? d = none) ∧ (∀ x c, X.env.cells.lookup x = some c → c ≠ d) ∧ ∀ p ∈ X.pn ++ pins, p.1 ≠ d := by
  have hx : d ∈ X.ex ∨ X.s₀.heap.get? d = none := by
    by_cases hx : d ∈ X.ex
    · exact .inl hx
    · cases e : X.s₀.heap.get? d with
      | none => exact .inr rfl
      | some u =>
        have := I.base.free d u e h0 hx
        rw [hd] at this
        cases this
  refine ⟨fun z => ?_, fun z => ?_, hx, fun x c e z => ?_, fun p hp z => ?_⟩
  · have := I.free
    rw [← z, hd] at this
    cases this
  · rcases hx with hx | hx
    · exact I.ok.exfs d hx z
    · obtain ⟨_, u, hu, _⟩ := I.ok.funs.mem z
      rw [hx] at hu
      cases hu
  · have := I.freeC x c e
    rw [z, hd] at this
    cases this
  · have := (I.pin p hp).2.1
    rw [z, hd] at this
    cases this
end
def Itd (ks : List Int) : It := ⟨fun i _ => i < ks.length, fun i H x H' => H' = H ∧ ∃ k, ks[i]? = some k ∧ x = .int k, fun i _ => i = ks.length⟩
section
variable {X : Cx} {σ : St} {H : Hp} {a e : Expr} {tg : Expr} {pos : Pos} {R : It → Hp → Prop} {D : Ends}
end
end L2

/-! isinstance(e, (a, b, ..)) of an exception -/
namespace L2
open PySem PySem.Spec PyProof.Rows PySem.W
section
variable {X : Cx} {H : Hp} {Q : VK} {e C : Addr} {D : Option Addr} {k : Bool}
end
section
variable {X : Cx} {σ σ' : St} {H : Hp} {Q : VK} {a b tg elt : Expr} {scope : Scope} {p p' pos : Pos}
end
end L2

/-! list.count of True or False -/
namespace L2
open PySem PySem.Spec PyProof.Rows PySem.W
section
variable {X : Cx} {H : Hp} {Q : VK}
end
end L2
/-! x is not False; for over range(a, b) -/
namespace L2
open PySem PySem.Spec PyProof.Rows PySem.W
section
variable {X : Cx} {H : Hp} {Q : VK}
variable {σ : St} {a b tg : Expr} {p p' pos : Pos} {D : Ends}
end
end L2

/-! a dict of three written pairs -/
namespace L2
open PySem PySem.Spec PyProof.Rows PySem.W
section
variable {X : Cx} {σ : St} {H : Hp} {Q : VK} {pos : Pos}
end
end L2

/-! raise .. from None within an except suite -/
namespace L2
open PySem PySem.Spec PyProof.Rows
def refAt : Option Addr → Value
  | none => .none
  | some b => .ref b
section
variable {prog : Program} {w : World} {A : Around} {E : Value → Shared → Prop} {s : Shared} {env : Env}
end
section
variable {prog : Program} {w : World} {A : Around} {E : Value → Shared → Prop} {s : Shared} {env : Env}
variable {nm q : Str} {C N : Addr} {bs bm : List Value} {hdct : Bool} {sn : List Str} {sub : List Value} {ab : Bool} {col : Option Bool} {dd : Option Addr} {k0 k1 k2 k3 k5 : Option Value}
end
end L2

namespace L2
open PySem PySem.Spec PyProof.Rows
section
variable {X : Cx} {Kx : St → XK} {D : Ends} {σ : St} {H : Hp} {rest : List ExceptHandler} {pos np ynp cpos rpos p0 : Pos} {x y fld : Str} {cls c : Value} {d : Option Addr × Bool} {a : Expr} {as : List Expr} {cc : Bool} {k k' j0 : Nat}
end
end L2

/-! str.rpartition by one sign -/
namespace L2
open PySem PySem.Spec PyProof.Rows PySem.Builtin PySem.Builtin.Str
def lastP (p : Nat → Bool) : Nat → Option Nat
  | 0 => none
  | n + 1 => if p n = true then some n else lastP p n
section
variable {X : Cx} {H : Hp} {Q : VK} {z : Str}
end
end L2

/-! comprehensions with a test, over a list, whose elements are plain values -/
namespace L2
open PySem PySem.Spec PyProof.Rows
def keptF (keep : Nat → Bool) (val : Nat → V) (n : Nat) : List V := ((List.range n).filter keep).map val
section
variable {X : Cx} {e c : Expr} {σ σ' : St} {H : Hp} {Q : VK} {D : Ends} {pos spos py : Pos} {tg elt : Expr} {scope : Scope} {y : Str} {j : Nat}
/-- what is wanted of a comprehension with a test -/
def CompF (X : Cx) (N' : List Str) (scope : Scope) (tg elt c : Expr) (σ' : St) (H1 : Hp) (Q : VK) (xs : List V) : Prop :=
  ∃ (Tp : St → Prop) (keep : Nat → Bool) (val : Nat → V), Tp σ' ∧
    (∀ (fp : List Addr) (E C : Addr) (s3 : Shared) (H0 : Hp) (i : Nat) (τ : St) (x : V) (H2 : Hp), H1 E = none → xs[i]? = some x → Tp τ → Same H1 H2 →
      EG (blk X N' scope (closL scope X.env) C s3 H0 fp) tg x τ H2 fun τ2 H3 => ET (blk X N' scope (closL scope X.env) C s3 H0 fp) c τ2 H3 fun k H4 => k = keep i ∧ Tp τ2 ∧ Same H2 H4 ∧ (k = true → EV (blk X N' scope (closL scope X.env) C s3 H0 fp) elt τ2 H4 fun v H5 => v = val i ∧ Same H4 H5)) ∧
    ∀ (E : Addr) (H2 : Hp), H1 E = none → H2 E = some (.lst (keptF keep val xs.length)) → Same H1 H2 → Q (.ref E) H2
end
end L2

/-! list(range(a, b)); comprehensions with a test over a text -/
namespace L2
open PySem PySem.Spec PyProof.Rows
section
variable {X : Cx} {e c : Expr} {es : List Expr} {σ σ' : St} {H : Hp} {Q : VK} {D : Ends} {p pos spos py : Pos} {tg elt : Expr} {scope : Scope} {y : Str} {j : Nat}
def rngL (a : Int) (n : Nat) : List V := (List.range n).map fun i => V.int (a + (i : Nat))
def signsV (z : Str) : List V := z.cps.toList.map fun c => V.str ⟨#[c]⟩
end
end L2

/-! except (A, B, C): raise Y("text") from None -/
namespace L2
open PySem PySem.Spec PyProof.Rows
section
variable {X : Cx} {Kx : St → XK} {D : Ends} {σ : St} {H : Hp} {rest : List ExceptHandler} {pos ynp cpos rpos p0 p1 p2 p3 tpos zp : Pos} {x1 x2 x3 y z : Str} {cls c1 c2 c3 : Value} {d : Option Addr × Bool} {kk j0 j1 : Nat} {name : Option Str} {body : List Stmt}
end
end L2

/-! [elt for (x, y) in zip(a, b)], whose elements may raise -/
namespace L2
open PySem PySem.Spec PyProof.Rows
section
variable {X : Cx} {a e : Expr} {σ σ' : St} {H : Hp} {Q : VK} {D : Ends} {pos spos py p p' : Pos} {tg elt iter : Expr} {scope : Scope} {Kx : St → XK} {y : Str} {j : Nat}
end
end L2

/-! no clause matches: the exception goes on -/
namespace L2
open PySem PySem.Spec PyProof.Rows
section
variable {X : Cx} {Kx : St → XK} {D : Ends} {σ : St} {H : Hp} {cls : Value} {d : Option Addr × Bool}
end
end L2

/-! text.upper() -/
namespace L2
open PySem PySem.Spec PyProof.Rows
/-- signs made great -/
def upC (c : Nat) : Nat := if 97 ≤ c ∧ c ≤ 122 then c - 32 else c
section
variable {X : Cx} {H : Hp} {Q : VK} {z : Str}
end
end L2

/-! for over a dict of ints that is shut (its object known and kept): it may be read meanwhile -/
namespace L2
open PySem PySem.Spec PyProof.Rows PySem.W
section
variable {X : Cx} {pins : List (Addr × Obj)} {σ : St} {H : Hp} {s : Shared} {d : Addr}
theorem Inv.shut {kvs : List (Key × V)} (I : Inv X pins σ H s) (hn : H d = some (.dK kvs)) (h0 : X.H₀ d = none) : ∃ o, Inv X pins σ (upd H d (.frz o (.dK kvs))) s := by
  have y := I.young hn h0
  obtain ⟨z, lo, vs, hKV, hdo⟩ := dk_of I.hok hn
  obtain ⟨o, es, ep, ho, _⟩ := id hdo
  refine ⟨o, ?_⟩
  have st : ∀ b u, ObjOk X.prog X.w H s.heap b u → ObjOk X.prog X.w (upd H d (.frz o (.dK kvs))) s.heap b u := fun b u q => q.stay (fun _ _ _ r => r) (fun c r => by rw [upd_ne (fun z => by rw [z, hn] at r; cases r)]; exact r) fun c xs r => by rw [upd_ne (fun z => by rw [z, hn] at r; cases r)]; exact r
  have := I.step (h' := s.heap) (H' := upd H d (.frz o (.dK kvs))) (g' := s.gens) (d' := s.drawn) (t' := s.toks) (ch := [d]) (fun b hb => ?_) (fun b o _ _ _ q _ => q) (fun b o _ _ _ q _ => ⟨o.slots, q⟩) (fun b o hc _ n => ?_) (fun b o _ q => ⟨o, q⟩) (fun b xs q => ?_) (fun b o u q => ?_) (fun b ps q => ?_) (fun m q => q) (fun b u q => ?_) I.bare
  · exact this
  · have z : b = d := by simpa using hb
    subst z
    exact ⟨y.2.2.1, y.1, y.2.2.2.1, y.2.2.2.2⟩
  · rw [upd_ne (fun z => hc (by simp [z]))]; exact n
  · rw [upd_ne (fun z => by rw [z, hn] at q; cases q)]; exact q
  · rw [upd_ne (fun z => by rw [z, hn] at q; cases q)]; exact q
  · exact ⟨#[], by rw [upd_ne (fun z => by rw [z, hn] at q; cases q), q]; simp⟩
  · by_cases z : b = d
    · subst z
      rw [upd_same] at q
      cases q
      exact ⟨ho, st _ _ (I.hok _ _ hn)⟩
    · rw [upd_ne z] at q
      exact st b u (I.hok b u q)
theorem sxs_shut {body : List Stmt} {D : Ends} {kvs : List (Key × V)} (hn : H d = some (.dK kvs)) (h0 : X.H₀ d = none) (h : ∀ o, SXs X body D σ (upd H d (.frz o (.dK kvs)))) : SXs X body D σ H := fun pins s I => by
  obtain ⟨o, I2⟩ := I.shut hn h0
  exact h o pins s I2
end
def Itf (d : Addr) (o : Obj) (kvs : List (Key × V)) (ks : List Int) : It := ⟨fun i H => i < ks.length ∧ H d = some (.frz o (.dK kvs)), fun i H x H' => H' = H ∧ ∃ k, ks[i]? = some k ∧ x = .int k, fun i H => i = ks.length ∧ H d = some (.frz o (.dK kvs))⟩
theorem turn_dictF {P : Program} {w : World} {K : PySem.W.Frag} {tg : Expr} (it d : Addr) (o : Obj) (kvs : List (Key × V)) (ks : List Int) (vs : List (Key × Value)) (ep : Nat) (hv : vs.map (·.1) = ks.map Sum.inl) (hne : d ≠ it) (hat : ∀ h : Heap, h.get? d = some o → h.DictAt (mixKind P w) d vs ep) : Turn P w K tg (Itf d o kvs ks) [it] it (fun i h => h.IsKeyIter it d i vs.length ep) where
  mem := by simp
  obj := fun i h st b hb => by
    have e : b = it := by simpa using hb
    subst e
    obtain ⟨o, e, c, dd⟩ := st
    exact ⟨o, e, fun v z => by rw [dd] at z; cases z⟩
  keep := fun i h h' st k => st.at fun o e => k it (by simp) o e
  item := by
    intro X hP hw hK hc i pins s σ H E I hf st hg
    subst hP hw hK
    have hi : i < ks.length := hg.1
    have hD := hat s.heap (show ObjOk X.prog X.w H s.heap d (.frz o (.dK kvs)) from I.hok d _ hg.2).1
    have hvl : vs.length = ks.length := by have := congrArg List.length hv; simpa using this
    have hx : vs[i]? = some (vs[i]'(by omega)) := List.getElem?_eq_getElem _
    have hk : (vs[i]'(by omega)).1 = Sum.inl ks[i] := by
      have e1 : (vs.map (·.1))[i]? = some (vs[i]'(by omega)).1 := by rw [List.getElem?_map, hx]; rfl
      rw [hv, List.getElem?_map, List.getElem?_eq_getElem hi] at e1
      simpa using e1.symm
    generalize vs[i]'(by omega) = kx at hx hk
    obtain ⟨k, x⟩ := kx
    obtain ⟨f0, f1, f2, f3, f4, f5⟩ := hf it (by simp)
    refine wpAny_pyNext_dict_item st hD hx fun key h' hkey hit' hs' => ?_
    have I1 : Inv X pins σ H { s with heap := h' } := I.turned (t' := s.toks) (fun b o hb e => (hs'.2 b hb).trans e) f0 f1 f3 f4 f5
    have hk' : k = Sum.inl ks[i] := hk
    rcases keyIs_shape (k := k) (v := key) hkey with ⟨i', t, e6, rfl⟩ | ⟨y, t, e6, _⟩
    · rw [hk'] at e6
      cases e6
      obtain ⟨o, e, c, dd⟩ := id hit'
      exact ⟨_, rfl, go_of (s := { s with heap := h' }) e c dd (by decide) ⟨.int ks[i], H, I1, ⟨t, rfl⟩, ⟨rfl, ks[i], List.getElem?_eq_getElem hi, rfl⟩, hit', fun b hb => (hf b hb).1⟩⟩
    · rw [hk'] at e6
      cases e6
  done := by
    intro X hP hw hK hc i pins s σ H E I hf st hg
    subst hP hw hK
    have e : i = ks.length := hg.1
    have hD := hat s.heap (show ObjOk X.prog X.w H s.heap d (.frz o (.dK kvs)) from I.hok d _ hg.2).1
    have hvl : vs.length = ks.length := by have := congrArg List.length hv; simpa using this
    obtain ⟨f0, f1, f2, f3, f4, f5⟩ := hf it (by simp)
    have hn : vs[i]? = none := List.getElem?_eq_none (by omega)
    exact wpAny_pyNext_dict_end (I.ok.hd hc) st hD hn fun h' eb => ⟨rfl, I.turned (t' := s.toks) (fun b o hb e => eb b o hb e) f0 f1 f3 f4 f5⟩
  self := fun _ _ _ _ _ st h => wpAny_pyIter_keyiter st h
section
variable {X : Cx} {σ : St} {H : Hp} {a e : Expr} {tg : Expr} {pos : Pos} {R : It → Hp → Prop} {D : Ends}
theorem ei_dictF (h : EV X a σ H fun v H1 => ∃ (d : Addr) (o : Obj) (kvs : List (Key × V)) (ks : List Int), v = .ref d ∧ H1 d = some (.frz o (.dK kvs)) ∧ kvs.map (·.1) = ks.map Sum.inl ∧ R (Itf d o kvs ks) H1) : EI X tg a σ H R := by
  intro pins s I
  refine thn (h pins s I) fun v s1 ⟨x, H1, I1, rx, d, o, kvs, ks, ex, hd, hk, q⟩ => ?_
  subst ex
  obtain rfl : v = Value.ref d := rx
  obtain ⟨z, lo, vs, hKV, hdo⟩ := dk_rd I1.hok (.inr ⟨o, hd⟩)
  obtain ⟨ep, hm⟩ := hdo.dictAt
  have ho := (show ObjOk X.prog X.w H1 s1.heap d (.frz o (.dK kvs)) from I1.hok d _ hd).1
  refine wpAny_pyIter_dict lo hm ?_
  refine ⟨s1.heap.objs.size, [s1.heap.objs.size], _, Itf d o kvs ks, H1, rfl, I1.kept (t' := s1.toks) (fun b o e => Heap.get?_push_of_some _ e), turn_dictF s1.heap.objs.size d o kvs ks vs ep (by rw [← hKV.keys]; exact hk) (Nat.ne_of_lt hm.lt_size) (fun h e => hm.at' fun o' e' => by rw [ho] at e'; cases e'; exact e), ⟨_, Heap.get?_push_size _ rfl, rfl, rfl⟩, fun b hb => ?_, q⟩
  have hb' : b = s1.heap.objs.size := by simpa using hb
  subst hb'
  exact I1.fpOk (Nat.le_refl _) (I1.hok.fresh (Nat.le_refl _))
theorem sx_forDF {body : List Stmt} (hp : PassesOwn (model X.prog X.w) X.A X.env X.xe) (hc : X.calm = true) (hs : ∀ x, foldedSetIterable e X.env x = pure x)
    (h : EV X e σ H fun v H1 => ∃ (d : Addr) (o : Obj) (kvs : List (Key × V)) (ks : List Int), v = .ref d ∧ H1 d = some (.frz o (.dK kvs)) ∧ kvs.map (·.1) = ks.map Sum.inl ∧ ∃ Pv : Nat → St → Hp → Prop, Pv 0 σ H1 ∧ (∀ i σ' H', Pv i σ' H' → H' d = some (.frz o (.dK kvs))) ∧
      (∀ i k σ' H', ks[i]? = some k → Pv i σ' H' → EG X tg (.int k) σ' H' fun σ2 H2 => SXs X body { D with nx := Pv (i + 1), ct := Pv (i + 1), bk := D.nx } σ2 H2) ∧ ∀ σ' H', Pv ks.length σ' H' → D.nx σ' H') :
    SX X (.For tg e body [] pos) D σ H := by
  refine sx_for hp hc hs (ei_dictF (ev_mono h fun v H1 q => ?_))
  obtain ⟨d, o, kvs, ks, rfl, hd, hk, Pv, p0, hfz, hst, hdn⟩ := q
  refine ⟨d, o, kvs, ks, rfl, hd, hk, fun i m σ H => m = ks.length - i ∧ i ≤ ks.length ∧ Pv i σ H, ⟨ks.length, by simp, Nat.zero_le _, p0⟩, ?_⟩
  rintro i m σ' H' ⟨rfl, hi, p⟩
  by_cases hlt : i < ks.length
  · refine .inr ⟨⟨hlt, hfz i _ _ p⟩, Pv (i + 1), fun σ2 H2 p2 => ⟨ks.length - (i + 1), by omega, rfl, hlt, p2⟩, fun x H2 y => ?_⟩
    obtain ⟨rfl, k, hk, rfl⟩ := y
    exact hst i k σ' _ hk p
  · have e : i = ks.length := by omega
    refine .inl ⟨⟨e, hfz i _ _ p⟩, ?_⟩
    subst e
    exact hdn σ' H' p
end
end L2

/-! own words for the steps (keys of one's own at the library's walk_at) -/
local macro_rules | `(tactic| walk_at "nm") => `(tactic| refine L2.ev_name (by rfl) (by first | exact Or.inl rfl | exact Or.inr (Or.inl rfl) | exact Or.inr (Or.inr rfl)) ?_ (by decide) (by decide))
local macro_rules | `(tactic| walk_at "gc") => `(tactic| refine L2.ev_gc (by assumption) (by rfl) ?_ (by decide))
local macro_rules | `(tactic| walk_at "ty") => `(tactic| first
  | ((with_reducible show L2.EV _ (PySem.Expr.Name "list" _) _ _ _); refine L2.ty_list (by rfl) (by assumption) ?_)
  | ((with_reducible show L2.EV _ (PySem.Expr.Name "tuple" _) _ _ _); refine L2.ty_tuple (by rfl) (by assumption) ?_)
  | ((with_reducible show L2.EV _ (PySem.Expr.Name "int" _) _ _ _); refine L2.ty_int (by rfl) (by assumption) ?_)
  | ((with_reducible show L2.EV _ (PySem.Expr.Name "bool" _) _ _ _); refine L2.ty_bool (by rfl) (by assumption) ?_))
local macro_rules | `(tactic| walk_at "cb") => `(tactic| first
  | ((with_reducible show L2.EV _ (PySem.Expr.Call (PySem.Expr.Name "len" _) _ _ _) _ _ _); refine L2.cb_len (by rfl) (by assumption) (by rfl) (by rfl) ?_)
  | ((with_reducible show L2.EV _ (PySem.Expr.Call (PySem.Expr.Name "isinstance" _) _ _ _) _ _ _); refine L2.cb_isinstance (by rfl) (by assumption) (by rfl) (by rfl) ?_)
  | ((with_reducible show L2.EV _ (PySem.Expr.Call (PySem.Expr.Name "min" _) _ _ _) _ _ _); refine L2.cb_min (by rfl) (by assumption) (by rfl) (by rfl) ?_)
  | ((with_reducible show L2.EV _ (PySem.Expr.Call (PySem.Expr.Name "max" _) _ _ _) _ _ _); refine L2.cb_max (by rfl) (by assumption) (by rfl) (by rfl) ?_))
local macro_rules | `(tactic| walk_at "ct") => `(tactic| first
  | ((with_reducible show L2.EV _ (PySem.Expr.Call (PySem.Expr.Name "list" _) _ _ _) _ _ _); refine L2.ct_list (by rfl) (by assumption) (by rfl) (by rfl) ?_)
  | ((with_reducible show L2.EV _ (PySem.Expr.Call (PySem.Expr.Name "tuple" _) _ _ _) _ _ _); refine L2.ct_tuple (by rfl) (by assumption) (by rfl) (by rfl) ?_)
  | ((with_reducible show L2.EV _ (PySem.Expr.Call (PySem.Expr.Name "int" _) _ _ _) _ _ _); refine L2.ct_int (by rfl) (by assumption) (by rfl) (by rfl) ?_)
  | ((with_reducible show L2.EV _ (PySem.Expr.Call (PySem.Expr.Name "bool" _) _ _ _) _ _ _); refine L2.ct_bool (by rfl) (by assumption) (by rfl) (by rfl) ?_))
local macro_rules | `(tactic| walk_at "xo") => `(tactic| first | exact L2.xok_fn | assumption | exact L2.xok_false rfl)
local macro_rules | `(tactic| walk_at "po") => `(tactic| first | exact L2.passes_fn | assumption | exact PySem.PassesOwn.never)
local macro_rules | `(tactic| walk_at "cl") => `(tactic| first
  | refine L2.ev_call (by assumption) (by assumption) (by first | decide | omega) (by decide) (by rfl) (by walk_at "xo") (by decide) (by rfl) (by rfl) ?_
  | refine L2.ev_call0 (by assumption) (by assumption) (by first | decide | omega) (by decide) (by rfl) (by walk_at "xo") (by decide) ?_)
local macro_rules | `(tactic| walk_at "bm") => `(tactic| first
  | refine L2.ev_bm PySem.F.plainAttrs_str PySem.F.slot_str_join PySem.F.type_str_join (by rfl) (by rfl) (by rfl) (by rfl) (by rfl) ?_
  | refine L2.ev_bm PySem.F.plainAttrs_str PySem.F.slot_str_index PySem.F.type_str_index (by rfl) (by rfl) (by rfl) (by rfl) (by rfl) ?_
  | refine L2.ev_bm PySem.F.plainAttrs_str PySem.F.slot_str_startswith PySem.F.type_str_startswith (by rfl) (by rfl) (by rfl) (by rfl) (by rfl) ?_)
/-- one step of an expression -/
local macro_rules | `(tactic| walk_at "e") => `(tactic| first
  | ((with_reducible show L2.EV _ (PySem.Expr.Name _ _) _ _ _); first | (walk_at "ty") | (walk_at "nm") | (walk_at "gc"))
  | (with_reducible refine L2.ev_int ?_)
  | (with_reducible refine L2.ev_str ?_)
  | (with_reducible refine L2.ev_bl ?_)
  | (with_reducible refine L2.ev_non ?_)
  | (with_reducible refine L2.ev_bin ?_)
  | ((with_reducible show L2.EV _ (PySem.Expr.Compare _ [_] [_] _) _ _ _); refine L2.ev_cmp (by first | exact L2.nomark _ (by decide) (by decide) | rfl) ?_)
  | ((with_reducible show L2.EV _ (PySem.Expr.Compare _ [_, _] [_, _] _) _ _ _); refine L2.ev_chain (by with_unfolding_all rfl) ?_)
  | (with_reducible refine L2.ev_one ?_)
  | (with_reducible refine L2.ev_and ?_)
  | (with_reducible refine L2.ev_or ?_)
  | (with_reducible refine L2.ev_notV ?_)
  | (with_reducible refine L2.ev_un ?_)
  | (with_reducible refine L2.ev_ifE ?_)
  | (with_reducible refine L2.ev_tup ?_)
  | (with_reducible refine L2.ev_lst ?_)
  | (with_reducible refine L2.ev_sl ?_)
  | ((with_reducible show L2.EV _ (PySem.Expr.Subscript _ _ _) _ _ _); refine L2.ev_ix (fun _ _ => by rfl) ?_)
  | ((with_reducible show L2.EV _ (PySem.Expr.Call (PySem.Expr.Name _ _) _ _ _) _ _ _); first | (walk_at "cb") | (walk_at "ct") | (walk_at "cl"))
  | ((with_reducible show L2.EV _ (PySem.Expr.Call (PySem.Expr.Attribute _ _ _) _ _ _) _ _ _); (walk_at "bm"))
  | (with_reducible refine L2.ev_fstrL ?_)
  | ((with_reducible show L2.EJL _ (PySem.Expr.Constant _ _ _ :: _) _ _ _ _); refine L2.ejl_cons (L2.ev_str ⟨_, 200, rfl, by decide +kernel, by omega, ?_⟩))
  | ((with_reducible show L2.EJL _ (PySem.Expr.FormattedValue _ _ _ _ :: _) _ _ _ _); refine L2.ejl_cons ?_)
  | ((with_reducible show L2.EJL _ [] _ _ _ _); refine L2.ejl_nil (by omega) ?_)
  | (with_reducible refine L2.ea_nil ?_)
  | ((with_reducible show L2.EA _ (_ :: _) _ _ _); refine L2.ea_cons (by rfl) ?_)
  | (with_reducible refine L2.eo_none ?_)
  | (with_reducible refine L2.eo_some ?_)
  | ((with_reducible show L2.ET _ (PySem.Expr.Compare _ [_] [_] _) _ _ _); refine L2.et_cmp (by first | exact L2.nomark _ (by decide) (by decide) | rfl) ?_)
  | ((with_reducible show L2.ET _ (PySem.Expr.Compare _ [_, _] [_, _] _) _ _ _); refine L2.et_chain (by with_unfolding_all rfl) ?_)
  | (with_reducible refine L2.et_not ?_)
  | ((with_reducible show L2.ET _ (PySem.Expr.BoolOp _ _ _) _ _ _); refine L2.et_w ?_)
  | (with_reducible refine L2.ew_and1 ?_)
  | (with_reducible refine L2.ew_or1 ?_)
  | (with_reducible refine L2.ew_and ?_)
  | (with_reducible refine L2.ew_or ?_)
  | ((with_reducible show L2.ET _ (PySem.Expr.Name _ _) _ _ _); refine L2.et_val (fun _ => by rfl) ?_)
  | ((with_reducible show L2.ET _ (PySem.Expr.Call _ _ _ _) _ _ _); refine L2.et_val (fun _ => by rfl) ?_)
  | ((with_reducible show L2.ET _ (PySem.Expr.Subscript _ _ _) _ _ _); refine L2.et_val (fun _ => by rfl) ?_)
  | ((with_reducible show L2.ET _ (PySem.Expr.Constant _ _ _) _ _ _); refine L2.et_val (fun _ => by rfl) ?_))
/-- one operation on values -/
local macro_rules | `(tactic| walk_at "o") => `(tactic| with_reducible first
  | refine L2.o_add ?_ | refine L2.o_sub ?_ | refine L2.o_lt ?_ | refine L2.o_le ?_ | refine L2.o_gt ?_ | refine L2.o_ge ?_
  | refine L2.o_isN ?_ | refine L2.o_notN ?_ | refine L2.o_ltS ?_ | refine L2.o_inS ?_ | refine L2.o_ninS ?_ | refine L2.u_neg ?_
  | refine L2.o_p18 ?_ | refine L2.o_p9 ?_ | refine L2.o_p17 ?_ | refine L2.o_p19 ?_)
local macro_rules | `(tactic| walk_at "o2") => `(tactic| first
  | ((with_reducible show L2.OP _ (PySem.compareOp PySem.CmpOp.Eq) _ _ _ _); refine L2.o_eq (by rfl) ?_)
  | ((with_reducible show L2.OP _ (PySem.compareOp PySem.CmpOp.NotEq) _ _ _ _); refine L2.o_ne (by rfl) ?_)
  | ((with_reducible show L2.OP _ (PySem.binaryOp PySem.Operator.Mod) (L2.V.int _) (L2.V.int _) _ _); refine L2.o_mod (by first | decide | omega) ?_)
  | ((with_reducible show L2.OP _ (PySem.binaryOp PySem.Operator.Mult) (L2.V.int _) (L2.V.int _) _ _); refine L2.o_mul (by first | exact Or.inr ⟨by decide, by decide⟩ | exact Or.inl ⟨by decide, by decide⟩ | exact Or.inl ⟨by omega, by omega⟩ | exact Or.inr ⟨by omega, by omega⟩) ?_)
  | ((with_reducible show L2.OP _ (PySem.binaryOp PySem.Operator.Pow) (L2.V.int _) (L2.V.int _) _ _); refine L2.o_pow ⟨by decide, by decide, by decide⟩ ?_)
  | ((with_reducible show L2.CL _ (PySem.Value.builtin "len") [L2.V.ref _] _ _); refine L2.c_len (Or.inl (by assumption)) ?_)
  | ((with_reducible show L2.CL _ (PySem.Value.builtin "len") [L2.V.str _] _ _); refine L2.c_lenS (by omega) ?_)
  | ((with_reducible show L2.CL _ (PySem.Value.builtin "ord") [L2.V.str _] _ _); refine L2.c_ord ?_)
  | ((with_reducible show L2.CL _ (PySem.Value.builtin "isinstance") _ _ _); with_reducible first | refine L2.is_int_int ?_ | refine L2.is_int_bool ?_ | refine L2.is_int_str ?_ | refine L2.is_int_list ?_ | refine L2.is_int_tuple ?_ | refine L2.is_int_dict ?_ | refine L2.is_bool_int ?_ | refine L2.is_bool_bool ?_ | refine L2.is_bool_str ?_ | refine L2.is_bool_list ?_ | refine L2.is_bool_tuple ?_ | refine L2.is_bool_dict ?_ | refine L2.is_str_int ?_ | refine L2.is_str_bool ?_ | refine L2.is_str_str ?_ | refine L2.is_str_list ?_ | refine L2.is_str_tuple ?_ | refine L2.is_str_dict ?_ | refine L2.is_NoneType_int ?_ | refine L2.is_NoneType_bool ?_ | refine L2.is_NoneType_str ?_ | refine L2.is_NoneType_list ?_ | refine L2.is_NoneType_tuple ?_ | refine L2.is_NoneType_dict ?_))
/-- a test's value that is a truth -/
local macro_rules | `(tactic| walk_at "t") => `(tactic| first
  | (with_reducible refine L2.iteT ?_)
  | (with_reducible refine L2.iteF ?_)
  | (with_reducible refine L2.iteNT ?_)
  | (with_reducible refine L2.iteNF ?_)
  | (with_reducible first | refine L2.iteZ ?_ | refine L2.iteZi ?_ | refine L2.iteZs ?_ | refine L2.iteZr ?_ | refine L2.iteZb ?_ | refine L2.iteY ?_ | refine L2.iteYi ?_ | refine L2.iteYs ?_ | refine L2.iteYr ?_ | refine L2.iteYb ?_)
  | ((with_reducible show ∃ k, L2.V.bl _ = L2.V.bl k ∧ _); refine ⟨_, rfl, ?_⟩)
  | ((with_reducible show ∃ k, L2.TruV _ (L2.V.bl _) _ k ∧ _); refine ⟨_, rfl, ?_⟩)
  | ((with_reducible show ∃ i, L2.V.int _ = L2.V.int i ∧ _); refine ⟨_, rfl, ?_⟩)
  | ((with_reducible show L2.tyV _ _ (L2.V.str _) _ ∧ _); refine ⟨by rfl, ?_⟩))
/-- statements -/
local macro_rules | `(tactic| walk_at "s") => `(tactic| first
  | (with_reducible refine L2.sxs_nil ?_)
  | (with_reducible refine L2.sxs_one ?_)
  | (with_reducible refine L2.sxs_cons ?_)
  | (with_reducible refine L2.sx_ret ?_)
  | (with_reducible refine L2.sx_retN ?_)
  | (with_reducible refine L2.sx_pass ?_)
  | (with_reducible refine L2.sx_if ?_)
  | ((with_reducible show L2.SX _ (PySem.Stmt.Assign [PySem.Expr.Name _ _] _ _) _ _ _); refine L2.sx_set (by assumption) (by rfl) (by first | exact Or.inl rfl | exact Or.inr rfl) (by rfl) (by first | exact Or.inl rfl | exact Or.inr rfl) ?_)
  | ((with_reducible show L2.SX _ (PySem.Stmt.Expr _ _) _ _ _); refine L2.sx_expr (by rfl) ?_))
local macro_rules | `(tactic| walk_at "go") => `(tactic| repeat' (first | (walk_at "e") | (walk_at "o") | (walk_at "o2") | (walk_at "t") | (walk_at "s")))
local macro_rules | `(tactic| walk_at "ex") => `(tactic| repeat' (first | (walk_at "e") | (walk_at "o") | (walk_at "o2") | (walk_at "t")))
namespace L2
theorem shp1 {α : Type} {us : List α} (h : us.length = 1) : ∃ a, us = [a] := match us, h with | [a], _ => ⟨a, rfl⟩
theorem shp2 {α : Type} {us : List α} (h : us.length = 2) : ∃ a b, us = [a, b] := match us, h with | [a, b], _ => ⟨a, b, rfl⟩
theorem shp3 {α : Type} {us : List α} (h : us.length = 3) : ∃ a b c, us = [a, b, c] := match us, h with | [a, b, c], _ => ⟨a, b, c, rfl⟩
theorem shp4 {α : Type} {us : List α} (h : us.length = 4) : ∃ a b c d, us = [a, b, c, d] := match us, h with | [a, b, c, d], _ => ⟨a, b, c, d, rfl⟩
theorem shp5 {α : Type} {us : List α} (h : us.length = 5) : ∃ a b c d e, us = [a, b, c, d, e] := match us, h with | [a, b, c, d, e], _ => ⟨a, b, c, d, e, rfl⟩
theorem shp6 {α : Type} {us : List α} (h : us.length = 6) : ∃ a b c d e f, us = [a, b, c, d, e, f] := match us, h with | [a, b, c, d, e, f], _ => ⟨a, b, c, d, e, f, rfl⟩
end L2
namespace K60
open PySem L2 PyProof.Rows
def top (i : Nat) : Stmt := PySem.Challenge.pw_turnleaf_k60_leaves_of_a_line.main.body.getD i (.Pass ⟨0, 0, 0, 0⟩)
abbrev s_is_whole : Stmt := top 4
abbrev s_value_before : Stmt := top 5
abbrev s_place_of : Stmt := top 7
abbrev s_key_of : Stmt := top 9
abbrev s_key_ahead : Stmt := top 10
abbrev s_lies_ahead : Stmt := top 16
abbrev s_cut_place : Stmt := top 17
abbrev s_ask_size : Stmt := top 20
abbrev s_copy_of_cut : Stmt := top 21
abbrev s_cut_beside : Stmt := top 22
abbrev s_leaf_between : Stmt := top 23
abbrev s_leaf_forth : Stmt := top 24
abbrev s_leaf_back : Stmt := top 25
abbrev s__law_draw : Stmt := top 27
abbrev s__law_names : Stmt := top 28
abbrev s__law_columns : Stmt := top 29
abbrev s__law_value : Stmt := top 30
abbrev s__law_values : Stmt := top 31
abbrev s__law_order : Stmt := top 32
abbrev s__law_lets : Stmt := top 33
abbrev s__law_key : Stmt := top 34
abbrev s__law_is_ahead : Stmt := top 35
abbrev s__law_line : Stmt := top 36
abbrev s__law_cut : Stmt := top 37
abbrev s__law_place : Stmt := top 38
abbrev s__law_due : Stmt := top 39
abbrev s__law_is_told : Stmt := top 40
abbrev s_law : Stmt := top 41
/-- what the top has made -/
structure Txt (K : PySem.W.Frag) (mg : Str → Option Value) : Prop where
  d_is_whole : ∃ f fd, Fun K "is_whole" "is_whole" s_is_whole f fd ∧ mg "is_whole" = some (.ref f)
  d_value_before : ∃ f fd, Fun K "value_before" "value_before" s_value_before f fd ∧ mg "value_before" = some (.ref f)
  d_place_of : ∃ f fd, Fun K "place_of" "place_of" s_place_of f fd ∧ mg "place_of" = some (.ref f)
  d_key_of : ∃ f fd, Fun K "key_of" "key_of" s_key_of f fd ∧ mg "key_of" = some (.ref f)
  d_key_ahead : ∃ f fd, Fun K "key_ahead" "key_ahead" s_key_ahead f fd ∧ mg "key_ahead" = some (.ref f)
  d_lies_ahead : ∃ f fd, Fun K "lies_ahead" "lies_ahead" s_lies_ahead f fd ∧ mg "lies_ahead" = some (.ref f)
  d_cut_place : ∃ f fd, Fun K "cut_place" "cut_place" s_cut_place f fd ∧ mg "cut_place" = some (.ref f)
  d_ask_size : ∃ f fd, Fun K "ask_size" "ask_size" s_ask_size f fd ∧ mg "ask_size" = some (.ref f)
  d_copy_of_cut : ∃ f fd, Fun K "copy_of_cut" "copy_of_cut" s_copy_of_cut f fd ∧ mg "copy_of_cut" = some (.ref f)
  d_cut_beside : ∃ f fd, Fun K "cut_beside" "cut_beside" s_cut_beside f fd ∧ mg "cut_beside" = some (.ref f)
  d_leaf_between : ∃ f fd, Fun K "leaf_between" "leaf_between" s_leaf_between f fd ∧ mg "leaf_between" = some (.ref f)
  d_leaf_forth : ∃ f fd, Fun K "leaf_forth" "leaf_forth" s_leaf_forth f fd ∧ mg "leaf_forth" = some (.ref f)
  d_leaf_back : ∃ f fd, Fun K "leaf_back" "leaf_back" s_leaf_back f fd ∧ mg "leaf_back" = some (.ref f)
  d__law_draw : ∃ f fd, Fun K "_law_draw" "_law_draw" s__law_draw f fd ∧ mg "_law_draw" = some (.ref f)
  d__law_names : ∃ f fd, Fun K "_law_names" "_law_names" s__law_names f fd ∧ mg "_law_names" = some (.ref f)
  d__law_columns : ∃ f fd, Fun K "_law_columns" "_law_columns" s__law_columns f fd ∧ mg "_law_columns" = some (.ref f)
  d__law_value : ∃ f fd, Fun K "_law_value" "_law_value" s__law_value f fd ∧ mg "_law_value" = some (.ref f)
  d__law_values : ∃ f fd, Fun K "_law_values" "_law_values" s__law_values f fd ∧ mg "_law_values" = some (.ref f)
  d__law_order : ∃ f fd, Fun K "_law_order" "_law_order" s__law_order f fd ∧ mg "_law_order" = some (.ref f)
  d__law_lets : ∃ f fd, Fun K "_law_lets" "_law_lets" s__law_lets f fd ∧ mg "_law_lets" = some (.ref f)
  d__law_key : ∃ f fd, Fun K "_law_key" "_law_key" s__law_key f fd ∧ mg "_law_key" = some (.ref f)
  d__law_is_ahead : ∃ f fd, Fun K "_law_is_ahead" "_law_is_ahead" s__law_is_ahead f fd ∧ mg "_law_is_ahead" = some (.ref f)
  d__law_line : ∃ f fd, Fun K "_law_line" "_law_line" s__law_line f fd ∧ mg "_law_line" = some (.ref f)
  d__law_cut : ∃ f fd, Fun K "_law_cut" "_law_cut" s__law_cut f fd ∧ mg "_law_cut" = some (.ref f)
  d__law_place : ∃ f fd, Fun K "_law_place" "_law_place" s__law_place f fd ∧ mg "_law_place" = some (.ref f)
  d__law_due : ∃ f fd, Fun K "_law_due" "_law_due" s__law_due f fd ∧ mg "_law_due" = some (.ref f)
  d__law_is_told : ∃ f fd, Fun K "_law_is_told" "_law_is_told" s__law_is_told f fd ∧ mg "_law_is_told" = some (.ref f)
  d_law : ∃ f fd, Fun K "law" "law" s_law f fd ∧ mg "law" = some (.ref f)
  g_START : Gc mg "START" (.str "start")
  g_END : Gc mg "END" (.str "end")
  g_AHEAD : Gc mg "AHEAD" (.str "ahead")
  g_BEHIND : Gc mg "BEHIND" (.str "behind")
  g_LARGEST_SIZE : Gc mg "LARGEST_SIZE" (.int 100)
  n_ValueError : mg "ValueError" = none
  n_bool : mg "bool" = none
  n_enumerate : mg "enumerate" = none
  n_int : mg "int" = none
  n_isinstance : mg "isinstance" = none
  n_len : mg "len" = none
  n_list : mg "list" = none
  n_max : mg "max" = none
  n_min : mg "min" = none
  n_range : mg "range" = none
  n_tuple : mg "tuple" = none
  n_zip : mg "zip" = none
  m_NoSize : mg "NoSize" = some (.ref (clsA mg "NoSize"))
  x_NoSize : XCls K mg "NoSize"
abbrev N_is_whole : List Str := ["value"]
theorem sc_is_whole : FnScope N_is_whole ["value"] (defScope s_is_whole) := ⟨rfl, rfl, rfl, by decide +kernel, rfl, by decide +kernel, by decide +kernel⟩
abbrev N_value_before : List Str := ["one", "other"]
theorem sc_value_before : FnScope N_value_before ["one", "other"] (defScope s_value_before) := ⟨rfl, rfl, rfl, by decide +kernel, rfl, by decide +kernel, by decide +kernel⟩
abbrev N_place_of : List Str := ["columns", "name", "place", "column"]
theorem sc_place_of : FnScope N_place_of ["columns", "name"] (defScope s_place_of) := ⟨rfl, rfl, rfl, by decide +kernel, rfl, by decide +kernel, by decide +kernel⟩
abbrev N_key_of : List Str := ["columns", "order", "row", "values"]
theorem sc_key_of : FnScope N_key_of ["columns", "order", "row", "values"] (defScope s_key_of) := ⟨rfl, rfl, rfl, by decide +kernel, rfl, by decide +kernel, by decide +kernel⟩
abbrev N_key_ahead : List Str := ["order", "one", "other", "column", "value", "against"]
theorem sc_key_ahead : FnScope N_key_ahead ["order", "one", "other"] (defScope s_key_ahead) := ⟨rfl, rfl, rfl, by decide +kernel, rfl, by decide +kernel, by decide +kernel⟩
abbrev N_lies_ahead : List Str := ["order", "key", "cut"]
theorem sc_lies_ahead : FnScope N_lies_ahead ["order", "key", "cut"] (defScope s_lies_ahead) := ⟨rfl, rfl, rfl, by decide +kernel, rfl, by decide +kernel, by decide +kernel⟩
abbrev N_cut_place : List Str := ["columns", "order", "line", "cut", "low", "high", "middle", "row", "values"]
theorem sc_cut_place : FnScope N_cut_place ["columns", "order", "line", "cut"] (defScope s_cut_place) := ⟨rfl, rfl, rfl, by decide +kernel, rfl, by decide +kernel, by decide +kernel⟩
abbrev N_ask_size : List Str := ["size"]
theorem sc_ask_size : FnScope N_ask_size ["size"] (defScope s_ask_size) := ⟨rfl, rfl, rfl, by decide +kernel, rfl, by decide +kernel, by decide +kernel⟩
abbrev N_copy_of_cut : List Str := ["cut", "values", "row"]
theorem sc_copy_of_cut : FnScope N_copy_of_cut ["cut"] (defScope s_copy_of_cut) := ⟨rfl, rfl, rfl, by decide +kernel, rfl, by decide +kernel, by decide +kernel⟩
abbrev N_cut_beside : List Str := ["columns", "order", "side", "rows", "cut", "row", "values"]
theorem sc_cut_beside : FnScope N_cut_beside ["columns", "order", "side", "rows", "cut"] (defScope s_cut_beside) := ⟨rfl, rfl, rfl, by decide +kernel, rfl, by decide +kernel, by decide +kernel⟩
abbrev N_leaf_between : List Str := ["columns", "order", "line", "cut", "start", "stop", "here", "back", "forth"]
theorem sc_leaf_between : FnScope N_leaf_between ["columns", "order", "line", "cut", "start", "stop"] (defScope s_leaf_between) := ⟨rfl, rfl, rfl, by decide +kernel, rfl, by decide +kernel, by decide +kernel⟩
abbrev N_leaf_forth : List Str := ["columns", "order", "line", "cut", "size", "start"]
theorem sc_leaf_forth : FnScope N_leaf_forth ["columns", "order", "line", "cut", "size"] (defScope s_leaf_forth) := ⟨rfl, rfl, rfl, by decide +kernel, rfl, by decide +kernel, by decide +kernel⟩
abbrev N_leaf_back : List Str := ["columns", "order", "line", "cut", "size", "stop"]
theorem sc_leaf_back : FnScope N_leaf_back ["columns", "order", "line", "cut", "size"] (defScope s_leaf_back) := ⟨rfl, rfl, rfl, by decide +kernel, rfl, by decide +kernel, by decide +kernel⟩
abbrev N__law_draw : List Str := ["_law_script", "_law_k", "_law_many", "_law_cell", "_law_seed"]
theorem sc__law_draw : FnScope N__law_draw ["_law_script", "_law_k", "_law_many"] (defScope s__law_draw) := ⟨rfl, rfl, rfl, by decide +kernel, rfl, by decide +kernel, by decide +kernel⟩
abbrev N__law_names : List Str := ["_law_script", "_law_many", "_law_letters", "_law_word", "_law_size", "_law_at", "_law_first", "_law_some", "_law_k", "_law_name", "_law_sign"]
theorem sc__law_names : FnScope N__law_names ["_law_script", "_law_many"] (defScope s__law_names) := ⟨rfl, rfl, rfl, by decide +kernel, rfl, by decide +kernel, by decide +kernel⟩
abbrev N__law_columns : List Str := ["_law_script", "_law_many", "_law_names_here", "_law_some"]
theorem sc__law_columns : FnScope N__law_columns ["_law_script"] (defScope s__law_columns) := ⟨rfl, rfl, rfl, by decide +kernel, rfl, by decide +kernel, by decide +kernel⟩
abbrev N__law_value : List Str := ["_law_script", "_law_k", "_law_kind", "_law_way", "_law_cell", "_law_sign"]
theorem sc__law_value : FnScope N__law_value ["_law_script", "_law_k", "_law_kind"] (defScope s__law_value) := ⟨rfl, rfl, rfl, by decide +kernel, rfl, by decide +kernel, by decide +kernel⟩
abbrev N__law_values : List Str := ["_law_script", "_law_k", "_law_columns_here"]
theorem sc__law_values : FnScope N__law_values ["_law_script", "_law_k", "_law_columns_here"] (defScope s__law_values) := ⟨rfl, rfl, rfl, by decide +kernel, rfl, by decide +kernel, by decide +kernel⟩
abbrev N__law_order : List Str := ["_law_script", "_law_k", "_law_columns_here", "_law_first", "_law_order_here", "_law_n", "_law_name"]
theorem sc__law_order : FnScope N__law_order ["_law_script", "_law_k", "_law_columns_here"] (defScope s__law_order) := ⟨rfl, rfl, rfl, by decide +kernel, rfl, by decide +kernel, by decide +kernel⟩
abbrev N__law_lets : List Str := ["_law_sieve", "_law_values_here", "_law_value_here"]
theorem sc__law_lets : FnScope N__law_lets ["_law_sieve", "_law_values_here"] (defScope s__law_lets) := ⟨rfl, rfl, rfl, by decide +kernel, rfl, by decide +kernel, by decide +kernel⟩
abbrev N__law_key : List Str := ["_law_columns_here", "_law_order_here", "_law_one", "_law_names_here"]
theorem sc__law_key : FnScope N__law_key ["_law_columns_here", "_law_order_here", "_law_one"] (defScope s__law_key) := ⟨rfl, rfl, rfl, by decide +kernel, rfl, by decide +kernel, by decide +kernel⟩
abbrev N__law_is_ahead : List Str := ["_law_order_here", "_law_one", "_law_other", "_law_k", "_law_mine", "_law_theirs", "_law_less"]
theorem sc__law_is_ahead : FnScope N__law_is_ahead ["_law_order_here", "_law_one", "_law_other"] (defScope s__law_is_ahead) := ⟨rfl, rfl, rfl, by decide +kernel, rfl, by decide +kernel, by decide +kernel⟩
abbrev N__law_line : List Str := ["_law_columns_here", "_law_order_here", "_law_sieve", "_law_rows", "_law_line_here", "_law_row", "_law_key_here", "_law_at", "_law_other"]
theorem sc__law_line : FnScope N__law_line ["_law_columns_here", "_law_order_here", "_law_sieve", "_law_rows"] (defScope s__law_line) := ⟨rfl, rfl, rfl, by decide +kernel, rfl, by decide +kernel, by decide +kernel⟩
abbrev N__law_cut : List Str := ["_law_script", "_law_columns_here", "_law_order_here", "_law_line_here", "_law_way", "_law_one"]
theorem sc__law_cut : FnScope N__law_cut ["_law_script", "_law_columns_here", "_law_order_here", "_law_line_here"] (defScope s__law_cut) := ⟨rfl, rfl, rfl, by decide +kernel, rfl, by decide +kernel, by decide +kernel⟩
abbrev N__law_place : List Str := ["_law_columns_here", "_law_order_here", "_law_line_here", "_law_cut_here", "_law_many", "_law_one", "_law_key_here"]
theorem sc__law_place : FnScope N__law_place ["_law_columns_here", "_law_order_here", "_law_line_here", "_law_cut_here"] (defScope s__law_place) := ⟨rfl, rfl, rfl, by decide +kernel, rfl, by decide +kernel, by decide +kernel⟩
abbrev N__law_due : List Str := ["_law_columns_here", "_law_order_here", "_law_line_here", "_law_cut_here", "_law_first", "_law_after", "_law_here", "_law_back", "_law_forth"]
theorem sc__law_due : FnScope N__law_due ["_law_columns_here", "_law_order_here", "_law_line_here", "_law_cut_here", "_law_first", "_law_after"] (defScope s__law_due) := ⟨rfl, rfl, rfl, by decide +kernel, rfl, by decide +kernel, by decide +kernel⟩
abbrev N__law_is_told : List Str := ["_law_columns_here", "_law_order_here", "_law_line_here", "_law_cut_here", "_law_size", "_law_forth", "_law_place_here", "_law_due_here", "_law_handed", "_law_found", "_law_k", "_law_one"]
theorem sc__law_is_told : FnScope N__law_is_told ["_law_columns_here", "_law_order_here", "_law_line_here", "_law_cut_here", "_law_size", "_law_forth"] (defScope s__law_is_told) := ⟨rfl, rfl, rfl, by decide +kernel, rfl, by decide +kernel, by decide +kernel⟩
abbrev N_law : List Str := ["_law_script", "_law_columns_here", "_law_order_here", "_law_rows", "_law_k", "_law_row", "_law_line_here", "_law_size", "_law_cut_here"]
theorem sc_law : FnScope N_law ["_law_script"] (defScope s_law) := ⟨rfl, rfl, rfl, by decide +kernel, rfl, by decide +kernel, by decide +kernel⟩
section
variable {P : Program} {w : World} {K : PySem.W.Frag} {mg : Str → Option Value} {base : Heap}
theorem df_is_whole (T : Txt K mg) {cc : Bool} {k : Nat} {sp : Sp} (len : ∀ vs H Q E, sp vs H Q E → vs.length = 1) (body : ∀ (f : Addr) (cdv : Value) (A : Around) (outer : List Env) (s : Shared) (H : Hp) (vs : List V) (Q : VK) (E : XK), Room cc k (A.deeper (envOfC "is_whole" (defScope s_is_whole) s.heap.objs.size f cdv)) → sp vs H Q E → SXs (CxF cc P w K mg base N_is_whole "is_whole" (defScope s_is_whole) f cdv A outer s H E) (defBody s_is_whole) { nx := fun _ H' => Q .non H', rt := Q } (start N_is_whole vs) H) : Def P w K mg base cc (k + 1) "is_whole" ["value"] sp := def_of T.d_is_whole sc_is_whole (fun _ _ _ _ _ _ us hl => by obtain ⟨_, rfl⟩ := shp1 hl; rfl) len body
theorem df_value_before (T : Txt K mg) {cc : Bool} {k : Nat} {sp : Sp} (len : ∀ vs H Q E, sp vs H Q E → vs.length = 2) (body : ∀ (f : Addr) (cdv : Value) (A : Around) (outer : List Env) (s : Shared) (H : Hp) (vs : List V) (Q : VK) (E : XK), Room cc k (A.deeper (envOfC "value_before" (defScope s_value_before) s.heap.objs.size f cdv)) → sp vs H Q E → SXs (CxF cc P w K mg base N_value_before "value_before" (defScope s_value_before) f cdv A outer s H E) (defBody s_value_before) { nx := fun _ H' => Q .non H', rt := Q } (start N_value_before vs) H) : Def P w K mg base cc (k + 1) "value_before" ["one", "other"] sp := def_of T.d_value_before sc_value_before (fun _ _ _ _ _ _ us hl => by obtain ⟨_, _, rfl⟩ := shp2 hl; rfl) len body
theorem df_place_of (T : Txt K mg) {cc : Bool} {k : Nat} {sp : Sp} (len : ∀ vs H Q E, sp vs H Q E → vs.length = 2) (body : ∀ (f : Addr) (cdv : Value) (A : Around) (outer : List Env) (s : Shared) (H : Hp) (vs : List V) (Q : VK) (E : XK), Room cc k (A.deeper (envOfC "place_of" (defScope s_place_of) s.heap.objs.size f cdv)) → sp vs H Q E → SXs (CxF cc P w K mg base N_place_of "place_of" (defScope s_place_of) f cdv A outer s H E) (defBody s_place_of) { nx := fun _ H' => Q .non H', rt := Q } (start N_place_of vs) H) : Def P w K mg base cc (k + 1) "place_of" ["columns", "name"] sp := def_of T.d_place_of sc_place_of (fun _ _ _ _ _ _ us hl => by obtain ⟨_, _, rfl⟩ := shp2 hl; rfl) len body
theorem df_key_of (T : Txt K mg) {cc : Bool} {k : Nat} {sp : Sp} (len : ∀ vs H Q E, sp vs H Q E → vs.length = 4) (body : ∀ (f : Addr) (cdv : Value) (A : Around) (outer : List Env) (s : Shared) (H : Hp) (vs : List V) (Q : VK) (E : XK), Room cc k (A.deeper (envOfC "key_of" (defScope s_key_of) s.heap.objs.size f cdv)) → sp vs H Q E → SXs (CxF cc P w K mg base N_key_of "key_of" (defScope s_key_of) f cdv A outer s H E) (defBody s_key_of) { nx := fun _ H' => Q .non H', rt := Q } (start N_key_of vs) H) : Def P w K mg base cc (k + 1) "key_of" ["columns", "order", "row", "values"] sp := def_of T.d_key_of sc_key_of (fun _ _ _ _ _ _ us hl => by obtain ⟨_, _, _, _, rfl⟩ := shp4 hl; rfl) len body
theorem df_key_ahead (T : Txt K mg) {cc : Bool} {k : Nat} {sp : Sp} (len : ∀ vs H Q E, sp vs H Q E → vs.length = 3) (body : ∀ (f : Addr) (cdv : Value) (A : Around) (outer : List Env) (s : Shared) (H : Hp) (vs : List V) (Q : VK) (E : XK), Room cc k (A.deeper (envOfC "key_ahead" (defScope s_key_ahead) s.heap.objs.size f cdv)) → sp vs H Q E → SXs (CxF cc P w K mg base N_key_ahead "key_ahead" (defScope s_key_ahead) f cdv A outer s H E) (defBody s_key_ahead) { nx := fun _ H' => Q .non H', rt := Q } (start N_key_ahead vs) H) : Def P w K mg base cc (k + 1) "key_ahead" ["order", "one", "other"] sp := def_of T.d_key_ahead sc_key_ahead (fun _ _ _ _ _ _ us hl => by obtain ⟨_, _, _, rfl⟩ := shp3 hl; rfl) len body
theorem df_lies_ahead (T : Txt K mg) {cc : Bool} {k : Nat} {sp : Sp} (len : ∀ vs H Q E, sp vs H Q E → vs.length = 3) (body : ∀ (f : Addr) (cdv : Value) (A : Around) (outer : List Env) (s : Shared) (H : Hp) (vs : List V) (Q : VK) (E : XK), Room cc k (A.deeper (envOfC "lies_ahead" (defScope s_lies_ahead) s.heap.objs.size f cdv)) → sp vs H Q E → SXs (CxF cc P w K mg base N_lies_ahead "lies_ahead" (defScope s_lies_ahead) f cdv A outer s H E) (defBody s_lies_ahead) { nx := fun _ H' => Q .non H', rt := Q } (start N_lies_ahead vs) H) : Def P w K mg base cc (k + 1) "lies_ahead" ["order", "key", "cut"] sp := def_of T.d_lies_ahead sc_lies_ahead (fun _ _ _ _ _ _ us hl => by obtain ⟨_, _, _, rfl⟩ := shp3 hl; rfl) len body
theorem df_cut_place (T : Txt K mg) {cc : Bool} {k : Nat} {sp : Sp} (len : ∀ vs H Q E, sp vs H Q E → vs.length = 4) (body : ∀ (f : Addr) (cdv : Value) (A : Around) (outer : List Env) (s : Shared) (H : Hp) (vs : List V) (Q : VK) (E : XK), Room cc k (A.deeper (envOfC "cut_place" (defScope s_cut_place) s.heap.objs.size f cdv)) → sp vs H Q E → SXs (CxF cc P w K mg base N_cut_place "cut_place" (defScope s_cut_place) f cdv A outer s H E) (defBody s_cut_place) { nx := fun _ H' => Q .non H', rt := Q } (start N_cut_place vs) H) : Def P w K mg base cc (k + 1) "cut_place" ["columns", "order", "line", "cut"] sp := def_of T.d_cut_place sc_cut_place (fun _ _ _ _ _ _ us hl => by obtain ⟨_, _, _, _, rfl⟩ := shp4 hl; rfl) len body
theorem df_ask_size (T : Txt K mg) {cc : Bool} {k : Nat} {sp : Sp} (len : ∀ vs H Q E, sp vs H Q E → vs.length = 1) (body : ∀ (f : Addr) (cdv : Value) (A : Around) (outer : List Env) (s : Shared) (H : Hp) (vs : List V) (Q : VK) (E : XK), Room cc k (A.deeper (envOfC "ask_size" (defScope s_ask_size) s.heap.objs.size f cdv)) → sp vs H Q E → SXs (CxF cc P w K mg base N_ask_size "ask_size" (defScope s_ask_size) f cdv A outer s H E) (defBody s_ask_size) { nx := fun _ H' => Q .non H', rt := Q } (start N_ask_size vs) H) : Def P w K mg base cc (k + 1) "ask_size" ["size"] sp := def_of T.d_ask_size sc_ask_size (fun _ _ _ _ _ _ us hl => by obtain ⟨_, rfl⟩ := shp1 hl; rfl) len body
theorem df_copy_of_cut (T : Txt K mg) {cc : Bool} {k : Nat} {sp : Sp} (len : ∀ vs H Q E, sp vs H Q E → vs.length = 1) (body : ∀ (f : Addr) (cdv : Value) (A : Around) (outer : List Env) (s : Shared) (H : Hp) (vs : List V) (Q : VK) (E : XK), Room cc k (A.deeper (envOfC "copy_of_cut" (defScope s_copy_of_cut) s.heap.objs.size f cdv)) → sp vs H Q E → SXs (CxF cc P w K mg base N_copy_of_cut "copy_of_cut" (defScope s_copy_of_cut) f cdv A outer s H E) (defBody s_copy_of_cut) { nx := fun _ H' => Q .non H', rt := Q } (start N_copy_of_cut vs) H) : Def P w K mg base cc (k + 1) "copy_of_cut" ["cut"] sp := def_of T.d_copy_of_cut sc_copy_of_cut (fun _ _ _ _ _ _ us hl => by obtain ⟨_, rfl⟩ := shp1 hl; rfl) len body
theorem df_cut_beside (T : Txt K mg) {cc : Bool} {k : Nat} {sp : Sp} (len : ∀ vs H Q E, sp vs H Q E → vs.length = 5) (body : ∀ (f : Addr) (cdv : Value) (A : Around) (outer : List Env) (s : Shared) (H : Hp) (vs : List V) (Q : VK) (E : XK), Room cc k (A.deeper (envOfC "cut_beside" (defScope s_cut_beside) s.heap.objs.size f cdv)) → sp vs H Q E → SXs (CxF cc P w K mg base N_cut_beside "cut_beside" (defScope s_cut_beside) f cdv A outer s H E) (defBody s_cut_beside) { nx := fun _ H' => Q .non H', rt := Q } (start N_cut_beside vs) H) : Def P w K mg base cc (k + 1) "cut_beside" ["columns", "order", "side", "rows", "cut"] sp := def_of T.d_cut_beside sc_cut_beside (fun _ _ _ _ _ _ us hl => by obtain ⟨_, _, _, _, _, rfl⟩ := shp5 hl; rfl) len body
theorem df_leaf_between (T : Txt K mg) {cc : Bool} {k : Nat} {sp : Sp} (len : ∀ vs H Q E, sp vs H Q E → vs.length = 6) (body : ∀ (f : Addr) (cdv : Value) (A : Around) (outer : List Env) (s : Shared) (H : Hp) (vs : List V) (Q : VK) (E : XK), Room cc k (A.deeper (envOfC "leaf_between" (defScope s_leaf_between) s.heap.objs.size f cdv)) → sp vs H Q E → SXs (CxF cc P w K mg base N_leaf_between "leaf_between" (defScope s_leaf_between) f cdv A outer s H E) (defBody s_leaf_between) { nx := fun _ H' => Q .non H', rt := Q } (start N_leaf_between vs) H) : Def P w K mg base cc (k + 1) "leaf_between" ["columns", "order", "line", "cut", "start", "stop"] sp := def_of T.d_leaf_between sc_leaf_between (fun _ _ _ _ _ _ us hl => by obtain ⟨_, _, _, _, _, _, rfl⟩ := shp6 hl; rfl) len body
theorem df_leaf_forth (T : Txt K mg) {cc : Bool} {k : Nat} {sp : Sp} (len : ∀ vs H Q E, sp vs H Q E → vs.length = 5) (body : ∀ (f : Addr) (cdv : Value) (A : Around) (outer : List Env) (s : Shared) (H : Hp) (vs : List V) (Q : VK) (E : XK), Room cc k (A.deeper (envOfC "leaf_forth" (defScope s_leaf_forth) s.heap.objs.size f cdv)) → sp vs H Q E → SXs (CxF cc P w K mg base N_leaf_forth "leaf_forth" (defScope s_leaf_forth) f cdv A outer s H E) (defBody s_leaf_forth) { nx := fun _ H' => Q .non H', rt := Q } (start N_leaf_forth vs) H) : Def P w K mg base cc (k + 1) "leaf_forth" ["columns", "order", "line", "cut", "size"] sp := def_of T.d_leaf_forth sc_leaf_forth (fun _ _ _ _ _ _ us hl => by obtain ⟨_, _, _, _, _, rfl⟩ := shp5 hl; rfl) len body
theorem df_leaf_back (T : Txt K mg) {cc : Bool} {k : Nat} {sp : Sp} (len : ∀ vs H Q E, sp vs H Q E → vs.length = 5) (body : ∀ (f : Addr) (cdv : Value) (A : Around) (outer : List Env) (s : Shared) (H : Hp) (vs : List V) (Q : VK) (E : XK), Room cc k (A.deeper (envOfC "leaf_back" (defScope s_leaf_back) s.heap.objs.size f cdv)) → sp vs H Q E → SXs (CxF cc P w K mg base N_leaf_back "leaf_back" (defScope s_leaf_back) f cdv A outer s H E) (defBody s_leaf_back) { nx := fun _ H' => Q .non H', rt := Q } (start N_leaf_back vs) H) : Def P w K mg base cc (k + 1) "leaf_back" ["columns", "order", "line", "cut", "size"] sp := def_of T.d_leaf_back sc_leaf_back (fun _ _ _ _ _ _ us hl => by obtain ⟨_, _, _, _, _, rfl⟩ := shp5 hl; rfl) len body
theorem df__law_draw (T : Txt K mg) {cc : Bool} {k : Nat} {sp : Sp} (len : ∀ vs H Q E, sp vs H Q E → vs.length = 3) (body : ∀ (f : Addr) (cdv : Value) (A : Around) (outer : List Env) (s : Shared) (H : Hp) (vs : List V) (Q : VK) (E : XK), Room cc k (A.deeper (envOfC "_law_draw" (defScope s__law_draw) s.heap.objs.size f cdv)) → sp vs H Q E → SXs (CxF cc P w K mg base N__law_draw "_law_draw" (defScope s__law_draw) f cdv A outer s H E) (defBody s__law_draw) { nx := fun _ H' => Q .non H', rt := Q } (start N__law_draw vs) H) : Def P w K mg base cc (k + 1) "_law_draw" ["_law_script", "_law_k", "_law_many"] sp := def_of T.d__law_draw sc__law_draw (fun _ _ _ _ _ _ us hl => by obtain ⟨_, _, _, rfl⟩ := shp3 hl; rfl) len body
theorem df__law_names (T : Txt K mg) {cc : Bool} {k : Nat} {sp : Sp} (len : ∀ vs H Q E, sp vs H Q E → vs.length = 2) (body : ∀ (f : Addr) (cdv : Value) (A : Around) (outer : List Env) (s : Shared) (H : Hp) (vs : List V) (Q : VK) (E : XK), Room cc k (A.deeper (envOfC "_law_names" (defScope s__law_names) s.heap.objs.size f cdv)) → sp vs H Q E → SXs (CxF cc P w K mg base N__law_names "_law_names" (defScope s__law_names) f cdv A outer s H E) (defBody s__law_names) { nx := fun _ H' => Q .non H', rt := Q } (start N__law_names vs) H) : Def P w K mg base cc (k + 1) "_law_names" ["_law_script", "_law_many"] sp := def_of T.d__law_names sc__law_names (fun _ _ _ _ _ _ us hl => by obtain ⟨_, _, rfl⟩ := shp2 hl; rfl) len body
theorem df__law_columns (T : Txt K mg) {cc : Bool} {k : Nat} {sp : Sp} (len : ∀ vs H Q E, sp vs H Q E → vs.length = 1) (body : ∀ (f : Addr) (cdv : Value) (A : Around) (outer : List Env) (s : Shared) (H : Hp) (vs : List V) (Q : VK) (E : XK), Room cc k (A.deeper (envOfC "_law_columns" (defScope s__law_columns) s.heap.objs.size f cdv)) → sp vs H Q E → SXs (CxF cc P w K mg base N__law_columns "_law_columns" (defScope s__law_columns) f cdv A outer s H E) (defBody s__law_columns) { nx := fun _ H' => Q .non H', rt := Q } (start N__law_columns vs) H) : Def P w K mg base cc (k + 1) "_law_columns" ["_law_script"] sp := def_of T.d__law_columns sc__law_columns (fun _ _ _ _ _ _ us hl => by obtain ⟨_, rfl⟩ := shp1 hl; rfl) len body
theorem df__law_value (T : Txt K mg) {cc : Bool} {k : Nat} {sp : Sp} (len : ∀ vs H Q E, sp vs H Q E → vs.length = 3) (body : ∀ (f : Addr) (cdv : Value) (A : Around) (outer : List Env) (s : Shared) (H : Hp) (vs : List V) (Q : VK) (E : XK), Room cc k (A.deeper (envOfC "_law_value" (defScope s__law_value) s.heap.objs.size f cdv)) → sp vs H Q E → SXs (CxF cc P w K mg base N__law_value "_law_value" (defScope s__law_value) f cdv A outer s H E) (defBody s__law_value) { nx := fun _ H' => Q .non H', rt := Q } (start N__law_value vs) H) : Def P w K mg base cc (k + 1) "_law_value" ["_law_script", "_law_k", "_law_kind"] sp := def_of T.d__law_value sc__law_value (fun _ _ _ _ _ _ us hl => by obtain ⟨_, _, _, rfl⟩ := shp3 hl; rfl) len body
theorem df__law_values (T : Txt K mg) {cc : Bool} {k : Nat} {sp : Sp} (len : ∀ vs H Q E, sp vs H Q E → vs.length = 3) (body : ∀ (f : Addr) (cdv : Value) (A : Around) (outer : List Env) (s : Shared) (H : Hp) (vs : List V) (Q : VK) (E : XK), Room cc k (A.deeper (envOfC "_law_values" (defScope s__law_values) s.heap.objs.size f cdv)) → sp vs H Q E → SXs (CxF cc P w K mg base N__law_values "_law_values" (defScope s__law_values) f cdv A outer s H E) (defBody s__law_values) { nx := fun _ H' => Q .non H', rt := Q } (start N__law_values vs) H) : Def P w K mg base cc (k + 1) "_law_values" ["_law_script", "_law_k", "_law_columns_here"] sp := def_of T.d__law_values sc__law_values (fun _ _ _ _ _ _ us hl => by obtain ⟨_, _, _, rfl⟩ := shp3 hl; rfl) len body
theorem df__law_order (T : Txt K mg) {cc : Bool} {k : Nat} {sp : Sp} (len : ∀ vs H Q E, sp vs H Q E → vs.length = 3) (body : ∀ (f : Addr) (cdv : Value) (A : Around) (outer : List Env) (s : Shared) (H : Hp) (vs : List V) (Q : VK) (E : XK), Room cc k (A.deeper (envOfC "_law_order" (defScope s__law_order) s.heap.objs.size f cdv)) → sp vs H Q E → SXs (CxF cc P w K mg base N__law_order "_law_order" (defScope s__law_order) f cdv A outer s H E) (defBody s__law_order) { nx := fun _ H' => Q .non H', rt := Q } (start N__law_order vs) H) : Def P w K mg base cc (k + 1) "_law_order" ["_law_script", "_law_k", "_law_columns_here"] sp := def_of T.d__law_order sc__law_order (fun _ _ _ _ _ _ us hl => by obtain ⟨_, _, _, rfl⟩ := shp3 hl; rfl) len body
theorem df__law_lets (T : Txt K mg) {cc : Bool} {k : Nat} {sp : Sp} (len : ∀ vs H Q E, sp vs H Q E → vs.length = 2) (body : ∀ (f : Addr) (cdv : Value) (A : Around) (outer : List Env) (s : Shared) (H : Hp) (vs : List V) (Q : VK) (E : XK), Room cc k (A.deeper (envOfC "_law_lets" (defScope s__law_lets) s.heap.objs.size f cdv)) → sp vs H Q E → SXs (CxF cc P w K mg base N__law_lets "_law_lets" (defScope s__law_lets) f cdv A outer s H E) (defBody s__law_lets) { nx := fun _ H' => Q .non H', rt := Q } (start N__law_lets vs) H) : Def P w K mg base cc (k + 1) "_law_lets" ["_law_sieve", "_law_values_here"] sp := def_of T.d__law_lets sc__law_lets (fun _ _ _ _ _ _ us hl => by obtain ⟨_, _, rfl⟩ := shp2 hl; rfl) len body
theorem df__law_key (T : Txt K mg) {cc : Bool} {k : Nat} {sp : Sp} (len : ∀ vs H Q E, sp vs H Q E → vs.length = 3) (body : ∀ (f : Addr) (cdv : Value) (A : Around) (outer : List Env) (s : Shared) (H : Hp) (vs : List V) (Q : VK) (E : XK), Room cc k (A.deeper (envOfC "_law_key" (defScope s__law_key) s.heap.objs.size f cdv)) → sp vs H Q E → SXs (CxF cc P w K mg base N__law_key "_law_key" (defScope s__law_key) f cdv A outer s H E) (defBody s__law_key) { nx := fun _ H' => Q .non H', rt := Q } (start N__law_key vs) H) : Def P w K mg base cc (k + 1) "_law_key" ["_law_columns_here", "_law_order_here", "_law_one"] sp := def_of T.d__law_key sc__law_key (fun _ _ _ _ _ _ us hl => by obtain ⟨_, _, _, rfl⟩ := shp3 hl; rfl) len body
theorem df__law_is_ahead (T : Txt K mg) {cc : Bool} {k : Nat} {sp : Sp} (len : ∀ vs H Q E, sp vs H Q E → vs.length = 3) (body : ∀ (f : Addr) (cdv : Value) (A : Around) (outer : List Env) (s : Shared) (H : Hp) (vs : List V) (Q : VK) (E : XK), Room cc k (A.deeper (envOfC "_law_is_ahead" (defScope s__law_is_ahead) s.heap.objs.size f cdv)) → sp vs H Q E → SXs (CxF cc P w K mg base N__law_is_ahead "_law_is_ahead" (defScope s__law_is_ahead) f cdv A outer s H E) (defBody s__law_is_ahead) { nx := fun _ H' => Q .non H', rt := Q } (start N__law_is_ahead vs) H) : Def P w K mg base cc (k + 1) "_law_is_ahead" ["_law_order_here", "_law_one", "_law_other"] sp := def_of T.d__law_is_ahead sc__law_is_ahead (fun _ _ _ _ _ _ us hl => by obtain ⟨_, _, _, rfl⟩ := shp3 hl; rfl) len body
theorem df__law_line (T : Txt K mg) {cc : Bool} {k : Nat} {sp : Sp} (len : ∀ vs H Q E, sp vs H Q E → vs.length = 4) (body : ∀ (f : Addr) (cdv : Value) (A : Around) (outer : List Env) (s : Shared) (H : Hp) (vs : List V) (Q : VK) (E : XK), Room cc k (A.deeper (envOfC "_law_line" (defScope s__law_line) s.heap.objs.size f cdv)) → sp vs H Q E → SXs (CxF cc P w K mg base N__law_line "_law_line" (defScope s__law_line) f cdv A outer s H E) (defBody s__law_line) { nx := fun _ H' => Q .non H', rt := Q } (start N__law_line vs) H) : Def P w K mg base cc (k + 1) "_law_line" ["_law_columns_here", "_law_order_here", "_law_sieve", "_law_rows"] sp := def_of T.d__law_line sc__law_line (fun _ _ _ _ _ _ us hl => by obtain ⟨_, _, _, _, rfl⟩ := shp4 hl; rfl) len body
theorem df__law_cut (T : Txt K mg) {cc : Bool} {k : Nat} {sp : Sp} (len : ∀ vs H Q E, sp vs H Q E → vs.length = 4) (body : ∀ (f : Addr) (cdv : Value) (A : Around) (outer : List Env) (s : Shared) (H : Hp) (vs : List V) (Q : VK) (E : XK), Room cc k (A.deeper (envOfC "_law_cut" (defScope s__law_cut) s.heap.objs.size f cdv)) → sp vs H Q E → SXs (CxF cc P w K mg base N__law_cut "_law_cut" (defScope s__law_cut) f cdv A outer s H E) (defBody s__law_cut) { nx := fun _ H' => Q .non H', rt := Q } (start N__law_cut vs) H) : Def P w K mg base cc (k + 1) "_law_cut" ["_law_script", "_law_columns_here", "_law_order_here", "_law_line_here"] sp := def_of T.d__law_cut sc__law_cut (fun _ _ _ _ _ _ us hl => by obtain ⟨_, _, _, _, rfl⟩ := shp4 hl; rfl) len body
theorem df__law_place (T : Txt K mg) {cc : Bool} {k : Nat} {sp : Sp} (len : ∀ vs H Q E, sp vs H Q E → vs.length = 4) (body : ∀ (f : Addr) (cdv : Value) (A : Around) (outer : List Env) (s : Shared) (H : Hp) (vs : List V) (Q : VK) (E : XK), Room cc k (A.deeper (envOfC "_law_place" (defScope s__law_place) s.heap.objs.size f cdv)) → sp vs H Q E → SXs (CxF cc P w K mg base N__law_place "_law_place" (defScope s__law_place) f cdv A outer s H E) (defBody s__law_place) { nx := fun _ H' => Q .non H', rt := Q } (start N__law_place vs) H) : Def P w K mg base cc (k + 1) "_law_place" ["_law_columns_here", "_law_order_here", "_law_line_here", "_law_cut_here"] sp := def_of T.d__law_place sc__law_place (fun _ _ _ _ _ _ us hl => by obtain ⟨_, _, _, _, rfl⟩ := shp4 hl; rfl) len body
theorem df__law_due (T : Txt K mg) {cc : Bool} {k : Nat} {sp : Sp} (len : ∀ vs H Q E, sp vs H Q E → vs.length = 6) (body : ∀ (f : Addr) (cdv : Value) (A : Around) (outer : List Env) (s : Shared) (H : Hp) (vs : List V) (Q : VK) (E : XK), Room cc k (A.deeper (envOfC "_law_due" (defScope s__law_due) s.heap.objs.size f cdv)) → sp vs H Q E → SXs (CxF cc P w K mg base N__law_due "_law_due" (defScope s__law_due) f cdv A outer s H E) (defBody s__law_due) { nx := fun _ H' => Q .non H', rt := Q } (start N__law_due vs) H) : Def P w K mg base cc (k + 1) "_law_due" ["_law_columns_here", "_law_order_here", "_law_line_here", "_law_cut_here", "_law_first", "_law_after"] sp := def_of T.d__law_due sc__law_due (fun _ _ _ _ _ _ us hl => by obtain ⟨_, _, _, _, _, _, rfl⟩ := shp6 hl; rfl) len body
theorem df__law_is_told (T : Txt K mg) {cc : Bool} {k : Nat} {sp : Sp} (len : ∀ vs H Q E, sp vs H Q E → vs.length = 6) (body : ∀ (f : Addr) (cdv : Value) (A : Around) (outer : List Env) (s : Shared) (H : Hp) (vs : List V) (Q : VK) (E : XK), Room cc k (A.deeper (envOfC "_law_is_told" (defScope s__law_is_told) s.heap.objs.size f cdv)) → sp vs H Q E → SXs (CxF cc P w K mg base N__law_is_told "_law_is_told" (defScope s__law_is_told) f cdv A outer s H E) (defBody s__law_is_told) { nx := fun _ H' => Q .non H', rt := Q } (start N__law_is_told vs) H) : Def P w K mg base cc (k + 1) "_law_is_told" ["_law_columns_here", "_law_order_here", "_law_line_here", "_law_cut_here", "_law_size", "_law_forth"] sp := def_of T.d__law_is_told sc__law_is_told (fun _ _ _ _ _ _ us hl => by obtain ⟨_, _, _, _, _, _, rfl⟩ := shp6 hl; rfl) len body
end
end K60
namespace K60
open PySem L2 PyProof.Rows My Vl Lw
section
variable {P : Program} {w : World} {K : PySem.W.Frag} {mg : Str → Option Value} {base : Heap}
theorem d__law_draw (T : Txt K mg) : Def P w K mg base true 1 "_law_draw" ["_law_script", "_law_k", "_law_many"] (spDraw K) := by
  refine df__law_draw T (fun vs H Q E h => by obtain ⟨a, ns, k, m, rfl, _⟩ := h; rfl) (fun f cdv A outer s H vs Q E hr h => ?_)
  obtain ⟨a, ns, k, m, rfl, hS, hl, hk0, hk1, hm, q⟩ := h
  have n1 := T.n_len
  have nd := sc__law_draw.nd
  have hlm : (ns.map V.int).length = ns.length := List.length_map ..
  refine sxs_cons ?_
  walk_at "go"
  rw [hlm]
  have fin : ∀ c : Int, c = cellF ns k → Q (.int ((c % 1000003 + 31 * k * k + 1) * 48271 % 999983 * 7919 % 524287 % m)) H := fun c e => by rw [e]; exact q
  refine ifD (fun h => ?_) (fun h => ?_)
  · walk_at "go"
    rw [hlm]
    walk_at "go"
    refine i_list hS (atI_map 0 (Int.emod_nonneg _ (by omega)) (Int.emod_lt_of_pos _ (by omega))) ?_
    walk_at "go"
    exact fin _ (by unfold cellF; rw [if_pos (by omega)])
  · walk_at "go"
    exact fin _ (by unfold cellF; rw [if_neg (by omega)])
end
end K60
namespace K60
open PySem L2 PyProof.Rows My Vl Lw
section
variable {P : Program} {w : World} {K : PySem.W.Frag} {mg : Str → Option Value} {base : Heap}
/-! names of the second family of laws -/
theorem lt_list : LTs.cps.toList = List.range' 97 26 := by decide +kernel
theorem mem_lt (c : Nat) : c ∈ LTs.cps.toList ↔ 97 ≤ c ∧ c ≤ 122 := by
  rw [lt_list, List.mem_range'_1]
  omega
theorem lt_get {k : Nat} (h : k < 26) : LTs.cps.toList[k]? = some (97 + k) := by
  rw [lt_list, List.getElem?_range' h]
  simp
theorem isName_of {z : Str} (h1 : 1 ≤ z.length) (h8 : z.length ≤ 8) (h : ∀ c ∈ z.cps.toList, 97 ≤ c ∧ c ≤ 122) : isName z = true := by
  unfold isName madeOf
  rw [Bool.and_eq_true, decide_eq_true_eq, List.all_eq_true]
  exact ⟨⟨h1, h8⟩, fun c hc => decide_eq_true ((mem_lt c).mpr (h c hc))⟩
def nmF (W : Str) (at_ size first : Nat) (b : Bool) (j : Nat) : Str :=
  if b = true then cutS W none (some (at_ : Int)) ++ ⟨#[97 + (first + 7 * j) % 26]⟩ ++ cutS W (some ((at_ + 1 : Nat) : Int)) (some (size : Int)) else cutS W none (some ((j + 1 : Nat) : Int))
theorem nm_b {W : Str} {at_ size first j : Nat} (hW : W.length = 8) (ha : at_ < size) (hs : size ≤ 8) :
    (nmF W at_ size first true j).cps.toList = W.cps.toList.take at_ ++ (97 + (first + 7 * j) % 26) :: (W.cps.toList.drop (at_ + 1)).take (size - (at_ + 1)) := by
  unfold nmF
  rw [if_pos rfl, cps_app, cps_app, cutS_to, cutS_list, HT.sIx_nat, HT.sIx_nat, hW, Nat.min_eq_left (by omega), Nat.min_eq_left (by omega), List.append_assoc]
  rfl
theorem nm_f {W : Str} {at_ size first j : Nat} : (nmF W at_ size first false j).cps.toList = W.cps.toList.take (j + 1) := by
  unfold nmF
  rw [if_neg (by decide), cutS_to]
theorem nm_len {W : Str} {at_ size first j : Nat} {b : Bool} (hW : W.length = 8) (ha : at_ < size) (hs : size ≤ 8) (hj : j < 6) : 1 ≤ (nmF W at_ size first b j).length ∧ (nmF W at_ size first b j).length ≤ 8 := by
  have hl := len_list W
  rw [L2.len_list (nmF W at_ size first b j)]
  cases b with
  | true =>
    rw [nm_b hW ha hs, List.length_append, List.length_cons, List.length_take, List.length_take, List.length_drop]
    omega
  | false =>
    rw [nm_f, List.length_take]
    omega
theorem nm_in {W : Str} {at_ size first j : Nat} {b : Bool} (hW : W.length = 8) (ha : at_ < size) (hs : size ≤ 8) (hw : ∀ c ∈ W.cps.toList, 97 ≤ c ∧ c ≤ 122) : ∀ c ∈ (nmF W at_ size first b j).cps.toList, 97 ≤ c ∧ c ≤ 122 := by
  intro c hc
  cases b with
  | true =>
    rw [nm_b hW ha hs] at hc
    rcases List.mem_append.mp hc with h | h
    · exact hw c (List.mem_of_mem_take h)
    · rcases List.mem_cons.mp h with h | h
      · have := Nat.mod_lt (first + 7 * j) (show 0 < 26 by decide)
        omega
      · exact hw c (List.mem_of_mem_drop (List.mem_of_mem_take h))
  | false =>
    rw [nm_f] at hc
    exact hw c (List.mem_of_mem_take hc)
theorem nm_inj {W : Str} {at_ size first i j : Nat} {b : Bool} (hW : W.length = 8) (ha : at_ < size) (hs : size ≤ 8) (hi : i < 6) (hj : j < 6) (e : nmF W at_ size first b i = nmF W at_ size first b j) : i = j := by
  have hl := len_list W
  have e' := congrArg (fun z : Str => z.cps.toList) e
  cases b with
  | true =>
    rw [nm_b hW ha hs, nm_b hW ha hs] at e'
    have h1 := (List.append_inj e' rfl).2
    injection h1 with h2 _
    omega
  | false =>
    rw [nm_f, nm_f] at e'
    have := congrArg List.length e'
    rw [List.length_take, List.length_take] at this
    omega
def spNames (K : PySem.W.Frag) : Sp := fun vs H Q _ => ∃ (a : Addr) (ns : List Int) (m : Nat), vs = [.ref a, .int m] ∧ SqL K H a (ns.map V.int) ∧ ns.length ≤ 63 ∧ m ≤ 6 ∧ ∀ (p : Addr) (zs : List Str) H', Same H H' → H p = none → H' p = some (.lst (zs.map V.str)) → zs.length = m → zs.Nodup → (∀ z ∈ zs, isName z = true) → Q (.ref p) H'
theorem d__law_names (T : Txt K mg) : Def P w K mg base true 2 "_law_names" ["_law_script", "_law_many"] (spNames K) := by
  refine df__law_names T (fun vs H Q E h => by obtain ⟨a, ns, m, rfl, _⟩ := h; rfl) (fun f cdv A outer s H vs Q E hr h => ?_)
  obtain ⟨a, ns, m, rfl, hS, hl, hm, q⟩ := h
  have nd := sc__law_names.nd
  have n1 := T.n_range
  have hsz : sizeLine = 16777216 := sizeLine_eq
  have D1 : Def P w K mg base true 1 "_law_draw" ["_law_script", "_law_k", "_law_many"] (spDraw K) := d__law_draw T
  have hL26 : LTs.length = 26 := by decide +kernel
  refine sxs_cons ?_
  walk_at "go"
  refine ev_compR ["_law_k", "_law_letters", "_law_script"] (σ' := [none, some (.str LTs), some (.ref a)]) (by rfl) (by rfl) (compSc_of (defScope s__law_names) (by rfl) (by rfl) (by decide +kernel)) (by decide +kernel) (by rfl) (by rfl) (by rfl) n1 (by rfl) ?_
  walk_at "e"
  refine ⟨8, rfl, by omega, by omega, fun i v => v = .str ⟨#[97 + (drawF ns (100 + (i : Int)) 26).toNat]⟩, fun fp E' C s3 H0 i H2 hi sm => ?_, fun E' H1 xs hE hl2 hx e2 sm1 => ?_⟩
  · walk_at "go"
    refine ⟨a, ns, 100 + i, 26, rfl, sm.seq hS, hl, by omega, by omega, by decide, ?_⟩
    have h1 := drawF_nn ns (100 + i) (m := 26) (by decide)
    have h2 := drawF_lt ns (100 + i) (m := 26) (by decide)
    refine i_str (by omega) (n := 97 + (drawF ns (100 + (i : Int)) 26).toNat) ?_ ⟨rfl, Same.refl _⟩
    have e : drawF ns (100 + (i : Int)) 26 = (((drawF ns (100 + (i : Int)) 26).toNat : Nat) : Int) := by omega
    have h3 := atI_nat (lt_get (k := (drawF ns (100 + (i : Int)) 26).toNat) (by omega))
    rw [← e] at h3
    exact h3
  · have ex := list_of_pi (ys := List.range 8) (fun i : Nat => V.str ⟨#[97 + (drawF ns (100 + (i : Int)) 26).toNat]⟩) (by rw [hl2, List.length_range]; rfl) (fun i v e => ⟨i, ?_, hx i v e⟩)
    · have ex2 : xs = (((List.range 8).map fun i : Nat => 97 + (drawF ns (100 + (i : Int)) 26).toNat).map fun c => (⟨#[c]⟩ : Str)).map V.str := by
        rw [ex, List.map_map, List.map_map]
        rfl
      subst ex2
      walk_at "go"
      refine m_join (SqL.of e2) ?_ ?_
      · have e0 : (Str.ofString "").length = 0 := by decide +kernel
        rw [ones_sum, List.length_map, List.length_map, List.length_range, e0]
        omega
      rw [join_signs]
      have hwl : (⟨((List.range 8).map fun i : Nat => 97 + (drawF ns (100 + (i : Int)) 26).toNat).toArray⟩ : Str).length = 8 := by rw [L2.len_list]; simp
      have hwc : ∀ c ∈ (⟨((List.range 8).map fun i : Nat => 97 + (drawF ns (100 + (i : Int)) 26).toNat).toArray⟩ : Str).cps.toList, 97 ≤ c ∧ c ≤ 122 := fun c hc => by
        have hc' : c ∈ (List.range 8).map fun i : Nat => 97 + (drawF ns (100 + (i : Int)) 26).toNat := by simpa using hc
        obtain ⟨i, _, rfl⟩ := List.mem_map.mp hc'
        have h1 := drawF_nn ns (100 + i) (m := 26) (by decide)
        have h2 := drawF_lt ns (100 + i) (m := 26) (by decide)
        omega
      generalize (⟨((List.range 8).map fun i : Nat => 97 + (drawF ns (100 + (i : Int)) 26).toNat).toArray⟩ : Str) = W at hwl hwc ⊢
      refine sxs_cons ?_
      walk_at "go"
      refine ⟨a, ns, 112, 8, rfl, sm1.seq hS, hl, by decide, by decide, by decide, ?_⟩
      have s0 := drawF_nn ns 112 (m := 8) (by decide)
      have s1 := drawF_lt ns 112 (m := 8) (by decide)
      obtain ⟨sz, es⟩ : ∃ sz : Nat, 1 + drawF ns 112 8 = (sz : Int) := ⟨(1 + drawF ns 112 8).toNat, by omega⟩
      walk_at "go"
      rw [es]
      refine ⟨a, ns, 113, _, rfl, sm1.seq hS, hl, by decide, by decide, by omega, ?_⟩
      have a0 := drawF_nn ns 113 (m := (sz : Int)) (by omega)
      have a1 := drawF_lt ns 113 (m := (sz : Int)) (by omega)
      obtain ⟨at_, ea⟩ := Int.eq_ofNat_of_zero_le a0
      rw [ea] at a1 ⊢
      walk_at "go"
      refine ⟨a, ns, 114, 26, rfl, sm1.seq hS, hl, by decide, by decide, by decide, ?_⟩
      have f0 := drawF_nn ns 114 (m := 26) (by decide)
      have f1 := drawF_lt ns 114 (m := 26) (by decide)
      obtain ⟨fi, ef⟩ := Int.eq_ofNat_of_zero_le f0
      rw [ef] at f1 ⊢
      walk_at "go"
      refine ⟨by show 0 ≤ sizeLine; omega, fun p hp => ?_⟩
      have pn : H p = none := sm1.free hp
      have sm0 : Same H (upd H1 p (.lst [])) := sm1.trans (Same.upd hp)
      have ep : (upd H1 p (.lst [])) p = some (.lst []) := upd_same
      generalize upd H1 p (.lst []) = H2 at sm0 ep ⊢
      have hats : at_ < sz := by omega
      have hs8 : sz ≤ 8 := by omega
      refine sxs_cons ?_
      refine sx_forR (by walk_at "po") (by rfl) (by rfl) n1 (by rfl) ?_
      walk_at "go"
      refine ⟨by omega, by omega, fun i σ H' => (∃ o8 o9 o10, σ = [some (.ref a), some (.int m), some (.str LTs), some (.str W), some (.int sz), some (.int at_), some (.int fi), some (.ref p), o8, o9, o10]) ∧ Same H H' ∧ H' p = some (.lst (((List.range i).map (nmF W at_ sz fi (decide (drawF ns 110 2 = 1)))).map V.str)),
        ⟨⟨none, none, none, rfl⟩, sm0, ep⟩, fun i σ H' hi hP => ?_, fun σ H' hP => ?_⟩
      · obtain ⟨⟨o8, o9, o10, rfl⟩, sm, ep'⟩ := hP
        have hi6 : i < 6 := by have : i < m := by simpa using hi
                               omega
        refine eg_name nd (by rfl) (.inl rfl) (.inl rfl) ?_
        have tail : ∀ (z : Str) (o10 : Option V), z = nmF W at_ sz fi (decide (drawF ns 110 2 = 1)) i → ∀ (bk : L2.St → Hp → Prop), SXs (CxF true P w K mg base N__law_names "_law_names" (defScope s__law_names) f cdv A outer s H E) ((inFor (stAt (defBody s__law_names) 6)).drop 2)
            { nx := fun σ H' => (∃ o8 o9 o10, σ = [some (.ref a), some (.int m), some (.str LTs), some (.str W), some (.int sz), some (.int at_), some (.int fi), some (.ref p), o8, o9, o10]) ∧ Same H H' ∧ H' p = some (.lst (((List.range (i + 1)).map (nmF W at_ sz fi (decide (drawF ns 110 2 = 1)))).map V.str)), rt := Q, bk := bk,
              ct := fun σ H' => (∃ o8 o9 o10, σ = [some (.ref a), some (.int m), some (.str LTs), some (.str W), some (.int sz), some (.int at_), some (.int fi), some (.ref p), o8, o9, o10]) ∧ Same H H' ∧ H' p = some (.lst (((List.range (i + 1)).map (nmF W at_ sz fi (decide (drawF ns 110 2 = 1)))).map V.str)) }
            [some (.ref a), some (.int m), some (.str LTs), some (.str W), some (.int sz), some (.int at_), some (.int fi), some (.ref p), some (.int i), some (.str z), o10] H' := by
          intro z o10 hz bk
          refine sxs_one (sx_expr (by rfl) (ev_bm PySem.F.plainAttrs_list PySem.F.slot_list_append PySem.F.type_list_append (by rfl) (by rfl) (by rfl) (by rfl) (by rfl) ?_))
          walk_at "go"
          refine ⟨.inl ⟨rfl, _, SqL.of ep'⟩, ?_⟩
          walk_at "go"
          refine mt_by mt_append ⟨p, _, _, rfl, rfl, ep', by rw [List.length_map, List.length_map, List.length_range]; omega, ?_⟩
          refine ⟨⟨_, _, _, rfl⟩, fun b o e => ?_, ?_⟩
          · rw [upd_ne (ne_of_none e pn)]
            exact sm _ _ e
          · rw [upd_same, List.range_succ, List.map_append, List.map_append, hz]
            rfl
        refine sxs_cons ?_
        walk_at "go"
        refine s_str (by omega) ?_
        walk_at "go"
        refine ⟨a, ns, 110, 2, rfl, sm.seq hS, hl, by decide, by decide, by decide, ?_⟩
        walk_at "go"
        refine ifD (fun h => ?_) (fun h => ?_)
        · have h' : drawF ns 110 2 = 1 := by injection h
          have l1 := cutS_le W none (some (at_ : Int))
          have l2 := cutS_le W (some ((at_ : Int) + 1)) (some (sz : Int))
          have ls : (⟨#[97 + (fi + 7 * i) % 26]⟩ : Str).length = 1 := rfl
          have l3 := len_app (cutS W none (some (at_ : Int))) ⟨#[97 + (fi + 7 * i) % 26]⟩
          refine sxs_cons ?_
          walk_at "go"
          rw [show ((fi : Int) + 7 * (i : Int)) % 26 = (((fi + 7 * i) % 26 : Nat) : Int) by omega]
          refine i_str (by omega) (atI_nat (lt_get (Nat.mod_lt _ (by decide)))) ?_
          refine sxs_one ?_
          walk_at "s"
          walk_at "go"
          refine s_str (by omega) ?_
          walk_at "go"
          refine o_addS (by omega) ?_
          walk_at "go"
          refine s_str (by omega) ?_
          refine o_addS (by omega) ?_
          refine tail _ _ ?_ _
          unfold nmF
          rw [decide_eq_true h', if_pos rfl]
          rfl
        · have h' : ¬ drawF ns 110 2 = 1 := fun e => h (by rw [e])
          refine sxs_nil (tail _ _ ?_ _)
          unfold nmF
          rw [decide_eq_false h', if_neg (by decide)]
          rfl
      · obtain ⟨⟨o8, o9, o10, rfl⟩, sm, ep'⟩ := hP
        rw [Int.toNat_natCast] at ep'
        generalize decide (drawF ns 110 2 = 1) = b at ep'
        have hnd : ((List.range m).map (nmF W at_ sz fi b)).Nodup := by
          unfold List.Nodup
          rw [List.pairwise_map]
          refine List.Pairwise.imp_of_mem (fun {x y} hx hy hxy e => ?_) (List.nodup_range (n := m))
          have hx' := List.mem_range.mp hx
          have hy' := List.mem_range.mp hy
          exact hxy (nm_inj hwl hats hs8 (by omega) (by omega) e)
        have hnm : ∀ z ∈ (List.range m).map (nmF W at_ sz fi b), isName z = true := fun z hz => by
          obtain ⟨j, hj, rfl⟩ := List.mem_map.mp hz
          have hj' := List.mem_range.mp hj
          have := nm_len (first := fi) (b := b) hwl hats hs8 (show j < 6 by omega)
          exact isName_of this.1 this.2 (nm_in hwl hats hs8 hwc)
        have hln : ((List.range m).map (nmF W at_ sz fi b)).length = m := by rw [List.length_map, List.length_range]
        generalize (List.range m).map (nmF W at_ sz fi b) = zs at ep' hnd hnm hln
        refine sxs_cons ?_
        walk_at "go"
        refine ⟨a, ns, 111, 2, rfl, sm.seq hS, hl, by decide, by decide, by decide, ?_⟩
        walk_at "go"
        refine ifD (fun h => ?_) (fun h => ?_)
        · refine sxs_one (sx_expr (by rfl) (ev_bm0 PySem.F.plainAttrs_list PySem.F.slot_list_reverse PySem.F.type_list_reverse (by rfl) (by rfl) ?_))
          walk_at "go"
          refine ⟨.inl ⟨rfl, _, SqL.of ep'⟩, ?_⟩
          refine mt_by mt_reverse ⟨p, _, rfl, rfl, ep', ?_⟩
          walk_at "go"
          rw [← List.map_reverse]
          exact q p zs.reverse _ (fun b o e => by rw [upd_ne (ne_of_none e pn)]; exact sm _ _ e) pn upd_same (by rw [List.length_reverse]; exact hln) (List.pairwise_reverse.mpr (hnd.imp fun h => Ne.symm h)) (fun z hz => hnm z (List.mem_reverse.mp hz))
        · walk_at "go"
          exact q p zs H' sm pn ep' hln hnd hnm
    · have : i < xs.length := (List.getElem?_eq_some_iff.mp e).1
      rw [List.getElem?_range (by simp at hl2; omega)]
end
end K60

namespace K60
open PySem L2 PyProof.Rows My Vl Lw
section
variable {P : Program} {w : World} {K : PySem.W.Frag} {mg : Str → Option Value} {base : Heap}
def nine : List Str := [Str.ofString "all", Str.ofString "none", Str.ofString "is", Str.ofString "not", Str.ofString "over", Str.ofString "under", Str.ofString "holds", Str.ofString "both", Str.ofString "either"]
theorem nine_name : ∀ z ∈ nine, isName z = true := by decide +kernel
theorem nine_nd : nine.Nodup := by decide +kernel
theorem nine_get {i : Nat} (h : i < 9) : nine[i]? = some (nine.getD i "") := by
  have h9 : i < nine.length := h
  rw [List.getD_eq_getElem?_getD, List.getElem?_eq_getElem h9]
  rfl
theorem nine_inj {i j : Nat} (hi : i < 9) (hj : j < 9) (e : nine.getD i "" = nine.getD j "") : i = j := by
  have e1 := nine_get hi
  have e2 := nine_get hj
  rw [e] at e1
  have h9 : i < nine.length := hi
  have g9 : j < nine.length := hj
  have a1 : nine[i] = nine.getD j "" := by
    have := List.getElem?_eq_getElem h9
    rw [this] at e1
    exact Option.some.inj e1
  have a2 : nine[j] = nine.getD j "" := by
    have := List.getElem?_eq_getElem g9
    rw [this] at e2
    exact Option.some.inj e2
  exact (List.getElem_inj nine_nd).mp (a1.trans a2.symm)
theorem okCols_of {cs : List Col} (h1 : 1 ≤ cs.length) (h6 : cs.length ≤ 6) (hn : (cs.map Prod.fst).Nodup) (h : ∀ c ∈ cs, isName c.1 = true ∧ (c.2 = "number" ∨ c.2 = "text")) : okCols cs = true := by
  unfold okCols isKind
  rw [Bool.and_eq_true, Bool.and_eq_true, decide_eq_true_eq, decide_eq_true_eq, List.all_eq_true]
  exact ⟨⟨⟨h1, h6⟩, fun c hc => by rw [(h c hc).1, decide_eq_true (h c hc).2]; rfl⟩, hn⟩
def spCols2 (K : PySem.W.Frag) : Sp := fun vs H Q _ => ∃ (a : Addr) (ns : List Int), vs = [.ref a] ∧ SqL K H a (ns.map V.int) ∧ ns.length ≤ 63 ∧ ∀ p cs H', Same H H' → H p = none → Cols H' p cs → okCols cs = true → Q (.ref p) H'
theorem d__law_columns (T : Txt K mg) : Def P w K mg base true 3 "_law_columns" ["_law_script"] (spCols2 K) := by
  refine df__law_columns T (fun vs H Q E h => by obtain ⟨a, ns, rfl, _⟩ := h; rfl) (fun f cdv A outer s H vs Q E hr h => ?_)
  obtain ⟨a, ns, rfl, hS, hl, q⟩ := h
  have nd := sc__law_columns.nd
  have n1 := T.n_range
  have n2 := T.n_len
  have hsz : sizeLine = 16777216 := sizeLine_eq
  have D1 : Def P w K mg base true 1 "_law_draw" ["_law_script", "_law_k", "_law_many"] (spDraw K) := d__law_draw T
  have D2 : Def P w K mg base true 2 "_law_names" ["_law_script", "_law_many"] (spNames K) := d__law_names T
  have ndc : (["_law_k", "_law_names_here", "_law_script"] : List Str).Nodup := by decide +kernel
  -- the columns of the names
  have fin : ∀ (m : Nat) (L : Addr) (zs : List Str) (H1 : Hp) (o3 : Option V), 1 ≤ m → m ≤ 6 → Same H H1 → H1 L = some (.lst (zs.map V.str)) → zs.length = m → zs.Nodup → (∀ z ∈ zs, isName z = true) →
      SXs (CxF true P w K mg base N__law_columns "_law_columns" (defScope s__law_columns) f cdv A outer s H E) ((defBody s__law_columns).drop 4) { nx := fun _ H' => Q .non H', rt := Q } [some (.ref a), some (.int m), some (.ref L), o3] H1 := by
    intro m L zs H1 o3 hm1 hm6 sm1 hL hzl hznd hzn
    have hzm : (zs.map V.str).length = zs.length := List.length_map ..
    have SL : SqL K H1 L (zs.map V.str) := SqL.of hL
    refine sxs_one (sx_ret ?_)
    refine ev_compRh ["_law_k", "_law_names_here", "_law_script"] (σ' := [none, some (.ref L), some (.ref a)]) (by rfl) (by rfl) (compSc_of (defScope s__law_columns) (by rfl) (by rfl) (by decide +kernel)) (by rfl) n1 (by rfl) ?_
    walk_at "go"
    rw [hzm]
    refine ⟨by omega, by omega, fun τ => ∃ o1, τ = [o1, some (.ref L), some (.ref a)], fun E2 i u H' => ∃ kk : Str, (kk = "number" ∨ kk = "text") ∧ ∃ t, u = .ref t ∧ t ≠ E2 ∧ H' t = some (.tup [.str (zs.getD i ""), .str kk]), ⟨none, rfl⟩, fun E2 i u H2 H3 ys _ y2 y3 => ?_, fun fp E2 C s3 H0 i τ x H4 H3 hE2 hi hτ sm4 hys hG => ?_, fun L2 H2 ys hL2 hl2 hx2 e2 sm2 => ?_⟩
    · obtain ⟨kk, hk, t, rfl, ht, hq⟩ := y3
      exact ⟨kk, hk, t, rfl, ht, y2 _ _ ht hq⟩
    · obtain ⟨o1, rfl⟩ := hτ
      obtain ⟨rfl, rfl⟩ := hG
      have hi' : i < zs.length := by simpa using hi
      have hz : (zs.map V.str)[i]? = some (V.str (zs.getD i "")) := by
        rw [List.getElem?_map, List.getD_eq_getElem?_getD, List.getElem?_eq_getElem hi']
        rfl
      refine eg_name ndc (by rfl) (.inl rfl) (.inr rfl) ?_
      walk_at "go"
      refine i_list (sm4.seq SL) (atI_nat hz) ?_
      walk_at "go"
      refine ⟨by show 2 ≤ sizeLine; omega, fun k hk => ?_⟩
      have smk : Same H4 (upd H4 k (.lst [.str "number", .str "text"])) := Same.upd hk
      have ek : (upd H4 k (.lst [.str "number", .str "text"])) k = some (.lst [.str "number", .str "text"]) := upd_same
      generalize upd H4 k (.lst [.str "number", .str "text"]) = H5 at smk ek ⊢
      walk_at "go"
      refine ⟨a, ns, 10 + i, 2, rfl, ((sm1.trans sm4).trans smk).seq hS, hl, by omega, by omega, by decide, ?_⟩
      have k0 := drawF_nn ns (10 + i) (m := 2) (by decide)
      have k1 := drawF_lt ns (10 + i) (m := 2) (by decide)
      obtain ⟨kd, e1, e2⟩ := atI_mem (xs := [V.str "number", V.str "text"]) k0 (by show _ < (2 : Int); omega)
      refine i_list (SqL.of ek) e1 ?_
      walk_at "go"
      obtain ⟨kk, rfl, hkk⟩ : ∃ kk : Str, kd = .str kk ∧ (kk = "number" ∨ kk = "text") := by
        rcases List.mem_cons.mp e2 with e | e
        · exact ⟨_, e, .inl rfl⟩
        · exact ⟨"text", by simpa using e, .inr rfl⟩
      refine ⟨by show 2 ≤ sizeLine; omega, fun tp htp => ?_⟩
      refine ⟨⟨_, rfl⟩, ⟨kk, hkk, tp, rfl, fun e => ?_, upd_same⟩, smk.trans (Same.upd htp)⟩
      obtain ⟨zs', hz'⟩ := hys
      rw [e, smk _ _ hz'] at htp
      cases htp
    · have hyl : ys.length = zs.length := by rw [hl2]; simp
      -- the columns as data
      have hex : ∀ (k : Nat) (ys : List V) (zs : List Str), ys.length = zs.length → (∀ (i : Nat) u, ys[i]? = some u → ∃ kk : Str, (kk = "number" ∨ kk = "text") ∧ ∃ t, u = .ref t ∧ H2 t = some (.tup [.str (zs.getD i ""), .str kk])) → ∃ cs : List Col, All2 (ColAt H2) ys cs ∧ cs.map Prod.fst = zs ∧ ∀ c ∈ cs, c.2 = "number" ∨ c.2 = "text" := by
        intro _ ys
        induction ys with
        | nil =>
          intro zs hl _
          cases zs with
          | nil => exact ⟨[], .nil, rfl, fun c hc => by simp at hc⟩
          | cons _ _ => simp at hl
        | cons u ys ih =>
          intro zs hl h
          cases zs with
          | nil => simp at hl
          | cons z zs =>
            obtain ⟨kk, hk, t, rfl, ht⟩ := h 0 u rfl
            obtain ⟨cs, h1, h2, h3⟩ := ih zs (by simpa using hl) fun i u e => by
              have := h (i + 1) u (by simpa using e)
              simpa using this
            refine ⟨(z, kk) :: cs, .cons ⟨t, rfl, by simpa using ht⟩ h1, by simp [h2], fun c hc => ?_⟩
            rcases List.mem_cons.mp hc with e | e
            · subst e; exact hk
            · exact h3 c e
      obtain ⟨cs, h1, h2, h3⟩ := hex 0 ys zs hyl fun i u e => by
        obtain ⟨kk, hk, t, e1, _, e3⟩ := hx2 i u e
        exact ⟨kk, hk, t, e1, e3⟩
      have hcl : cs.length = zs.length := by rw [← h2, List.length_map]
      refine q L2 cs H2 (sm1.trans sm2) (sm1.free hL2) ⟨ys, e2, h1⟩ (okCols_of (by omega) (by omega) (by rw [h2]; exact hznd) fun c hc => ⟨hzn _ ?_, h3 c hc⟩)
      rw [← h2]
      exact List.mem_map_of_mem hc
  -- the names
  have mid : ∀ (m : Nat), 1 ≤ m → m ≤ 6 → SXs (CxF true P w K mg base N__law_columns "_law_columns" (defScope s__law_columns) f cdv A outer s H E) ((defBody s__law_columns).drop 2) { nx := fun _ H' => Q .non H', rt := Q } [some (.ref a), some (.int m), none, none] H := by
    intro m hm1 hm6
    refine sxs_cons ?_
    walk_at "go"
    refine ⟨a, ns, m, rfl, hS, hl, hm6, fun L zs H1 sm1 hLn hL hzl hznd hzn => ?_⟩
    have hzm : (zs.map V.str).length = zs.length := List.length_map ..
    refine sxs_cons ?_
    walk_at "go"
    refine ⟨a, ns, 9, 4, rfl, sm1.seq hS, hl, by decide, by decide, by decide, ?_⟩
    walk_at "go"
    refine ifD (fun h => ?_) (fun h => ?_)
    · refine sxs_cons ?_
      walk_at "go"
      refine ⟨by show 9 ≤ sizeLine; omega, fun y hy => ?_⟩
      have smy : Same H1 (upd H1 y (.lst (nine.map V.str))) := Same.upd hy
      have ey : (upd H1 y (.lst (nine.map V.str))) y = some (.lst (nine.map V.str)) := upd_same
      change SXs _ _ _ _ (upd H1 y (.lst (nine.map V.str)))
      generalize upd H1 y (.lst (nine.map V.str)) = H2 at smy ey ⊢
      have SL : SqL K H2 L (zs.map V.str) := SqL.of (smy _ _ hL)
      refine sxs_one ?_
      walk_at "s"
      refine ev_compR ["_law_k", "_law_script", "_law_some"] (σ' := [none, some (.ref a), some (.ref y)]) (by rfl) (by rfl) (compSc_of (defScope s__law_columns) (by rfl) (by rfl) (by decide +kernel)) (by decide +kernel) (by rfl) (by rfl) (by rfl) n1 (by rfl) ?_
      walk_at "go"
      rw [hzm]
      have d0 := drawF_nn ns 8 (m := 9) (by decide)
      have d1 := drawF_lt ns 8 (m := 9) (by decide)
      obtain ⟨d, ed⟩ := Int.eq_ofNat_of_zero_le d0
      have hd : d < 9 := by omega
      refine ⟨by omega, by omega, fun i v => v = .str (nine.getD ((d + 2 * i) % 9) ""), fun fp E' C s3 H0 i H3 hi sm => ?_, fun E' H3 xs hE hl2 hx e2 sm => ?_⟩
      · walk_at "go"
        refine ⟨a, ns, 8, 9, rfl, ((sm1.trans smy).trans sm).seq hS, hl, by decide, by decide, by decide, ?_⟩
        rw [ed]
        walk_at "go"
        rw [show ((d : Int) + 2 * (i : Int)) % 9 = (((d + 2 * i) % 9 : Nat) : Int) by omega]
        have hg : (nine.map V.str)[(d + 2 * i) % 9]? = some (V.str (nine.getD ((d + 2 * i) % 9) "")) := by
          rw [List.getElem?_map, nine_get (Nat.mod_lt _ (by decide))]
          rfl
        exact i_list (SqL.of (sm _ _ ey)) (atI_nat hg) ⟨rfl, Same.refl _⟩
      · have ex := list_of_pi (ys := List.range zs.length) (fun i : Nat => V.str (nine.getD ((d + 2 * i) % 9) "")) (by rw [hl2, List.length_range]; simp) (fun i v e => ⟨i, ?_, hx i v e⟩)
        · have ex2 : xs = ((List.range zs.length).map fun i : Nat => nine.getD ((d + 2 * i) % 9) "").map V.str := by
            rw [ex, List.map_map]
            rfl
          subst ex2
          refine fin m E' _ H3 _ hm1 hm6 ((sm1.trans smy).trans sm) e2 (by rw [List.length_map, List.length_range]; exact hzl) ?_ fun z hz => ?_
          · unfold List.Nodup
            rw [List.pairwise_map]
            refine List.Pairwise.imp_of_mem (fun {x y} hx hy hxy e => ?_) (List.nodup_range (n := zs.length))
            have hx' := List.mem_range.mp hx
            have hy' := List.mem_range.mp hy
            have := nine_inj (Nat.mod_lt _ (by decide)) (Nat.mod_lt _ (by decide)) e
            omega
          · obtain ⟨i, _, rfl⟩ := List.mem_map.mp hz
            have h9 : (d + 2 * i) % 9 < 9 := Nat.mod_lt _ (by decide)
            exact nine_name _ (List.mem_of_getElem? (nine_get h9))
        · have : i < xs.length := (List.getElem?_eq_some_iff.mp e).1
          rw [List.getElem?_range (by simp at hl2; omega)]
    · refine sxs_nil ?_
      exact fin m L zs H1 _ hm1 hm6 sm1 hL hzl hznd hzn
  refine sxs_cons ?_
  walk_at "go"
  refine ⟨a, ns, 0, 4, rfl, hS, hl, by decide, by decide, by decide, ?_⟩
  have c0 := drawF_nn ns 0 (m := 4) (by decide)
  have c1 := drawF_lt ns 0 (m := 4) (by decide)
  obtain ⟨m, em⟩ : ∃ m : Nat, 1 + drawF ns 0 4 = (m : Int) := ⟨(1 + drawF ns 0 4).toNat, by omega⟩
  walk_at "go"
  rw [em]
  refine ⟨a, ns, 7, 8, rfl, hS, hl, by decide, by decide, by decide, ?_⟩
  walk_at "go"
  refine ifD (fun h => ?_) (fun h => ?_)
  · refine sxs_one ?_
    walk_at "s"
    walk_at "go"
    refine ⟨a, ns, 6, 2, rfl, hS, hl, by decide, by decide, by decide, ?_⟩
    have c2 := drawF_nn ns 6 (m := 2) (by decide)
    have c3 := drawF_lt ns 6 (m := 2) (by decide)
    obtain ⟨m', em'⟩ : ∃ m : Nat, 5 + drawF ns 6 2 = (m : Int) := ⟨(5 + drawF ns 6 2).toNat, by omega⟩
    walk_at "ex"
    rw [em']
    exact mid m' (by omega) (by omega)
  · exact sxs_nil (mid m (by omega) (by omega))
end
end K60

namespace K60
open PySem L2 PyProof.Rows My Vl Lw
section
variable {P : Program} {w : World} {K : PySem.W.Frag} {mg : Str → Option Value} {base : Heap}
/-- a value of a kind, within its bounds -/
def valK (kd : Str) (v : V) : Prop := v = .non ∨ (kd = "number" ∧ ∃ i, v = .int i ∧ -1000000000000000000 ≤ i ∧ i ≤ 1000000000000000000) ∨ (¬ kd = "number" ∧ ∃ z, v = .str z ∧ z.length ≤ 20 ∧ ∀ c ∈ z.cps.toList, c ∈ SG)
theorem valK.sc {kd : Str} {v : V} (h : valK kd v) : scalar v = true := by
  rcases h with rfl | ⟨_, i, rfl, _⟩ | ⟨_, z, rfl, _⟩ <;> rfl
theorem valK.sca {kd : Str} {v : V} (h : valK kd v) : sca v = true ∧ ∀ z, v = .str z → okS 4000 z := by
  rcases h with rfl | ⟨_, i, rfl, _⟩ | ⟨_, z, rfl, hl, hz⟩
  · exact ⟨rfl, fun z e => by cases e⟩
  · exact ⟨rfl, fun z e => by cases e⟩
  · exact ⟨rfl, fun y e => by cases e; exact okS.sg (by omega) hz⟩
def eight : List Str := [Str.ofString "", Str.ofString "a", Str.ofString "b", Str.ofString "ab", Str.ofString "a-", Str.ofString "0", Str.ofString "z9", Str.ofString "aa"]
theorem eight_ok : ∀ z ∈ eight, z.length ≤ 20 ∧ ∀ c ∈ z.cps.toList, c ∈ SG := by decide +kernel
def spValue2 (K : PySem.W.Frag) : Sp := fun vs H Q _ => ∃ (a : Addr) (ns : List Int) (k : Int) (kd : Str), vs = [.ref a, .int k, .str kd] ∧ SqL K H a (ns.map V.int) ∧ ns.length ≤ 63 ∧ 0 ≤ k ∧ k ≤ 50000 ∧ ∀ v H', Same H H' → valK kd v → Q v H'
theorem d__law_value (T : Txt K mg) : Def P w K mg base true 2 "_law_value" ["_law_script", "_law_k", "_law_kind"] (spValue2 K) := by
  refine df__law_value T (fun vs H Q E h => by obtain ⟨a, ns, k, kd, rfl, _⟩ := h; rfl) (fun f cdv A outer s H vs Q E hr h => ?_)
  obtain ⟨a, ns, k, kd, rfl, hS, hl, hk0, hk1, q⟩ := h
  have nd := sc__law_value.nd
  have n1 := T.n_len
  have hsz : sizeLine = 16777216 := sizeLine_eq
  have hlm : (ns.map V.int).length = ns.length := List.length_map ..
  have D1 : Def P w K mg base true 1 "_law_draw" ["_law_script", "_law_k", "_law_many"] (spDraw K) := d__law_draw T
  have tail : ∀ (way cell : Int), SXs (CxF true P w K mg base N__law_value "_law_value" (defScope s__law_value) f cdv A outer s H E) ((defBody s__law_value).drop 3) { nx := fun _ H' => Q .non H', rt := Q } [some (.ref a), some (.int k), some (.str kd), some (.int way), some (.int cell), none] H := by
    intro way cell
    refine sxs_cons ?_
    walk_at "go"
    refine ifD (fun h => ?_) (fun h => ?_)
    · have hn : kd = "number" := by injection h
      walk_at "go"
      refine ifD (fun h1 => ?_) (fun h1 => ?_)
      · walk_at "go"
        refine ⟨a, ns, k + 1, 3, rfl, hS, hl, by omega, by omega, by decide, ?_⟩
        have c0 := drawF_nn ns (k + 1) (m := 3) (by decide)
        have c1 := drawF_lt ns (k + 1) (m := 3) (by decide)
        generalize drawF ns (k + 1) 3 = d at c0 c1 ⊢
        walk_at "go"
        exact q _ _ (Same.refl _) (.inr (.inl ⟨hn, _, rfl, by omega, by omega⟩))
      · walk_at "go"
        refine ifD (fun h2 => ?_) (fun h2 => ?_)
        · walk_at "go"
          have c0 := Int.emod_nonneg cell (b := 2 * 1000000000000000000 + 1) (by decide)
          have c1 := Int.emod_lt_of_pos cell (b := 2 * 1000000000000000000 + 1) (by decide)
          exact q _ _ (Same.refl _) (.inr (.inl ⟨hn, _, rfl, by omega, by omega⟩))
        · walk_at "go"
          refine ⟨a, ns, k + 1, 4, rfl, hS, hl, by omega, by omega, by decide, ?_⟩
          have c0 := drawF_nn ns (k + 1) (m := 4) (by decide)
          have c1 := drawF_lt ns (k + 1) (m := 4) (by decide)
          generalize drawF ns (k + 1) 4 = d at c0 c1 ⊢
          walk_at "go"
          exact q _ _ (Same.refl _) (.inr (.inl ⟨hn, _, rfl, by omega, by omega⟩))
    · have hn : ¬ kd = "number" := fun e => h (by rw [e])
      walk_at "go"
      refine ifD (fun h1 => ?_) (fun h1 => ?_)
      · have z3 : ∀ j, j < 3 → (Str.ofString "z9-").cps.toList[j]? = some ((Str.ofString "z9-").cps.toList.getD j 0) := by decide +kernel
        have z4 : ∀ j, j < 4 → (Str.ofString "a0-z").cps.toList[j]? = some ((Str.ofString "a0-z").cps.toList.getD j 0) := by decide +kernel
        have g3 : ∀ j, j < 3 → (Str.ofString "z9-").cps.toList.getD j 0 ∈ SG := by decide +kernel
        have g4 : ∀ j, j < 4 → (Str.ofString "a0-z").cps.toList.getD j 0 ∈ SG := by decide +kernel
        refine sxs_cons ?_
        walk_at "go"
        refine ⟨a, ns, k + 1, 3, rfl, hS, hl, by omega, by omega, by decide, ?_⟩
        have c0 := drawF_nn ns (k + 1) (m := 3) (by decide)
        have c1 := drawF_lt ns (k + 1) (m := 3) (by decide)
        obtain ⟨d, ed⟩ := Int.eq_ofNat_of_zero_le c0
        rw [ed]
        have hd : d < 3 := by omega
        refine i_str (by decide +kernel) (atI_nat (z3 d hd)) ?_
        have gd := g3 d hd
        generalize (Str.ofString "z9-").cps.toList.getD d 0 = x at gd ⊢
        refine sxs_one ?_
        walk_at "go"
        refine o_mulS (by decide) (by decide) (by show 0 < 1; decide) (by show 1 * 19 ≤ sizeLine; omega) ?_
        have r1 := repS_one x 19 (by decide)
        have r2 : (repS (⟨#[x]⟩ : Str) 19).length = 19 := by rw [L2.len_list, r1, List.length_replicate]; rfl
        walk_at "go"
        refine ⟨a, ns, k + 2, 4, rfl, hS, hl, by omega, by omega, by decide, ?_⟩
        have e0 := drawF_nn ns (k + 2) (m := 4) (by decide)
        have e1 := drawF_lt ns (k + 2) (m := 4) (by decide)
        obtain ⟨d2, ed2⟩ := Int.eq_ofNat_of_zero_le e0
        rw [ed2]
        have hd2 : d2 < 4 := by omega
        refine i_str (by decide +kernel) (atI_nat (z4 d2 hd2)) ?_
        have gd2 := g4 d2 hd2
        generalize (Str.ofString "a0-z").cps.toList.getD d2 0 = y at gd2 ⊢
        have r3 : (⟨#[y]⟩ : Str).length = 1 := rfl
        have r4 := len_app (repS (⟨#[x]⟩ : Str) 19) ⟨#[y]⟩
        refine o_addS (by omega) ?_
        refine q _ _ (Same.refl _) (.inr (.inr ⟨hn, _, rfl, by omega, fun c hc => ?_⟩))
        rw [cps_app, r1] at hc
        rcases List.mem_append.mp hc with e | e
        · rw [List.eq_of_mem_replicate e]; exact gd
        · have : c = y := by simpa using e
          rw [this]; exact gd2
      · walk_at "go"
        refine ⟨by show 8 ≤ sizeLine; omega, fun p hp => ?_⟩
        have smp : Same H (upd H p (.lst (eight.map V.str))) := Same.upd hp
        have ep : (upd H p (.lst (eight.map V.str))) p = some (.lst (eight.map V.str)) := upd_same
        change EV _ _ _ (upd H p (.lst (eight.map V.str))) _
        generalize upd H p (.lst (eight.map V.str)) = H2 at smp ep ⊢
        walk_at "go"
        refine ⟨a, ns, k + 1, 8, rfl, smp.seq hS, hl, by omega, by omega, by decide, ?_⟩
        have c0 := drawF_nn ns (k + 1) (m := 8) (by decide)
        have c1 := drawF_lt ns (k + 1) (m := 8) (by decide)
        obtain ⟨v, e1, e2⟩ := atI_mem (xs := eight.map V.str) c0 (by show _ < (8 : Int); omega)
        refine i_list (SqL.of ep) e1 ?_
        obtain ⟨z, hz, rfl⟩ := List.mem_map.mp e2
        exact q _ _ smp (.inr (.inr ⟨hn, z, rfl, eight_ok z hz⟩))
  refine sxs_cons ?_
  walk_at "go"
  refine ⟨a, ns, k, 8, rfl, hS, hl, by omega, by omega, by decide, ?_⟩
  walk_at "go"
  refine ifD (fun h0 => ?_) (fun h0 => ?_)
  · walk_at "go"
    exact q _ _ (Same.refl _) (.inl rfl)
  · walk_at "go"
    rw [hlm]
    refine ifD (fun h3 => ?_) (fun h3 => ?_)
    · walk_at "go"
      rw [hlm]
      walk_at "go"
      refine i_list hS (atI_map 0 (Int.emod_nonneg _ (by omega)) (Int.emod_lt_of_pos _ (by omega))) ?_
      exact tail _ _
    · walk_at "ex"
      exact tail _ _
end
end K60

namespace K60
open PySem L2 PyProof.Rows My Vl Lw
section
variable {P : Program} {w : World} {K : PySem.W.Frag} {mg : Str → Option Value} {base : Heap}
def spValues2 (K : PySem.W.Frag) : Sp := fun vs H Q _ => ∃ (a : Addr) (ns : List Int) (k : Int) (b : Addr) (cs : List Col), vs = [.ref a, .int k, .ref b] ∧ SqL K H a (ns.map V.int) ∧ ns.length ≤ 63 ∧ 0 ≤ k ∧ k ≤ 40000 ∧ Cols H b cs ∧ cs.length ≤ 6 ∧ ∀ p xs H', Same H H' → H p = none → H' p = some (.lst xs) → All2 (fun c x => valK c.2 x) cs xs → Q (.ref p) H'
theorem all2_of_get {α β : Type} {R : α → β → Prop} : ∀ {l : List α} {m : List β}, m.length = l.length → (∀ (i : Nat) b, m[i]? = some b → ∃ a, l[i]? = some a ∧ R a b) → All2 R l m
  | [], [], _, _ => .nil
  | [], _ :: _, h, _ => by simp at h
  | _ :: _, [], h, _ => by simp at h
  | a :: l, b :: m, h, g => by
    obtain ⟨a', e, r⟩ := g 0 b rfl
    have : a = a' := by simpa using e
    subst this
    exact .cons r (all2_of_get (by simpa using h) fun i x e => by simpa using g (i + 1) x (by simpa using e))
theorem d__law_values (T : Txt K mg) : Def P w K mg base true 3 "_law_values" ["_law_script", "_law_k", "_law_columns_here"] (spValues2 K) := by
  refine df__law_values T (fun vs H Q E h => by obtain ⟨a, ns, k, b, cs, rfl, _⟩ := h; rfl) (fun f cdv A outer s H vs Q E hr h => ?_)
  obtain ⟨a, ns, k, b, cs, rfl, hS, hl, hk0, hk1, hC, hc6, q⟩ := h
  have n1 := T.n_range
  have n2 := T.n_len
  have hsz : sizeLine = 16777216 := sizeLine_eq
  have D1 : Def P w K mg base true 2 "_law_value" ["_law_script", "_law_k", "_law_kind"] (spValue2 K) := d__law_value T
  have ndc : (["_law_n", "_law_columns_here", "_law_k", "_law_script"] : List Str).Nodup := by decide +kernel
  obtain ⟨vs, hb, hvs⟩ := id hC
  have hvl := hvs.len
  have SB : SqL K H b vs := SqL.of hb
  refine sxs_one (sx_ret ?_)
  refine ev_compRh ["_law_n", "_law_columns_here", "_law_k", "_law_script"] (σ' := [none, some (.ref b), some (.int k), some (.ref a)]) (by rfl) (by rfl) (compSc_of (defScope s__law_values) (by rfl) (by rfl) (by decide +kernel)) (by rfl) n1 (by rfl) ?_
  walk_at "go"
  refine ⟨by omega, by omega, fun τ => ∃ o1, τ = [o1, some (.ref b), some (.int k), some (.ref a)], fun E2 i u H' => ∃ c, cs[i]? = some c ∧ valK c.2 u, ⟨none, rfl⟩, fun E2 i u H2 H3 ys _ _ p => p, fun fp E2 C s3 H0 i τ x H4 H3 hE2 hi hτ sm4 hys hG => ?_, fun L H1 ys hL hl2 hx2 e1 sm1 => ?_⟩
  · obtain ⟨o1, rfl⟩ := hτ
    obtain ⟨rfl, rfl⟩ := hG
    have hil : i < vs.length := by simpa using hi
    have hg : vs[i]? = some vs[i] := List.getElem?_eq_getElem hil
    obtain ⟨c, hc, t, ev, ht⟩ := hvs.get hg
    refine eg_name ndc (by rfl) (.inl rfl) (.inr rfl) ?_
    walk_at "go"
    refine i_list (sm4.seq SB) (atI_nat hg) ?_
    rw [ev]
    walk_at "go"
    refine i_tup (SqT.of (sm4 _ _ ht)) (show atI [V.str c.1, V.str c.2] 1 = some (V.str c.2) from rfl) ?_
    walk_at "go"
    refine ⟨a, ns, _, c.2, rfl, sm4.seq hS, hl, by omega, by omega, fun v H5 sm5 hv => ?_⟩
    exact ⟨⟨_, rfl⟩, ⟨c, hc, hv⟩, sm5⟩
  · exact q L ys H1 sm1 hL e1 (all2_of_get (by rw [hl2, ← hvl]; simp) hx2)
end
end K60

namespace K60
open PySem L2 PyProof.Rows My Vl Lw
section
variable {P : Program} {w : World} {K : PySem.W.Frag} {mg : Str → Option Value} {base : Heap}
theorem placeF_step {cs : List Col} {z : Str} : ∀ {i : Nat} {c : Col} (j : Nat), cs[i]? = some c → (∀ k c, k < i → cs[k]? = some c → ¬ c.1 = z) → c.1 = z → placeF cs z j = .int ((j + i : Nat) : Int) := by
  induction cs with
  | nil => intro i c j e; simp at e
  | cons d r ih =>
    intro i c j e h hz
    unfold placeF
    cases i with
    | zero =>
      simp at e
      subst e
      rw [if_pos hz]
      rfl
    | succ i =>
      rw [if_neg (h 0 d (by omega) rfl)]
      rw [ih (j + 1) (by simpa using e) (fun k c hk e' => h (k + 1) c (by omega) (by simpa using e')) hz]
      congr 2
      omega
theorem placeF_none {cs : List Col} {z : Str} : ∀ (j : Nat), (∀ c ∈ cs, ¬ c.1 = z) → placeF cs z j = .non := by
  induction cs with
  | nil => intro j h; rfl
  | cons d r ih =>
    intro j h
    unfold placeF
    rw [if_neg (h d (by simp)), ih (j + 1) fun c hc => h c (by simp [hc])]
theorem d_place_of (T : Txt K mg) : Def P w K mg base true 1 "place_of" ["columns", "name"] spPlace := by
  refine df_place_of T (fun vs H Q E h => by obtain ⟨a, cs, z, rfl, _⟩ := h; rfl) (fun f cdv A outer s H vs Q E hr h => ?_)
  obtain ⟨a, cs, z, rfl, ⟨vs, ha, hvs⟩, q⟩ := h
  have n1 := T.n_enumerate
  have nd := sc_place_of.nd
  refine sxs_cons ?_
  refine sx_forE (by walk_at "po") (by rfl) (by rfl) n1 (by rfl) ?_
  walk_at "go"
  refine ⟨a, vs, rfl, ha, fun i σ H' => (∃ o1 o2, σ = [some (.ref a), some (.str z), o1, o2]) ∧ Same H H' ∧ ∀ k c, k < i → cs[k]? = some c → ¬ c.1 = z, ⟨⟨none, none, rfl⟩, Same.refl _, fun k c hk => by omega⟩, fun i σ H' hi hP => .inl (.inl (hP.2.1 _ _ ha)), fun i x T' σ H' hx hP hT => ?_, fun σ H' hP => ?_⟩
  · obtain ⟨⟨o1, o2, rfl⟩, sm, hn⟩ := hP
    obtain ⟨c, hc, t, rfl, ht⟩ := hvs.get hx
    have sm2 := sm.trans (Same.upd (o := .tup [.int i, .ref t]) hT)
    have eT : (upd H' T' (.tup [.int i, .ref t])) T' = some (.tup [.int i, .ref t]) := upd_same
    generalize upd H' T' (.tup [.int i, .ref t]) = H2 at sm2 eT ⊢
    refine eg_tup (by rfl) (by rfl) (by rfl) (SqT.of eT) (by rfl) (egs_cons (by rfl) (eg_name nd (by rfl) (.inl rfl) (.inl rfl) (egs_cons (by rfl) (eg_name nd (by rfl) (.inl rfl) (.inl rfl) (egs_nil ?_)))))
    refine sxs_one ?_
    walk_at "go"
    refine i_tup (SqT.of (sm2 _ _ ht)) (show atI [V.str c.1, V.str c.2] 0 = some (V.str c.1) from rfl) ?_
    walk_at "go"
    refine ifD (fun h => ?_) (fun h => ?_)
    · have hz : c.1 = z := by injection h
      walk_at "go"
      have := placeF_step 0 hc hn hz
      rw [Nat.zero_add] at this
      rw [← this]
      exact q H2 sm2
    · have hz : ¬ c.1 = z := fun e => h (by rw [e])
      walk_at "go"
      refine ⟨⟨_, _, rfl⟩, sm2, fun k d hk hd => ?_⟩
      by_cases e : k = i
      · subst e
        rw [hc] at hd
        cases hd
        exact hz
      · exact hn k d (by omega) hd
  · obtain ⟨⟨o1, o2, rfl⟩, sm, hn⟩ := hP
    refine sxs_one ?_
    walk_at "go"
    have := placeF_none (cs := cs) (z := z) 0 fun c hc => by
      obtain ⟨k, hk, e⟩ := List.getElem_of_mem hc
      exact hn k c (by rw [hvs.len]; exact hk) (by rw [← e]; exact List.getElem?_eq_getElem hk)
    rw [← this]
    exact q H' sm
end
end K60
namespace K60
open PySem L2 PyProof.Rows My Vl Lw
section
variable {P : Program} {w : World} {K : PySem.W.Frag} {mg : Str → Option Value} {base : Heap}
theorem d_value_before (T : Txt K mg) : Def P w K mg base true 1 "value_before" ["one", "other"] spBefore := by
  refine df_value_before T (fun vs H Q E h => by obtain ⟨k, z, rfl, _⟩ := h; rfl) (fun f cdv A outer s H vs Q E hr h => ?_)
  obtain ⟨x, y, rfl, hs, q⟩ := h
  refine sxs_cons ?_
  walk_at "go"
  refine ifD (fun h => ?_) (fun h => ?_)
  · subst h
    walk_at "go"
    have e : before x .non = false := by cases x <;> rfl
    rw [e] at q
    exact q
  · walk_at "go"
    refine ifD (fun h2 => ?_) (fun h2 => ?_)
    · subst h2
      walk_at "go"
      have e : before .non y = true := by cases y <;> first | rfl | exact absurd rfl h
      rw [e] at q
      exact q
    · rcases hs with e | e | ⟨i, j, rfl, rfl⟩ | ⟨i, j, rfl, rfl⟩
      · exact absurd e h2
      · exact absurd e h
      · walk_at "go"
        exact q
      · walk_at "go"
        exact q
end
end K60
namespace K60
open PySem L2 PyProof.Rows My Vl Lw
section
variable {P : Program} {w : World} {K : PySem.W.Frag} {mg : Str → Option Value} {base : Heap}
theorem d_key_of (T : Txt K mg) : Def P w K mg base true 2 "key_of" ["columns", "order", "row", "values"] spKey := by
  refine df_key_of T (fun vs H Q E h => by obtain ⟨a, b, n, c, cs, os, xs, rfl, _⟩ := h; rfl) (fun f cdv A outer s H vs Q E hr h => ?_)
  obtain ⟨a, b, n, c, cs, os, xs, rfl, hC, ⟨ws, hb, hws⟩, hc, hxl, hcl, hol, hin, q⟩ := h
  have nd4 : (["name", "up", "columns", "values"] : List Str).Nodup := by decide +kernel
  have hsz : sizeLine = 16777216 := sizeLine_eq
  have hwl := hws.len
  have D1 : Def P w K mg base true 1 "place_of" ["columns", "name"] spPlace := d_place_of T
  refine sxs_one (sx_ret ?_)
  refine ev_tup ?_
  refine ea_cons (by rfl) ?_
  refine ev_compL ["name", "up", "columns", "values"] (σ' := [none, none, some (.ref a), some (.ref c)]) (by rfl) (by rfl) (compSc_of (defScope s_key_of) (by rfl) (by rfl) (by decide +kernel)) (by intro _; rfl) ?_
  walk_at "e"
  refine ⟨b, ws, rfl, SqL.of hb, by omega, fun τ => ∃ o1 o2, τ = [o1, o2, some (.ref a), some (.ref c)], fun E2 i u H' => ∃ o, os[i]? = some o ∧ u = atN cs xs o.1, ⟨none, none, rfl⟩, fun E2 i u H2 H3 ys _ _ p => p, fun fp E2 C s3 H0 i τ x H4 H3 hE2 hi hτ sm4 hys hG => ?_, fun E2 H4 ys hE2 hl2 hx2 e4 sm4 => ?_⟩
  · obtain ⟨o1, o2, rfl⟩ := hτ
    obtain ⟨hx3, rfl⟩ := hG
    obtain ⟨o, ho, t, rfl, ht⟩ := hws.get hx3
    refine eg_tup (by rfl) (by rfl) (by rfl) (SqT.of (sm4 _ _ ht)) (by rfl) (egs_cons (by rfl) (eg_name nd4 (by rfl) (.inl rfl) (.inr rfl) (egs_cons (by rfl) (eg_name nd4 (by rfl) (.inl rfl) (.inr rfl) (egs_nil ?_)))))
    walk_at "go"
    refine ⟨a, cs, o.1, rfl, hC.same sm4, fun H5 sm5 => ?_⟩
    have hio := hin o (List.mem_of_getElem? ho)
    rw [placeF_N 0 hio, Nat.zero_add]
    have hlt := placeN_lt hio
    have hg : xs[placeN cs o.1]? = some xs[placeN cs o.1] := List.getElem?_eq_getElem (by omega)
    refine i_list (SqL.of (sm5 _ _ (sm4 _ _ hc))) (atI_nat hg) ?_
    exact ⟨⟨_, _, rfl⟩, ⟨o, ho, by unfold atN; rw [hg]; rfl⟩, sm5⟩
  · have ey := list_of_pi (ys := os) (fun o => atN cs xs o.1) (by rw [hl2, hwl]) hx2
    walk_at "go"
    refine ⟨by show 2 ≤ sizeLine; omega, fun p hp => ?_⟩
    have pn : H p = none := by
      cases e : H p with
      | none => rfl
      | some u => rw [sm4 _ _ e] at hp; cases hp
    have smp : Same H4 (upd H4 p (.tup [.ref E2, .int n])) := Same.upd hp
    refine q p E2 _ (sm4.trans smp) pn hE2 ?_ upd_same
    rw [smp _ _ e4, ey]
    rfl
end
end K60
namespace K60
open PySem L2 PyProof.Rows My Vl Lw
section
variable {P : Program} {w : World} {K : PySem.W.Frag} {mg : Str → Option Value} {base : Heap}
theorem d_key_ahead (T : Txt K mg) : Def P w K mg base true 2 "key_ahead" ["order", "one", "other"] spAhead := by
  refine df_key_ahead T (fun vs H Q E h => by obtain ⟨b, p, q, os, xs, ys, n, k, rfl, _⟩ := h; rfl) (fun f cdv A outer s H vs Q E hr h => ?_)
  obtain ⟨b, p, q, os, xs, ys, n, k, rfl, ⟨ws, hb, hws⟩, ⟨l, hp, hl⟩, ⟨m, hq, hm⟩, hxl, hyl, hlike, post⟩ := h
  have nd := sc_key_ahead.nd
  have n1 := T.n_zip
  have hwl := hws.len
  have D1 : Def P w K mg base true 1 "value_before" ["one", "other"] spBefore := d_value_before T
  refine sxs_cons ?_
  refine sx_forZ3 (by walk_at "po") (by rfl) (by rfl) n1 (by rfl) (by rfl) (by rfl) ?_
  walk_at "go"
  refine i_tup (SqT.of hp) (show atI [V.ref l, V.int n] 0 = some (V.ref l) from rfl) ?_
  walk_at "go"
  refine i_tup (SqT.of hq) (show atI [V.ref m, V.int k] 0 = some (V.ref m) from rfl) ?_
  refine ⟨b, l, m, ws, xs, ys, ⟨rfl, rfl, rfl⟩, hb, hl, hm, by omega, by omega, fun i σ H' => (∃ o1 o2 o3, σ = [some (.ref b), some (.ref p), some (.ref q), o1, o2, o3]) ∧ Same H H' ∧ ∀ j x y, j < i → xs[j]? = some x → ys[j]? = some y → x = y,
    ⟨⟨none, none, none, rfl⟩, Same.refl _, fun j x y hj => by omega⟩, fun i σ H' hP => ⟨SqL.of (hP.2.1 _ _ hb), SqL.of (hP.2.1 _ _ hl), SqL.of (hP.2.1 _ _ hm)⟩, fun i v x y T' σ H' hv hx hy hP hT => ?_, fun σ H' hP => ?_⟩
  · obtain ⟨⟨o1, o2, o3, rfl⟩, sm, hn⟩ := hP
    obtain ⟨o, ho, t, rfl, ht⟩ := hws.get hv
    have sm2 := sm.trans (Same.upd (o := .tup [.ref t, x, y]) hT)
    have eT : (upd H' T' (.tup [.ref t, x, y])) T' = some (.tup [.ref t, x, y]) := upd_same
    generalize upd H' T' (.tup [.ref t, x, y]) = H2 at sm2 eT ⊢
    obtain ⟨sx, sy, hlk⟩ := hlike i x y hx hy
    refine eg_tup (by rfl) (by rfl) (by rfl) (SqT.of eT) (by rfl) (egs_cons (by rfl) (eg_name nd (by rfl) (.inl rfl) (.inl rfl) (egs_cons (by rfl) (eg_name nd (by rfl) (.inl rfl) (.inl rfl) (egs_cons (by rfl) (eg_name nd (by rfl) (.inl rfl) (.inl rfl) (egs_nil ?_)))))))
    refine sxs_one ?_
    walk_at "go"
    refine o_ne (scal_of sx sy) ?_
    walk_at "go"
    refine ifB (fun h => ?_) (fun h => ?_)
    · have hne : ¬ x = y := by simpa using h
      walk_at "go"
      refine ⟨x, y, rfl, hlk, ?_⟩
      walk_at "go"
      refine i_tup (SqT.of (sm2 _ _ ht)) (show atI [V.str o.1, V.bl o.2] 1 = some (V.bl o.2) from rfl) ?_
      walk_at "go"
      have e := aheadF_hit (n := n) (k := k) hxl hyl ho hx hy hn hne
      have e2 : decide (V.bl (before x y) = V.bl o.2) = decide (before x y = o.2) := by
        congr 1
        exact propext ⟨fun z => by injection z, fun z => by rw [z]⟩
      rw [e2, ← e]
      exact post H2 sm2
    · have he : x = y := by simpa using h
      walk_at "go"
      refine ⟨⟨_, _, _, rfl⟩, sm2, fun j x' y' hj e1 e2 => ?_⟩
      by_cases e : j = i
      · subst e
        rw [hx] at e1; rw [hy] at e2
        cases e1; cases e2
        exact he
      · exact hn j x' y' (by omega) e1 e2
  · obtain ⟨⟨o1, o2, o3, rfl⟩, sm, hn⟩ := hP
    refine sxs_one ?_
    walk_at "go"
    refine i_tup (SqT.of (sm _ _ hp)) (show atI [V.ref l, V.int n] 1 = some (V.int n) from rfl) ?_
    walk_at "go"
    refine i_tup (SqT.of (sm _ _ hq)) (show atI [V.ref m, V.int k] 1 = some (V.int k) from rfl) ?_
    walk_at "go"
    rw [← aheadF_end (n := n) (k := k) hxl hyl fun j x y hj e1 e2 => hn j x y (by omega) e1 e2]
    exact post H' sm
end
end K60

namespace K60
open PySem L2 PyProof.Rows My Vl Lw
section
variable {P : Program} {w : World} {K : PySem.W.Frag} {mg : Str → Option Value} {base : Heap}
/-! rows, their keys, lines -/
abbrev Row := Int × List V
/-- the tuple (number, values) -/
def RowAt (H : Hp) (v : V) (r : Row) : Prop := ∃ t l, v = .ref t ∧ H t = some (.tup [.int r.1, .ref l]) ∧ H l = some (.lst r.2)
theorem RowAt.same {H H' : Hp} {v : V} {r : Row} (h : RowAt H v r) (s : Same H H') : RowAt H' v r := by
  obtain ⟨t, l, e, q1, q2⟩ := h
  exact ⟨t, l, e, s _ _ q1, s _ _ q2⟩
def Rws (H : Hp) (a : Addr) (rs : List Row) : Prop := ∃ vs : List V, H a = some (.lst vs) ∧ All2 (RowAt H) vs rs
theorem Rws.same {H H' : Hp} {a : Addr} {rs : List Row} (h : Rws H a rs) (s : Same H H') : Rws H' a rs := by
  obtain ⟨vs, e, q⟩ := h
  exact ⟨vs, s _ _ e, q.imp fun a b r => r.same s⟩
/-- a row of these columns -/
def fitK (cs : List Col) (r : Row) : Prop := All2 (fun c x => valK c.2 x) cs r.2
theorem valK.like {kd : Str} {x y : V} (h : valK kd x) (g : valK kd y) : like x y := by
  rcases h with rfl | ⟨e, i, rfl, _⟩ | ⟨e, z, rfl, _⟩
  · exact .inl rfl
  · rcases g with rfl | ⟨_, j, rfl, _⟩ | ⟨e2, z, rfl, _⟩
    · exact .inr (.inl rfl)
    · exact .inr (.inr (.inl ⟨_, _, rfl, rfl⟩))
    · exact absurd e e2
  · rcases g with rfl | ⟨e2, j, rfl, _⟩ | ⟨_, z, rfl, _⟩
    · exact .inr (.inl rfl)
    · exact absurd e2 e
    · exact .inr (.inr (.inr ⟨_, _, rfl, rfl⟩))
theorem before_irr (x : V) : before x x = false := by
  cases x with
  | non => rfl
  | int i => exact decide_eq_false (by omega)
  | str z => exact decide_eq_false (List.lt_irrefl _)
  | _ => rfl
theorem before_tr {kd : Str} {x y z : V} (hx : valK kd x) (hy : valK kd y) (hz : valK kd z) (h1 : before x y = true) (h2 : before y z = true) : before x z = true := by
  rcases hz with rfl | ⟨e, k, rfl, _⟩ | ⟨e, z, rfl, _⟩
  · cases y <;> cases h2
  · rcases hx with rfl | ⟨_, i, rfl, _⟩ | ⟨e2, z, rfl, _⟩
    · rfl
    · rcases hy with rfl | ⟨_, j, rfl, _⟩ | ⟨e2, z, rfl, _⟩
      · cases h1
      · have a := of_decide_eq_true h1
        have b := of_decide_eq_true h2
        exact decide_eq_true (by omega)
      · exact absurd e e2
    · exact absurd e e2
  · rcases hx with rfl | ⟨e2, i, rfl, _⟩ | ⟨_, u, rfl, _⟩
    · rfl
    · exact absurd e2 e
    · rcases hy with rfl | ⟨e2, j, rfl, _⟩ | ⟨_, v, rfl, _⟩
      · cases h1
      · exact absurd e2 e
      · exact decide_eq_true (List.lt_trans (of_decide_eq_true h1) (of_decide_eq_true h2))
theorem before_anti {x y : V} (h : like x y) (sx : scalar x = true) (sy : scalar y = true) (hne : ¬ x = y) : before y x = !before x y := by
  cases x with
  | non =>
    cases y with
    | non => exact absurd rfl hne
    | int j => rfl
    | str z => rfl
    | _ => exact absurd sy Bool.false_ne_true
  | int i =>
    cases y with
    | non => rfl
    | int j =>
      have hij : ¬ i = j := fun e => hne (by rw [e])
      show decide (j < i) = !decide (i < j)
      by_cases h1 : i < j
      · rw [decide_eq_true h1, decide_eq_false (by omega)]; rfl
      · rw [decide_eq_false h1, decide_eq_true (by omega)]; rfl
    | str z => rcases h with z | z | ⟨_, _, _, z⟩ | ⟨_, _, z, _⟩ <;> cases z
    | _ => exact absurd sy Bool.false_ne_true
  | str z =>
    cases y with
    | non => rfl
    | int j => rcases h with z | z | ⟨_, _, z, _⟩ | ⟨_, _, _, z⟩ <;> cases z
    | str y =>
      have hzy : ¬ z.cps.toList = y.cps.toList := fun e => hne (by rw [str_ext e])
      show decide (y.cps.toList < z.cps.toList) = !decide (z.cps.toList < y.cps.toList)
      by_cases h1 : z.cps.toList < y.cps.toList
      · rw [decide_eq_true h1, decide_eq_false (List.lt_asymm h1)]; rfl
      · have h2 : y.cps.toList < z.cps.toList := by
          by_cases h3 : y.cps.toList < z.cps.toList
          · exact h3
          · exact absurd (List.le_antisymm (List.not_lt.mp h3) (List.not_lt.mp h1)) hzy
        rw [decide_eq_false h1, decide_eq_true h2]; rfl
    | _ => exact absurd sy Bool.false_ne_true
  | _ => exact absurd sx Bool.false_ne_true
/-- the kind of a column by its name -/
def kindZ (cs : List Col) (z : Str) : Str := match cs[placeN cs z]? with
  | some c => c.2
  | none => Str.ofString ""
/-- the list of a key by this order -/
def KeyOk (cs : List Col) (os : List Ord) (xs : List V) : Prop := All2 (fun (o : Ord) x => valK (kindZ cs o.1) x) os xs
theorem aheadF_same : ∀ {os : List Ord} {xs : List V} {n k : Int}, xs.length = os.length → aheadF os xs xs n k = decide (n < k)
  | [], [], n, k, _ => rfl
  | o :: os, x :: xs, n, k, h => by
    show (if x = x then aheadF os xs xs n k else _) = _
    rw [if_pos rfl]
    exact aheadF_same (by simpa using h)
  | [], _ :: _, _, _, h => by simp at h
  | _ :: _, [], _, _, h => by simp at h
theorem aheadF_anti {cs : List Col} {n k : Int} : ∀ {os : List Ord} {xs ys : List V}, KeyOk cs os xs → KeyOk cs os ys → ¬ xs = ys → aheadF os ys xs k n = !aheadF os xs ys n k
  | [], [], [], _, _, h => absurd rfl h
  | o :: os, x :: xs, y :: ys, .cons hx tx, .cons hy ty, h => by
    show (if y = x then aheadF os ys xs k n else decide (before y x = o.2)) = !(if x = y then aheadF os xs ys n k else decide (before x y = o.2))
    by_cases e : x = y
    · rw [if_pos e, if_pos e.symm]
      exact aheadF_anti tx ty fun e2 => h (by rw [e, e2])
    · rw [if_neg e, if_neg (Ne.symm e), before_anti (hx.like hy) hx.sc hy.sc e]
      cases before x y <;> cases o.2 <;> rfl
theorem aheadF_tr {cs : List Col} {n k m : Int} : ∀ {os : List Ord} {xs ys zs : List V}, KeyOk cs os xs → KeyOk cs os ys → KeyOk cs os zs → aheadF os xs ys n k = true → aheadF os ys zs k m = true → aheadF os xs zs n m = true
  | [], [], [], [], _, _, _, h1, h2 => by
    have a := of_decide_eq_true h1
    have b := of_decide_eq_true h2
    exact decide_eq_true (by omega)
  | o :: os, x :: xs, y :: ys, z :: zs, .cons hx tx, .cons hy ty, .cons hz tz, h1, h2 => by
    have h1' : (if x = y then aheadF os xs ys n k else decide (before x y = o.2)) = true := h1
    have h2' : (if y = z then aheadF os ys zs k m else decide (before y z = o.2)) = true := h2
    show (if x = z then aheadF os xs zs n m else decide (before x z = o.2)) = true
    by_cases e1 : x = y
    · rw [if_pos e1] at h1'
      subst e1
      by_cases e2 : x = z
      · rw [if_pos e2] at h2' ⊢
        exact aheadF_tr tx ty tz h1' h2'
      · rw [if_neg e2] at h2' ⊢
        exact h2'
    · rw [if_neg e1] at h1'
      by_cases e2 : y = z
      · subst e2
        rw [if_neg e1]
        exact h1'
      · rw [if_neg e2] at h2'
        have a := of_decide_eq_true h1'
        have b := of_decide_eq_true h2'
        cases ho : o.2 with
        | true =>
          rw [ho] at a b
          have c := before_tr hx hy hz a b
          have e3 : ¬ x = z := fun e => by rw [e, before_irr] at c; cases c
          rw [if_neg e3]
          exact decide_eq_true c
        | false =>
          rw [ho] at a b
          have a' : before y x = true := by rw [before_anti (hx.like hy) hx.sc hy.sc e1, a]; rfl
          have b' : before z y = true := by rw [before_anti (hy.like hz) hy.sc hz.sc e2, b]; rfl
          have c := before_tr hz hy hx b' a'
          have e3 : ¬ x = z := fun e => by rw [e, before_irr] at c; cases c
          rw [if_neg e3]
          have d := before_anti (hx.like hz) hx.sc hz.sc e3
          rw [c] at d
          refine decide_eq_true ?_
          cases hb : before x z with
          | true => rw [hb] at d; cases d
          | false => rfl
theorem key_ok {cs : List Col} {r : Row} (h : fitK cs r) : ∀ {os : List Ord}, inC cs os → KeyOk cs os (keyL cs os r.2)
  | [], _ => .nil
  | o :: os, hin => by
    refine .cons ?_ (key_ok h fun x hx => hin x (by simp [hx]))
    obtain ⟨c, hc, _⟩ := placeN_get (hin o (by simp))
    obtain ⟨v, hv, hk⟩ := h.get hc
    show valK (kindZ cs o.1) (atN cs r.2 o.1)
    unfold kindZ atN
    rw [hc, hv]
    exact hk
theorem KeyOk.like {cs : List Col} {os : List Ord} {xs ys : List V} (h : KeyOk cs os xs) (g : KeyOk cs os ys) : xs.length = os.length ∧ ys.length = os.length ∧ ∀ (i : Nat) x y, xs[i]? = some x → ys[i]? = some y → scalar x = true ∧ scalar y = true ∧ like x y := by
  refine ⟨h.len.symm, g.len.symm, fun i x y e1 e2 => ?_⟩
  obtain ⟨o, ho, hx⟩ := h.get' e1
  obtain ⟨o', ho', hy⟩ := g.get' e2
  rw [ho] at ho'
  cases ho'
  exact ⟨hx.sc, hy.sc, hx.like hy⟩
/-- one row ahead of the other -/
def rowLt (cs : List Col) (os : List Ord) (r q : Row) : Bool := aheadF os (keyL cs os r.2) (keyL cs os q.2) r.1 q.1
def Line (cs : List Col) (os : List Ord) (rs : List Row) : Prop := rs.Pairwise fun r q => rowLt cs os r q = true
/-- what stands ahead of a place is the first part -/
theorem pre_count {α : Type} {p : α → Bool} : ∀ {l : List α}, l.Pairwise (fun a b => p b = true → p a = true) → (∀ x ∈ l.take (l.countP p), p x = true) ∧ ∀ x ∈ l.drop (l.countP p), p x = false
  | [], _ => by simp
  | a :: l, h => by
    obtain ⟨h1, h2⟩ := List.pairwise_cons.mp h
    obtain ⟨i1, i2⟩ := pre_count h2
    cases ha : p a with
    | true =>
      rw [List.countP_cons_of_pos ha]
      exact ⟨fun x hx => by
        rcases List.mem_cons.mp (by simpa using hx) with e | e
        · rw [e]; exact ha
        · exact i1 x e, fun x hx => i2 x (by simpa using hx)⟩
    | false =>
      have hn : ∀ x ∈ l, p x = false := fun x hx => by
        cases hp : p x with
        | false => rfl
        | true => have := h1 x hx hp; rw [ha] at this; cases this
      have h0 : l.countP p = 0 := List.countP_eq_zero.mpr fun x hx => by rw [hn x hx]; exact Bool.false_ne_true
      rw [List.countP_cons_of_neg (by rw [ha]; exact Bool.false_ne_true), h0]
      refine ⟨by simp, fun x hx => ?_⟩
      rcases List.mem_cons.mp (by simpa using hx) with e | e
      · rw [e]; exact ha
      · exact hn x e
/-- a cut -/
inductive Ct
  | start
  | fin
  | at_ (ahead : Bool) (xs : List V) (n : Int)
def laF (os : List Ord) : Ct → List V → Int → Bool
  | .at_ true ys k, xs, n => aheadF os xs ys n k
  | .at_ false ys k, xs, n => !aheadF os ys xs k n
  | _, _, _ => false
def laR (cs : List Col) (os : List Ord) (c : Ct) (r : Row) : Bool := laF os c (keyL cs os r.2) r.1
def CtOk (cs : List Col) (os : List Ord) : Ct → Prop
  | .at_ _ xs _ => KeyOk cs os xs
  | _ => True
theorem la_mono {cs : List Col} {os : List Ord} (hin : inC cs os) {c : Ct} (hc : CtOk cs os c) {r q : Row} (hr : fitK cs r) (hq : fitK cs q) (h : rowLt cs os r q = true) (hl : laR cs os c q = true) : laR cs os c r = true := by
  have kr := key_ok hr hin
  have kq := key_ok hq hin
  cases c with
  | start => cases hl
  | fin => cases hl
  | at_ sd xs n =>
    cases sd with
    | true => exact aheadF_tr kr kq hc h hl
    | false =>
      have hl' : (!aheadF os xs (keyL cs os q.2) n q.1) = true := hl
      show (!aheadF os xs (keyL cs os r.2) n r.1) = true
      cases hx : aheadF os xs (keyL cs os r.2) n r.1 with
      | false => rfl
      | true =>
        rw [aheadF_tr hc kr kq hx h] at hl'
        cases hl'
theorem line_la {cs : List Col} {os : List Ord} (hin : inC cs os) {c : Ct} (hc : CtOk cs os c) : ∀ {rs : List Row}, (∀ r ∈ rs, fitK cs r) → Line cs os rs → rs.Pairwise (fun a b => laR cs os c b = true → laR cs os c a = true)
  | [], _, _ => .nil
  | r :: rs, hf, h => by
    obtain ⟨h1, h2⟩ := List.pairwise_cons.mp h
    exact .cons (fun q hq hl => la_mono hin hc (hf r (by simp)) (hf q (by simp [hq])) (h1 q hq) hl) (line_la hin hc (fun q hq => hf q (by simp [hq])) h2)
/-- a row laid in -/
theorem line_ins {cs : List Col} {os : List Ord} (hin : inC cs os) {rs : List Row} {r : Row} (hf : ∀ q ∈ rs, fitK cs q) (hr : fitK cs r) (h : Line cs os rs) (hn : ∀ q ∈ rs, ¬ q.1 = r.1) : Line cs os (insAt rs (rs.countP fun q => rowLt cs os q r) r) := by
  have kr := key_ok hr hin
  have hc : CtOk cs os (.at_ true (keyL cs os r.2) r.1) := kr
  have hp := line_la hin hc hf h
  obtain ⟨p1, p2⟩ := pre_count hp
  have ee : (fun q => rowLt cs os q r) = laR cs os (.at_ true (keyL cs os r.2) r.1) := rfl
  rw [ee]
  unfold insAt
  have hsp : Line cs os (rs.take (rs.countP (laR cs os (.at_ true (keyL cs os r.2) r.1))) ++ rs.drop (rs.countP (laR cs os (.at_ true (keyL cs os r.2) r.1)))) := by
    rw [List.take_append_drop]
    exact h
  obtain ⟨a1, a2, a3⟩ := List.pairwise_append.mp hsp
  refine List.pairwise_append.mpr ⟨a1, List.pairwise_cons.mpr ⟨fun q hq => ?_, a2⟩, fun x hx q hq => ?_⟩
  · have hf' := hf q (List.mem_of_mem_drop hq)
    have e := p2 q hq
    have kq := key_ok hf' hin
    have hne := hn q (List.mem_of_mem_drop hq)
    have e' : aheadF os (keyL cs os q.2) (keyL cs os r.2) q.1 r.1 = false := e
    show aheadF os (keyL cs os r.2) (keyL cs os q.2) r.1 q.1 = true
    by_cases hk : keyL cs os q.2 = keyL cs os r.2
    · rw [hk, aheadF_same (KeyOk.like kr kr).1] at e' ⊢
      have := of_decide_eq_false e'
      exact decide_eq_true (by omega)
    · rw [aheadF_anti kq kr hk, e']
      rfl
  · rcases List.mem_cons.mp hq with e | e
    · rw [e]; exact p1 x hx
    · exact a3 x hx q e
/-- the law's own word for what lies ahead of a cut -/
theorem la_own {cs : List Col} {os : List Ord} {sd : Bool} {xs ys : List V} {n k : Int} (hx : KeyOk cs os xs) (hy : KeyOk cs os ys) : laF os (.at_ sd ys k) xs n = (aheadF os xs ys n k || (!sd && decide (xs = ys ∧ n = k))) := by
  cases sd with
  | true =>
    show aheadF os xs ys n k = _
    rw [show (!true && decide (xs = ys ∧ n = k)) = false from rfl, Bool.or_false]
  | false =>
    show (!aheadF os ys xs k n) = _
    by_cases he : xs = ys
    · subst he
      rw [aheadF_same hx.len.symm, aheadF_same hx.len.symm]
      by_cases h1 : k < n
      · rw [decide_eq_true h1, decide_eq_false (show ¬ n < k by omega), decide_eq_false (show ¬ (xs = xs ∧ n = k) from fun e => by have := e.2; omega)]
        rfl
      · rw [decide_eq_false h1]
        by_cases h2 : n < k
        · rw [decide_eq_true h2]; rfl
        · rw [decide_eq_false h2, decide_eq_true (show xs = xs ∧ n = k from ⟨rfl, by omega⟩)]
          rfl
    · rw [aheadF_anti hx hy he, decide_eq_false (fun e => he e.1), Bool.not_not]
      simp
end
end K60

namespace K60
open PySem L2 PyProof.Rows My Vl Lw
section
variable {P : Program} {w : World} {K : PySem.W.Frag} {mg : Str → Option Value} {base : Heap}
theorem okC_len {cs : List Col} (h : okCols cs = true) : 1 ≤ cs.length ∧ cs.length ≤ 6 := by
  unfold okCols at h
  simp only [Bool.and_eq_true, decide_eq_true_eq] at h
  exact h.1.1
def spOrder2 (K : PySem.W.Frag) : Sp := fun vs H Q _ => ∃ (a : Addr) (ns : List Int) (k : Int) (b : Addr) (cs : List Col), vs = [.ref a, .int k, .ref b] ∧ SqL K H a (ns.map V.int) ∧ ns.length ≤ 63 ∧ 0 ≤ k ∧ k ≤ 40000 ∧ Cols H b cs ∧ okCols cs = true ∧ ∀ p os H', Same H H' → H p = none → Ords H' p os → os.length ≤ 4 → inC cs os → Q (.ref p) H'
theorem d__law_order (T : Txt K mg) : Def P w K mg base true 2 "_law_order" ["_law_script", "_law_k", "_law_columns_here"] (spOrder2 K) := by
  refine df__law_order T (fun vs H Q E h => by obtain ⟨a, ns, k, b, cs, rfl, _⟩ := h; rfl) (fun f cdv A outer s H vs Q E hr h => ?_)
  obtain ⟨a, ns, k, b, cs, rfl, hS, hl, hk0, hk1, ⟨vs, hb, hvs⟩, hok, q⟩ := h
  have nd := sc__law_order.nd
  have n1 := T.n_range
  have n2 := T.n_len
  have n3 := T.n_min
  have hsz : sizeLine = 16777216 := sizeLine_eq
  have D1 : Def P w K mg base true 1 "_law_draw" ["_law_script", "_law_k", "_law_many"] (spDraw K) := d__law_draw T
  have hvl := hvs.len
  obtain ⟨c1, c6⟩ := okC_len hok
  have sqc : SqL K H b vs := SqL.of hb
  refine sxs_cons ?_
  walk_at "s"
  walk_at "ex"
  refine ⟨a, ns, k + 1, _, rfl, hS, hl, by omega, by omega, by omega, ?_⟩
  have a0 := drawF_nn ns (k + 1) (m := (vs.length : Int)) (by omega)
  have a1 := drawF_lt ns (k + 1) (m := (vs.length : Int)) (by omega)
  generalize drawF ns (k + 1) (vs.length : Int) = fs at a0 a1 ⊢
  refine sxs_cons ?_
  walk_at "s"
  walk_at "ex"
  refine ⟨by show 0 ≤ sizeLine; omega, fun p hp => ?_⟩
  have sm0 : Same H (upd H p (.lst [])) := Same.upd hp
  have ep : (upd H p (.lst [])) p = some (.lst []) := upd_same
  generalize upd H p (.lst []) = H0 at sm0 ep ⊢
  refine sxs_cons ?_
  refine sx_forR (by walk_at "po") (by rfl) (by rfl) n1 (by rfl) ?_
  have sqc0 := sm0.seq sqc
  walk_at "ex"
  refine c_min2 (by rfl) ?_
  walk_at "ex"
  have hm5 : ∀ x : Int, x = (if (vs.length : Int) + 1 < 5 then (vs.length : Int) + 1 else 5) → 1 ≤ x ∧ x ≤ 5 := fun x e => by
    rw [e]
    split <;> omega
  generalize hmm : (if (vs.length : Int) + 1 < 5 then (vs.length : Int) + 1 else 5) = mm
  obtain ⟨m1, m5⟩ := hm5 mm hmm.symm
  refine ⟨a, ns, k, mm, rfl, sm0.seq hS, hl, by omega, by omega, by omega, ?_⟩
  have b0 := drawF_nn ns k (m := mm) (by omega)
  have b1 := drawF_lt ns k (m := mm) (by omega)
  generalize drawF ns k mm = m at b0 b1 ⊢
  walk_at "ex"
  refine ⟨by omega, by omega, fun i σ H' => (∃ o1 o2, σ = [some (.ref a), some (.int k), some (.ref b), some (.int fs), some (.ref p), o1, o2]) ∧ Same H H' ∧ ∃ os : List Ord, Ords H' p os ∧ os.length = i ∧ inC cs os,
    ⟨⟨none, none, rfl⟩, sm0, [], ⟨[], ep, .nil⟩, rfl, fun o ho => by simp at ho⟩, fun i σ H' hi hP => ?_, fun σ H' hP => ?_⟩
  · obtain ⟨⟨o1, o2, rfl⟩, sm, os, ⟨ws, hp', hws⟩, hol, hin⟩ := hP
    have hwl := hws.len
    have hi' : (i : Int) < m := by omega
    have sqc' := sm.seq sqc
    refine eg_name nd (by rfl) (.inl rfl) (.inl rfl) ?_
    refine sxs_cons ?_
    walk_at "s"
    walk_at "ex"
    have e0 := Int.emod_nonneg (fs + (i : Int)) (show (vs.length : Int) ≠ 0 by omega)
    have e1 := Int.emod_lt_of_pos (fs + (i : Int)) (show (0 : Int) < (vs.length : Int) by omega)
    obtain ⟨j, ej⟩ := Int.eq_ofNat_of_zero_le e0
    rw [ej] at e1 ⊢
    have hj : j < cs.length := by omega
    have hcj : cs[j]? = some cs[j] := List.getElem?_eq_getElem hj
    have hcm : cs[j] ∈ cs := List.getElem_mem hj
    obtain ⟨cv, gc, t, rfl, ht⟩ := hvs.get' hcj
    generalize cs[j] = cc at hcj hcm ht
    refine i_list sqc' (atI_nat gc) ?_
    walk_at "ex"
    refine i_tup (SqT.of (sm _ _ ht)) (show atI [V.str cc.1, V.str cc.2] 0 = some (V.str cc.1) from rfl) ?_
    refine sxs_one (sx_expr (by rfl) (ev_bm PySem.F.plainAttrs_list PySem.F.slot_list_append PySem.F.type_list_append (by rfl) (by rfl) (by rfl) (by rfl) (by rfl) ?_))
    walk_at "e"
    refine ⟨.inl ⟨rfl, _, SqL.of hp'⟩, ?_⟩
    walk_at "ex"
    refine ⟨a, ns, _, 2, rfl, sm.seq hS, hl, by omega, by omega, by decide, ?_⟩
    walk_at "ex"
    refine ⟨by show 2 ≤ sizeLine; omega, fun tp htp => ?_⟩
    generalize decide (V.int (drawF ns (k + 2 + (i : Int)) 2) = V.int 0) = up at htp ⊢
    have smt : Same H' (upd H' tp (.tup [.str cc.1, .bl up])) := Same.upd htp
    have etp : (upd H' tp (.tup [.str cc.1, .bl up])) tp = some (.tup [.str cc.1, .bl up]) := upd_same
    generalize upd H' tp (.tup [.str cc.1, .bl up]) = H5 at smt etp ⊢
    walk_at "ex"
    have ep5 : H5 p = some (.lst ws) := smt _ _ hp'
    refine mt_by mt_append ⟨p, ws, _, rfl, rfl, ep5, by omega, ?_⟩
    refine ⟨⟨_, _, rfl⟩, fun d o e => ?_, os ++ [(cc.1, up)], ⟨ws ++ [.ref tp], upd_same, All2.app (hws.imp fun u c x => ?_) (.cons ?_ .nil)⟩, by simp [hol], fun o ho => ?_⟩
    · rw [upd_ne (ne_of_none e hp)]
      exact smt _ _ (sm _ _ e)
    · obtain ⟨tq, rfl, hq⟩ := x
      have hne : tq ≠ p := fun e => by subst e; rw [hp'] at hq; cases hq
      exact ⟨tq, rfl, by rw [upd_ne hne]; exact smt _ _ hq⟩
    · have hne : tp ≠ p := fun e => by subst e; rw [ep5] at etp; cases etp
      exact ⟨tp, rfl, by rw [upd_ne hne]; exact etp⟩
    · rcases List.mem_append.mp ho with ho | ho
      · exact hin o ho
      · have : o = (cc.1, up) := by simpa using ho
        subst this
        exact ⟨cc, hcm, rfl⟩
  · obtain ⟨⟨o1, o2, rfl⟩, sm, os, hO, hol, hin⟩ := hP
    refine sxs_one (sx_ret ?_)
    walk_at "ex"
    have hol' : os.length = m.toNat := by simpa using hol
    exact q p os H' sm hp hO (by omega) hin
end
end K60

namespace K60
open PySem L2 PyProof.Rows My Vl Lw
section
variable {P : Program} {w : World} {K : PySem.W.Frag} {mg : Str → Option Value} {base : Heap}
theorem placeN_no : ∀ {cs : List Col} {z : Str} {m : Nat} {c : Col}, m < placeN cs z → cs[m]? = some c → ¬ c.1 = z
  | [], _, _, _, h, _ => by simp [placeN] at h
  | d :: r, z, m, c, h, e => by
    unfold placeN at h
    split at h
    · omega
    · rename_i hd
      cases m with
      | zero => simp at e; subst e; exact hd
      | succ m => exact placeN_no (cs := r) (m := m) (by omega) (by simpa using e)
theorem names_at {cs : List Col} {z : Str} (h : ∃ c ∈ cs, c.1 = z) : (cs.map Prod.fst)[placeN cs z]? = some z := by
  obtain ⟨c, e1, e2⟩ := placeN_get h
  rw [List.getElem?_map, e1, ← e2]
  rfl
theorem names_no {cs : List Col} {z : Str} {m : Nat} {y : Str} (h : m < placeN cs z) (e : (cs.map Prod.fst)[m]? = some y) : ¬ y = z := by
  rw [List.getElem?_map] at e
  cases e2 : cs[m]? with
  | none => rw [e2] at e; cases e
  | some c =>
    rw [e2] at e
    have e3 : c.1 = y := by simpa using e
    rw [← e3]
    exact placeN_no h e2
def spKey2 (K : PySem.W.Frag) : Sp := fun vs H Q _ => ∃ (a b : Addr) (v : V) (cs : List Col) (os : List Ord) (r : Row), vs = [.ref a, .ref b, v] ∧ Cols H a cs ∧ Ords H b os ∧ RowAt H v r ∧ r.2.length = cs.length ∧ cs.length ≤ 1000 ∧ os.length ≤ 1000 ∧ inC cs os ∧
  ∀ p k H', Same H H' → H p = none → H k = none → H' p = some (.tup [.ref k, .int r.1]) → H' k = some (.lst (keyL cs os r.2)) → Q (.ref p) H'
theorem d__law_key (T : Txt K mg) : Def P w K mg base true 1 "_law_key" ["_law_columns_here", "_law_order_here", "_law_one"] (spKey2 K) := by
  refine df__law_key T (fun vs H Q E h => by obtain ⟨a, b, v, cs, os, r, rfl, _⟩ := h; rfl) (fun f cdv A outer s H vs Q E hr h => ?_)
  obtain ⟨a, b, v, cs, os, r, rfl, ⟨vs, ha, hvs⟩, ⟨ws, hb, hws⟩, ⟨t, l, rfl, ht, hv⟩, hxl, hcl, hol, hin, q⟩ := h
  have nd := sc__law_key.nd
  have hsz : sizeLine = 16777216 := sizeLine_eq
  have nd1 : (["_law_column"] : List Str).Nodup := by decide +kernel
  have nd4 : (["_law_name", "_law_up", "_law_names_here", "_law_one"] : List Str).Nodup := by decide +kernel
  have hvl := hvs.len
  have hwl := hws.len
  refine sxs_cons ?_
  walk_at "s"
  refine ev_compL ["_law_column"] (σ' := [none]) (by rfl) (by rfl) (compSc_of (defScope s__law_key) (by rfl) (by rfl) (by decide +kernel)) (by intro _; rfl) ?_
  walk_at "e"
  refine ⟨a, vs, rfl, SqL.of ha, by omega, fun τ => ∃ o1, τ = [o1], fun E2 i u H' => ∃ c, cs[i]? = some c ∧ u = .str c.1, ⟨none, rfl⟩, fun E2 i u H2 H3 ys _ _ p => p, fun fp E2 C s3 H0 i τ x H4 H3 hE2 hi hτ sm4 hys hG => ?_, fun L H1 ys hL hl2 hx2 e1 sm1 => ?_⟩
  · obtain ⟨o1, rfl⟩ := hτ
    obtain ⟨hx3, rfl⟩ := hG
    obtain ⟨c, hc, t, rfl, ht⟩ := hvs.get hx3
    refine eg_name nd1 (by rfl) (.inl rfl) (.inr rfl) ?_
    walk_at "ex"
    refine i_tup (SqT.of (sm4 _ _ ht)) (show atI [V.str c.1, V.str c.2] 0 = some (V.str c.1) from rfl) ?_
    exact ⟨⟨_, rfl⟩, ⟨c, hc, rfl⟩, Same.refl _⟩
  have ey := list_of_pi (ys := cs) (fun c => V.str c.1) (by rw [hl2, hvl]) hx2
  have ey2 : ys = (cs.map Prod.fst).map V.str := by rw [ey, List.map_map]; rfl
  subst ey2
  refine sxs_one (sx_ret ?_)
  refine ev_tup (ea_cons (by rfl) ?_)
  refine ev_compL ["_law_name", "_law_up", "_law_names_here", "_law_one"] (σ' := [none, none, some (.ref L), some (.ref t)]) (by rfl) (by rfl) (compSc_of (defScope s__law_key) (by rfl) (by rfl) (by decide +kernel)) (by intro _; rfl) ?_
  walk_at "e"
  refine ⟨b, ws, rfl, SqL.of (sm1 _ _ hb), by omega, fun τ => ∃ o1 o2, τ = [o1, o2, some (.ref L), some (.ref t)], fun E2 i u H' => ∃ o, os[i]? = some o ∧ u = atN cs r.2 o.1, ⟨none, none, rfl⟩, fun E2 i u H2 H3 ys _ _ p => p, fun fp E2 C s3 H0 i τ x H7 H8 hE2 hi hτ sm7 hys hG => ?_, fun D H7 ys hD hl3 hx3 e7 sm7 => ?_⟩
  · obtain ⟨o1, o2, rfl⟩ := hτ
    obtain ⟨hx3, rfl⟩ := hG
    obtain ⟨o, ho, tp, rfl, htp⟩ := hws.get hx3
    have hio := hin o (List.mem_of_getElem? ho)
    have hlt := placeN_lt hio
    have g1 : r.2[placeN cs o.1]? = some (atN cs r.2 o.1) := by
      have e : r.2[placeN cs o.1]? = some (r.2[placeN cs o.1]'(by omega)) := List.getElem?_eq_getElem _
      unfold atN
      rw [e]
      rfl
    have sm67 := sm1.trans sm7
    have eL7 := sm7 _ _ e1
    refine eg_tup (by rfl) (by rfl) (by rfl) (SqT.of (sm67 _ _ htp)) (by rfl) (egs_cons (by rfl) (eg_name nd4 (by rfl) (.inl rfl) (.inr rfl) (egs_cons (by rfl) (eg_name nd4 (by rfl) (.inl rfl) (.inr rfl) (egs_nil ?_)))))
    walk_at "e"
    walk_at "e"
    walk_at "e"
    walk_at "e"
    refine i_tup (SqT.of (sm67 _ _ ht)) (show atI [V.int r.1, V.ref l] 1 = some (V.ref l) from rfl) ?_
    refine ev_bm PySem.F.plainAttrs_list PySem.F.slot_list_index PySem.F.type_list_index (by rfl) (by rfl) (by rfl) (by rfl) (by rfl) ?_
    walk_at "e"
    refine ⟨.inl ⟨rfl, _, SqL.of eL7⟩, ?_⟩
    walk_at "ex"
    refine m_lindex (SqL.of eL7) (names_at hio) (fun m y h e => names_no h e) ?_
    refine i_list (SqL.of (sm67 _ _ hv)) (atI_nat g1) ?_
    exact ⟨⟨_, _, rfl⟩, ⟨o, ho, rfl⟩, Same.refl _⟩
  have ey := list_of_pi (ys := os) (fun o => atN cs r.2 o.1) (by rw [hl3, hwl]) hx3
  have ey2 : ys = keyL cs os r.2 := ey
  subst ey2
  have sm67 := sm1.trans sm7
  walk_at "ex"
  refine i_tup (SqT.of (sm67 _ _ ht)) (show atI [V.int r.1, V.ref l] 0 = some (V.int r.1) from rfl) ?_
  walk_at "ex"
  refine ⟨by show 2 ≤ sizeLine; omega, fun p hp => ?_⟩
  have s8 : Same H7 (upd H7 p (.tup [.ref D, .int r.1])) := Same.upd hp
  exact q p D _ (sm67.trans s8) (sm67.free hp) (sm1.free hD) upd_same (s8 _ _ e7)
end
end K60

namespace K60
open PySem L2 PyProof.Rows My Vl Lw
section
variable {P : Program} {w : World} {K : PySem.W.Frag} {mg : Str → Option Value} {base : Heap}
def spAhead2 : Sp := fun vs H Q _ => ∃ b p q os xs ys n k, vs = [.ref b, .ref p, .ref q] ∧ Ords H b os ∧ KeyAt H p xs n ∧ KeyAt H q ys k ∧ xs.length = os.length ∧ ys.length = os.length ∧ os.length ≤ 4 ∧ (∀ (i : Nat) x y, xs[i]? = some x → ys[i]? = some y → scalar x = true ∧ scalar y = true ∧ like x y) ∧
  ∀ H', Same H H' → Q (.bl (aheadF os xs ys n k)) H'
theorem d__law_is_ahead (T : Txt K mg) : Def P w K mg base true 1 "_law_is_ahead" ["_law_order_here", "_law_one", "_law_other"] spAhead2 := by
  refine df__law_is_ahead T (fun vs H Q E h => by obtain ⟨b, p, q, os, xs, ys, n, k, rfl, _⟩ := h; rfl) (fun f cdv A outer s H vs Q E hr h => ?_)
  obtain ⟨b, p, q, os, xs, ys, n, k, rfl, ⟨ws, hb, hws⟩, ⟨l, hp, hl⟩, ⟨m, hq, hm⟩, hxl, hyl, hol, hlike, post⟩ := h
  have nd := sc__law_is_ahead.nd
  have n1 := T.n_range
  have n2 := T.n_len
  have hsz : sizeLine = 16777216 := sizeLine_eq
  have hwl := hws.len
  have sqb : SqL K H b ws := SqL.of hb
  refine sxs_cons ?_
  refine sx_forR (by walk_at "po") (by rfl) (by rfl) n1 (by rfl) ?_
  walk_at "ex"
  refine ⟨by omega, by omega, fun i σ H' => (∃ o1 o2 o3 o4, σ = [some (.ref b), some (.ref p), some (.ref q), o1, o2, o3, o4]) ∧ H' = H ∧ ∀ j x y, j < i → xs[j]? = some x → ys[j]? = some y → x = y, ⟨⟨none, none, none, none, rfl⟩, rfl, fun j x y h => by omega⟩, fun i σ H' hi hP => ?_, fun σ H' hP => ?_⟩
  · obtain ⟨⟨o1, o2, o3, o4, rfl⟩, rfl, heq⟩ := hP
    have hi' : i < os.length := by omega
    have ho : os[i]? = some os[i] := List.getElem?_eq_getElem hi'
    have hx : xs[i]? = some (xs[i]'(by omega)) := List.getElem?_eq_getElem _
    have hy : ys[i]? = some (ys[i]'(by omega)) := List.getElem?_eq_getElem _
    generalize xs[i]'(by omega) = x at hx
    generalize ys[i]'(by omega) = y at hy
    obtain ⟨wv, gw, t, rfl, ht⟩ := hws.get' ho
    obtain ⟨sx, sy, hlk⟩ := hlike i x y hx hy
    generalize os[i] = o at ho ht
    refine eg_name nd (by rfl) (.inl rfl) (.inl rfl) ?_
    refine sxs_cons ?_
    walk_at "s"
    walk_at "ex"
    refine i_tup (SqT.of hp) (show atI [V.ref l, V.int n] 0 = some (V.ref l) from rfl) ?_
    walk_at "ex"
    refine i_list (SqL.of hl) (atI_nat hx) ?_
    refine sxs_cons ?_
    walk_at "s"
    walk_at "ex"
    refine i_tup (SqT.of hq) (show atI [V.ref m, V.int k] 0 = some (V.ref m) from rfl) ?_
    walk_at "ex"
    refine i_list (SqL.of hm) (atI_nat hy) ?_
    refine sxs_one (sx_if ?_)
    walk_at "ex"
    refine o_ne (scal_of sx sy) ?_
    walk_at "ex"
    refine ifB (fun h => ?_) (fun h => ?_)
    · have hne : ¬ x = y := by simpa using h
      have hhit := aheadF_hit (n := n) (k := k) hxl hyl ho hx hy heq hne
      have e2 : ∀ c : Bool, c = before x y → decide (V.bl c = V.bl o.2) = aheadF os xs ys n k := fun c ec => by
        rw [hhit, ec]
        congr 1
        exact propext ⟨fun z => by injection z, fun z => by rw [z]⟩
      have fin : ∀ (c : Bool), c = before x y → Q (.bl (decide (V.bl c = V.bl o.2))) H' := fun c ec => by rw [e2 c ec]; exact post H' (Same.refl _)
      cases x with
      | non =>
        cases y with
        | non => exact absurd rfl hne
        | int j =>
          walk_at "go"
          refine i_list sqb (atI_nat gw) ?_
          walk_at "go"
          refine i_tup (SqT.of ht) (show atI [V.str o.1, V.bl o.2] 1 = some (V.bl o.2) from rfl) ?_
          walk_at "go"
          exact fin _ rfl
        | str z =>
          walk_at "go"
          refine i_list sqb (atI_nat gw) ?_
          walk_at "go"
          refine i_tup (SqT.of ht) (show atI [V.str o.1, V.bl o.2] 1 = some (V.bl o.2) from rfl) ?_
          walk_at "go"
          exact fin _ rfl
        | _ => exact absurd sy Bool.false_ne_true
      | int i1 =>
        cases y with
        | non =>
          walk_at "go"
          refine i_list sqb (atI_nat gw) ?_
          walk_at "go"
          refine i_tup (SqT.of ht) (show atI [V.str o.1, V.bl o.2] 1 = some (V.bl o.2) from rfl) ?_
          walk_at "go"
          exact fin _ rfl
        | int j =>
          walk_at "go"
          refine i_list sqb (atI_nat gw) ?_
          walk_at "go"
          refine i_tup (SqT.of ht) (show atI [V.str o.1, V.bl o.2] 1 = some (V.bl o.2) from rfl) ?_
          walk_at "go"
          exact fin _ rfl
        | str z => rcases hlk with z | z | ⟨_, _, _, z⟩ | ⟨_, _, z, _⟩ <;> cases z
        | _ => exact absurd sy Bool.false_ne_true
      | str z1 =>
        cases y with
        | non =>
          walk_at "go"
          refine i_list sqb (atI_nat gw) ?_
          walk_at "go"
          refine i_tup (SqT.of ht) (show atI [V.str o.1, V.bl o.2] 1 = some (V.bl o.2) from rfl) ?_
          walk_at "go"
          exact fin _ rfl
        | int j => rcases hlk with z | z | ⟨_, _, z, _⟩ | ⟨_, _, _, z⟩ <;> cases z
        | str z =>
          walk_at "go"
          refine i_list sqb (atI_nat gw) ?_
          walk_at "go"
          refine i_tup (SqT.of ht) (show atI [V.str o.1, V.bl o.2] 1 = some (V.bl o.2) from rfl) ?_
          walk_at "go"
          exact fin _ rfl
        | _ => exact absurd sy Bool.false_ne_true
      | _ => exact absurd sx Bool.false_ne_true
    · have he : x = y := by simpa using h
      refine sxs_nil ⟨⟨_, _, _, _, rfl⟩, rfl, fun j x' y' hj e1 e2 => ?_⟩
      by_cases e : j = i
      · subst e
        rw [hx] at e1; rw [hy] at e2
        cases e1; cases e2
        exact he
      · exact heq j x' y' (by omega) e1 e2
  · obtain ⟨⟨o1, o2, o3, o4, rfl⟩, rfl, heq⟩ := hP
    refine sxs_one (sx_ret ?_)
    walk_at "ex"
    refine i_tup (SqT.of hp) (show atI [V.ref l, V.int n] 1 = some (V.int n) from rfl) ?_
    walk_at "ex"
    refine i_tup (SqT.of hq) (show atI [V.ref m, V.int k] 1 = some (V.int k) from rfl) ?_
    walk_at "ex"
    rw [← aheadF_end (n := n) (k := k) hxl hyl fun j x y hj e1 e2 => heq j x y (by simp; omega) e1 e2]
    exact post _ (Same.refl _)
end
end K60

namespace K60
open PySem L2 PyProof.Rows My Vl Lw
section
variable {P : Program} {w : World} {K : PySem.W.Frag} {mg : Str → Option Value} {base : Heap}
/-! the law's own line: rows laid in one by one -/
def spLets6 (K : PySem.W.Frag) : Sp := fun vs H Q _ => ∃ (p : Addr) (v : V), vs = [.ref p, v] ∧ H p = some (.tup [.str "all"]) ∧ Q (.bl true) H
theorem d__law_lets (T : Txt K mg) : Def P w K mg base true 1 "_law_lets" ["_law_sieve", "_law_values_here"] (spLets6 K) := by
  refine df__law_lets T (fun vs H Q E h => by obtain ⟨p, v, rfl, _⟩ := h; rfl) (fun f cdv A outer s H vs Q E hr h => ?_)
  obtain ⟨p, v, rfl, hp, q⟩ := h
  refine sxs_cons (sx_if ?_)
  walk_at "ex"
  refine i_tup (SqT.of hp) (show atI [V.str (Str.ofString "all")] 0 = some (V.str (Str.ofString "all")) from rfl) ?_
  walk_at "ex"
  refine ifD (fun _ => ?_) (fun h => absurd rfl h)
  refine sxs_one (sx_ret ?_)
  walk_at "ex"
  exact q
/-- a dict of rows -/
def RowsD (H : Hp) (kvs : List (Key × V)) (rs : List Row) : Prop := All2 (fun (kv : Key × V) (r : Row) => kv.1 = Sum.inl r.1 ∧ ∃ l, kv.2 = .ref l ∧ H l = some (.lst r.2)) kvs rs
theorem RowsD.same {H H' : Hp} {kvs : List (Key × V)} {rs : List Row} (h : RowsD H kvs rs) (s : Same H H') : RowsD H' kvs rs := h.imp fun a b x => by
  obtain ⟨e, l, e2, e3⟩ := x
  exact ⟨e, l, e2, s _ _ e3⟩
theorem RowsD.keys {H : Hp} : ∀ {kvs : List (Key × V)} {rs : List Row}, RowsD H kvs rs → kvs.map (·.1) = (rs.map Prod.fst).map Sum.inl
  | _, _, .nil => rfl
  | _, _, .cons h t => by
    rw [List.map_cons, List.map_cons, List.map_cons, h.1, RowsD.keys t]
theorem RowsD.get {H : Hp} : ∀ {kvs : List (Key × V)} {rs : List Row}, RowsD H kvs rs → (rs.map Prod.fst).Nodup → ∀ {i : Nat} {r : Row}, rs[i]? = some r → ∃ l, valV kvs (Sum.inl r.1) = some (.ref l) ∧ H l = some (.lst r.2)
  | _, _, .nil, _, i, r, h => by simp at h
  | kv :: kvs, r0 :: rs, .cons h t, hn, i, r, e => by
    obtain ⟨h1, l, h2, h3⟩ := h
    have hn' := List.nodup_cons.mp hn
    cases i with
    | zero =>
      have : r0 = r := by simpa using e
      subst this
      exact ⟨l, by rw [valV_pos h1, h2], h3⟩
    | succ i =>
      have e' : rs[i]? = some r := by simpa using e
      obtain ⟨l', g1, g2⟩ := RowsD.get t hn'.2 e'
      refine ⟨l', ?_, g2⟩
      rw [valV_neg (fun z => hn'.1 ?_)]
      · exact g1
      · rw [h1] at z
        have e2 : r0.1 = r.1 := by injection z
        rw [e2]
        exact List.mem_map.mpr ⟨r, List.mem_of_getElem? e', rfl⟩
/-- a row of the line: its tuple is new, its list was there -/
def RowIn (H H' : Hp) (v : V) (r : Row) : Prop := ∃ t l, v = .ref t ∧ H' t = some (.tup [.int r.1, .ref l]) ∧ H l = some (.lst r.2)
theorem RowIn.row {H H' : Hp} {v : V} {r : Row} (h : RowIn H H' v r) (s : Same H H') : RowAt H' v r := by
  obtain ⟨t, l, e, e1, e2⟩ := h
  exact ⟨t, l, e, e1, s _ _ e2⟩
theorem RowIn.same {H H' H2 : Hp} {v : V} {r : Row} (h : RowIn H H' v r) (s : Same H' H2) : RowIn H H2 v r := by
  obtain ⟨t, l, e, e1, e2⟩ := h
  exact ⟨t, l, e, s _ _ e1, e2⟩
theorem fitK.len {cs : List Col} {r : Row} (h : fitK cs r) : r.2.length = cs.length := (All2.len h).symm
theorem all2_ins {α β : Type} {R : α → β → Prop} {l : List α} {m : List β} {a : α} {b : β} {k : Nat} (h : All2 R l m) (r : R a b) : All2 R (insAt l k a) (insAt m k b) := (h.take k).app (.cons r (h.drop k))
def spLine6 (K : PySem.W.Frag) : Sp := fun vs H Q _ => ∃ (c b sv d : Addr) (o : Obj) (kvs : List (Key × V)) (cs : List Col) (os : List Ord) (rs : List Row), vs = [.ref c, .ref b, .ref sv, .ref d] ∧ Cols H c cs ∧ okCols cs = true ∧ Ords H b os ∧ os.length ≤ 4 ∧ inC cs os ∧ H sv = some (.tup [.str "all"]) ∧ H d = some (.frz o (.dK kvs)) ∧ RowsD H kvs rs ∧ (rs.map Prod.fst).Nodup ∧ rs.length ≤ 8 ∧ (∀ r ∈ rs, fitK cs r) ∧
  ∀ p ws ls H', Same H H' → H p = none → H' p = some (.lst ws) → All2 (RowIn H H') ws ls → Line cs os ls → (∀ r ∈ ls, r ∈ rs) → ls.length = rs.length → Q (.ref p) H'
theorem d__law_line (T : Txt K mg) : Def P w K mg base true 2 "_law_line" ["_law_columns_here", "_law_order_here", "_law_sieve", "_law_rows"] (spLine6 K) := by
  refine df__law_line T (fun vs H Q E h => by obtain ⟨c, b, sv, d, o, kvs, cs, os, rs, rfl, _⟩ := h; rfl) (fun f cdv A outer s H vs Q E hr h => ?_)
  obtain ⟨c, b, sv, d, o, kvs, cs, os, rs, rfl, hC, hok, hO, hol, hin, hsv, hd, hD, hnd, hrl, hfit, q⟩ := h
  have nd := sc__law_line.nd
  have hu1 := Nat.lt_of_le_of_lt (Nat.add_le_add_left (show 1 ≤ 64 by decide) _) hr.units
  have hsz : sizeLine = 16777216 := sizeLine_eq
  obtain ⟨c1, c6⟩ := okC_len hok
  have D1 : Def P w K mg base true 1 "_law_key" ["_law_columns_here", "_law_order_here", "_law_one"] (spKey2 K) := d__law_key T
  have D2 : Def P w K mg base true 1 "_law_is_ahead" ["_law_order_here", "_law_one", "_law_other"] spAhead2 := d__law_is_ahead T
  have D3 : Def P w K mg base true 1 "_law_lets" ["_law_sieve", "_law_values_here"] (spLets6 K) := d__law_lets T
  refine sxs_cons ?_
  walk_at "s"
  walk_at "ex"
  refine ⟨by show 0 ≤ sizeLine; omega, fun p hp => ?_⟩
  have sm0 : Same H (upd H p (.lst [])) := Same.upd hp
  have ep : (upd H p (.lst [])) p = some (.lst []) := upd_same
  generalize upd H p (.lst []) = H0 at sm0 ep ⊢
  refine sxs_cons (sx_forDF (by walk_at "po") (by rfl) (by intro _; rfl) ?_)
  walk_at "ex"
  refine ⟨d, o, kvs, rs.map Prod.fst, rfl, sm0 _ _ hd, hD.keys, fun i σ H' => (∃ o5 o6 o7 o8, σ = [some (.ref c), some (.ref b), some (.ref sv), some (.ref d), some (.ref p), o5, o6, o7, o8]) ∧ Same H H' ∧ ∃ ws ls, H' p = some (.lst ws) ∧ All2 (RowIn H H') ws ls ∧ Line cs os ls ∧ (∀ r ∈ ls, r ∈ rs.take i) ∧ ls.length = i, ⟨⟨none, none, none, none, rfl⟩, sm0, [], [], ep, .nil, .nil, by simp, rfl⟩, fun i σ' H' hP => hP.2.1 _ _ hd, fun i k σ' H' hk hP => ?_, fun σ' H' hP => ?_⟩
  · obtain ⟨⟨o5, o6, o7, o8, rfl⟩, sm, ws, ls, hp', hws, hL, hsub, hll⟩ := hP
    rw [List.getElem?_map] at hk
    obtain ⟨r, hri, rfl⟩ := Option.map_eq_some_iff.mp hk
    have hrm := List.mem_of_getElem? hri
    have hrf := hfit r hrm
    have hi := (List.getElem?_eq_some_iff.mp hri).1
    have hwl := hws.len
    obtain ⟨l, hval, hll0⟩ := hD.get hnd hri
    have dg : ∀ {H2 : Hp}, Same H H2 → DGet H2 d (.int r.1) (some (.ref l)) := fun s2 => .inl ⟨kvs, Sum.inl r.1, .inr ⟨o, s2 _ _ hd⟩, rfl, hval.symm⟩
    refine eg_name nd (by rfl) (.inl rfl) (.inl rfl) ?_
    refine sxs_one (sx_if ?_)
    walk_at "ex"
    refine i_dict hu1 (dg sm) ?_
    walk_at "ex"
    refine ⟨sv, _, rfl, sm _ _ hsv, ?_⟩
    walk_at "ex"
    refine sxs_cons ?_
    walk_at "s"
    walk_at "ex"
    refine i_dict hu1 (dg sm) ?_
    walk_at "ex"
    refine ⟨by show 2 ≤ sizeLine; omega, fun t ht => ?_⟩
    have s1 : Same H' (upd H' t (.tup [.int r.1, .ref l])) := Same.upd ht
    have e1 : (upd H' t (.tup [.int r.1, .ref l])) t = some (.tup [.int r.1, .ref l]) := upd_same
    generalize upd H' t (.tup [.int r.1, .ref l]) = H1 at s1 e1 ⊢
    have sm1 := sm.trans s1
    walk_at "ex"
    refine ⟨c, b, _, cs, os, r, rfl, hC.same sm1, hO.same sm1, ⟨t, l, rfl, e1, sm1 _ _ hll0⟩, hrf.len, by omega, by omega, hin, fun kp kl H2 s2 hkp0 hkl0 hkp hkl => ?_⟩
    have sm2 := sm1.trans s2
    refine sxs_cons ?_
    walk_at "s"
    walk_at "ex"
    have hp2 := s2 _ _ (s1 _ _ hp')
    have hws2 : All2 (RowIn H H2) ws ls := hws.imp fun u q x => (x.same s1).same s2
    have kr := key_ok hrf hin
    have hfl : ∀ q ∈ ls, q ∈ rs := fun q hq => List.mem_of_mem_take (hsub q hq)
    refine sxs_cons (sx_forL (by walk_at "po") (by rfl) (by intro _; rfl) ?_)
    walk_at "ex"
    refine ⟨p, ws, rfl, SqL.of hp2, fun j σ H' => (∃ o8, σ = [some (.ref c), some (.ref b), some (.ref sv), some (.ref d), some (.ref p), some (.int r.1), some (.ref kp), some (.int ((ls.take j).countP fun q => rowLt cs os q r : Nat)), o8]) ∧ Same H2 H', ⟨⟨_, rfl⟩, Same.refl _⟩, fun j σ' H' _ hP => SqL.of (hP.2 _ _ hp2), fun j x σ' H3 hx hP => ?_, fun σ' H3 hP => ?_⟩
    · obtain ⟨⟨o8', rfl⟩, s3⟩ := hP
      obtain ⟨q', hq, hrow⟩ := hws2.get hx
      have hqm := hfl q' (List.mem_of_getElem? hq)
      have hqf := hfit q' hqm
      have sm3 := sm2.trans s3
      refine eg_name nd (by rfl) (.inl rfl) (.inl rfl) ?_
      refine sxs_one (sx_if ?_)
      walk_at "ex"
      refine ⟨c, b, x, cs, os, q', rfl, hC.same sm3, hO.same sm3, (hrow.row sm2).same s3, hqf.len, by omega, by omega, hin, fun kp2 kl2 H4 s4 _ _ hkp2 hkl2 => ?_⟩
      have sm4 := sm3.trans s4
      have kq := key_ok hqf hin
      obtain ⟨x1, x2, x3⟩ := kq.like kr
      walk_at "ex"
      refine ⟨b, kp2, kp, os, _, _, q'.1, r.1, rfl, hO.same sm4, ⟨kl2, hkp2, hkl2⟩, ⟨kl, s4 _ _ (s3 _ _ hkp), s4 _ _ (s3 _ _ hkl)⟩, x1, x2, hol, x3, fun H5 s5 => ?_⟩
      have s35 := (s3.trans s4).trans s5
      have htk : (ls.take (j + 1)).countP (fun q => rowLt cs os q r) = (ls.take j).countP (fun q => rowLt cs os q r) + (if rowLt cs os q' r = true then 1 else 0) := by
        rw [List.take_add_one, hq, List.countP_append]
        congr 1
        show List.countP _ [q'] = _
        rw [List.countP_cons, List.countP_nil, Nat.zero_add]
      rw [show aheadF os (keyL cs os q'.2) (keyL cs os r.2) q'.1 r.1 = rowLt cs os q' r from rfl]
      cases hrl2 : rowLt cs os q' r with
      | true =>
        rw [hrl2, if_pos rfl] at htk
        walk_at "ex"
        refine sxs_one ?_
        walk_at "s"
        walk_at "ex"
        refine ⟨⟨some x, ?_⟩, s35⟩
        rw [htk]
        rfl
      | false =>
        rw [hrl2, if_neg Bool.false_ne_true, Nat.add_zero] at htk
        walk_at "ex"
        refine sxs_nil ⟨⟨some x, ?_⟩, s35⟩
        rw [htk]
        rfl
    · obtain ⟨⟨o8', rfl⟩, s3⟩ := hP
      rw [hwl, List.take_length]
      have sm3 := sm2.trans s3
      have hp3 := s3 _ _ hp2
      have hcl := List.countP_le_length (p := fun q => rowLt cs os q r) (l := ls)
      refine sxs_one (sx_expr (by rfl) (ev_bm PySem.F.plainAttrs_list PySem.F.slot_list_insert PySem.F.type_list_insert (by rfl) (by rfl) (by rfl) (by rfl) (by rfl) ?_))
      walk_at "e"
      refine ⟨.inl ⟨rfl, _, SqL.of hp3⟩, ?_⟩
      walk_at "ex"
      refine i_dict hu1 (dg sm3) ?_
      walk_at "ex"
      refine ⟨by show 2 ≤ sizeLine; omega, fun t2 ht2 => ?_⟩
      have s4 : Same H3 (upd H3 t2 (.tup [.int r.1, .ref l])) := Same.upd ht2
      have e4 : (upd H3 t2 (.tup [.int r.1, .ref l])) t2 = some (.tup [.int r.1, .ref l]) := upd_same
      generalize upd H3 t2 (.tup [.int r.1, .ref l]) = H4 at s4 e4 ⊢
      have hp4 := s4 _ _ hp3
      walk_at "ex"
      refine mt_by mt_insert ⟨p, ws, ls.countP fun q => rowLt cs os q r, _, rfl, rfl, hp4, by omega, by omega, ?_⟩
      refine ⟨⟨_, _, _, _, rfl⟩, fun e u he => ?_, insAt ws (ls.countP fun q => rowLt cs os q r) (.ref t2), insAt ls (ls.countP fun q => rowLt cs os q r) r, upd_same, all2_ins (hws2.imp fun u q x => ?_) ?_, line_ins hin (fun q hq => hfit q (hfl q hq)) hrf hL (fun q hq e => ?_), fun q hq => ?_, ?_⟩
      · rw [upd_ne (ne_of_none he hp)]
        exact s4 _ _ (sm3 _ _ he)
      · obtain ⟨tq, lq, rfl, hq1, hq2⟩ := x
        have nt : tq ≠ p := fun e => by rw [e, hp2] at hq1; cases hq1
        exact ⟨tq, lq, rfl, by rw [upd_ne nt]; exact s4 _ _ (s3 _ _ hq1), hq2⟩
      · have nt : t2 ≠ p := fun e => by rw [e, hp4] at e4; cases e4
        exact ⟨t2, l, rfl, by rw [upd_ne nt]; exact e4, hll0⟩
      · obtain ⟨j, hj, ej⟩ := List.getElem_of_mem (hsub q hq)
        have hj' : j < i := by rw [List.length_take] at hj; omega
        have e2 : rs[j]? = some q := by
          rw [List.getElem_take] at ej
          rw [← ej]
          exact List.getElem?_eq_getElem _
        have e3 : (rs.map Prod.fst)[j]? = (rs.map Prod.fst)[i]? := by rw [List.getElem?_map, List.getElem?_map, e2, hri]; exact congrArg some e
        have hjl : j < (rs.map Prod.fst).length := by rw [List.length_map]; omega
        have hil : i < (rs.map Prod.fst).length := by rw [List.length_map]; omega
        rw [List.getElem?_eq_getElem hjl, List.getElem?_eq_getElem hil] at e3
        have := (List.getElem_inj hnd).mp (Option.some.inj e3)
        omega
      · have : rs.take (i + 1) = rs.take i ++ [r] := by rw [List.take_add_one, hri]; rfl
        rw [this]
        unfold insAt at hq
        rcases List.mem_append.mp hq with hq | hq
        · exact List.mem_append_left _ (hsub q (List.mem_of_mem_take hq))
        · rcases List.mem_cons.mp hq with hq | hq
          · rw [hq]; simp
          · exact List.mem_append_left _ (hsub q (List.mem_of_mem_drop hq))
      · unfold insAt
        rw [List.length_append, List.length_cons, List.length_take, List.length_drop]
        omega
  · obtain ⟨⟨o5, o6, o7, o8, rfl⟩, sm, ws, ls, hp', hws, hL, hsub, hll⟩ := hP
    rw [List.length_map] at hsub hll
    refine sxs_one (sx_ret ?_)
    walk_at "ex"
    exact q p ws ls H' sm hp hp' hws hL (fun r hr => List.mem_of_mem_take (hsub r hr)) hll
end
end K60

namespace K60
open PySem L2 PyProof.Rows My Vl Lw
section
variable {P : Program} {w : World} {K : PySem.W.Frag} {mg : Str → Option Value} {base : Heap}
/-! cuts and their places -/
def sideS (b : Bool) : Str := if b = true then Str.ofString "ahead" else Str.ofString "behind"
def CtAt (H : Hp) (v : V) : Ct → Prop
  | .start => ∃ t, v = .ref t ∧ H t = some (.tup [.str "start"])
  | .fin => ∃ t, v = .ref t ∧ H t = some (.tup [.str "end"])
  | .at_ sd xs n => ∃ t k, v = .ref t ∧ H t = some (.tup [.str (sideS sd), .ref k]) ∧ KeyAt H k xs n
theorem CtAt.same {H H' : Hp} {v : V} {c : Ct} (h : CtAt H v c) (s : Same H H') : CtAt H' v c := by
  cases c with
  | start => obtain ⟨t, e, h⟩ := h; exact ⟨t, e, s _ _ h⟩
  | fin => obtain ⟨t, e, h⟩ := h; exact ⟨t, e, s _ _ h⟩
  | at_ sd xs n => obtain ⟨t, k, e, h, g⟩ := h; exact ⟨t, k, e, s _ _ h, g.same s⟩
def spLies : Sp := fun vs H Q _ => ∃ (b p : Addr) (v : V) (os : List Ord) (cs : List Col) (sd : Bool) (xs ys : List V) (n k : Int), vs = [.ref b, .ref p, v] ∧ Ords H b os ∧ KeyAt H p xs n ∧ CtAt H v (.at_ sd ys k) ∧ KeyOk cs os xs ∧ KeyOk cs os ys ∧ ∀ H', Same H H' → Q (.bl (laF os (.at_ sd ys k) xs n)) H'
theorem d_lies_ahead (T : Txt K mg) : Def P w K mg base true 3 "lies_ahead" ["order", "key", "cut"] spLies := by
  refine df_lies_ahead T (fun vs H Q E h => by obtain ⟨b, p, v, os, cs, sd, xs, ys, n, k, rfl, _⟩ := h; rfl) (fun f cdv A outer s H vs Q E hr h => ?_)
  obtain ⟨b, p, v, os, cs, sd, xs, ys, n, k, rfl, hO, hp, ⟨t, kk, rfl, ht, hk⟩, hx, hy, q⟩ := h
  have g1 := T.g_AHEAD
  have D1 : Def P w K mg base true 2 "key_ahead" ["order", "one", "other"] spAhead := d_key_ahead T
  cases sd with
  | true =>
    have ht' : H t = some (.tup [.str (Str.ofString "ahead"), .ref kk]) := ht
    obtain ⟨x1, x2, x3⟩ := hx.like hy
    refine sxs_cons (sx_if ?_)
    walk_at "ex"
    refine i_tup (SqT.of ht') (show atI [V.str (Str.ofString "ahead"), .ref kk] 0 = some (V.str (Str.ofString "ahead")) from rfl) ?_
    walk_at "ex"
    refine ifD (fun _ => ?_) (fun h => absurd rfl h)
    refine sxs_one (sx_ret ?_)
    walk_at "ex"
    refine i_tup (SqT.of ht') (show atI [V.str (Str.ofString "ahead"), .ref kk] 1 = some (V.ref kk) from rfl) ?_
    walk_at "ex"
    exact ⟨b, p, kk, os, xs, ys, n, k, rfl, hO, hp, hk, x1, x2, x3, fun H' s' => q H' s'⟩
  | false =>
    have ht' : H t = some (.tup [.str (Str.ofString "behind"), .ref kk]) := ht
    obtain ⟨x1, x2, x3⟩ := hy.like hx
    refine sxs_cons (sx_if ?_)
    walk_at "ex"
    refine i_tup (SqT.of ht') (show atI [V.str (Str.ofString "behind"), .ref kk] 0 = some (V.str (Str.ofString "behind")) from rfl) ?_
    walk_at "ex"
    refine ifD (fun h => absurd h (by decide +kernel)) (fun _ => ?_)
    refine sxs_nil (sxs_one (sx_ret ?_))
    walk_at "ex"
    refine i_tup (SqT.of ht') (show atI [V.str (Str.ofString "behind"), .ref kk] 1 = some (V.ref kk) from rfl) ?_
    walk_at "ex"
    refine ⟨b, kk, p, os, ys, xs, k, n, rfl, hO, hk, hp, x1, x2, x3, fun H' s' => ?_⟩
    walk_at "ex"
    exact q H' s'
def placeC (cs : List Col) (os : List Ord) (c : Ct) (rs : List Row) : Nat := match c with
  | .start => 0
  | .fin => rs.length
  | .at_ sd xs n => rs.countP (laR cs os (.at_ sd xs n))
theorem placeC_le {cs : List Col} {os : List Ord} {c : Ct} {rs : List Row} : placeC cs os c rs ≤ rs.length := by
  cases c with
  | start => exact Nat.zero_le _
  | fin => exact Nat.le_refl _
  | at_ sd xs n => exact List.countP_le_length
/-- a line to be asked -/
structure LineOk (cs : List Col) (os : List Ord) (rs : List Row) : Prop where
  cols : 1 ≤ cs.length ∧ cs.length ≤ 6
  ords : os.length ≤ 4
  inc : inC cs os
  fit : ∀ r ∈ rs, fitK cs r
  line : Line cs os rs
  few : rs.length ≤ 1000
def spCutPlace : Sp := fun vs H Q _ => ∃ (a b p : Addr) (v : V) (cs : List Col) (os : List Ord) (rs : List Row) (c : Ct), vs = [.ref a, .ref b, .ref p, v] ∧ Cols H a cs ∧ Ords H b os ∧ Rws H p rs ∧ CtAt H v c ∧ LineOk cs os rs ∧ CtOk cs os c ∧ ∀ H', Same H H' → Q (.int (placeC cs os c rs : Nat)) H'
theorem d_cut_place (T : Txt K mg) : Def P w K mg base true 4 "cut_place" ["columns", "order", "line", "cut"] spCutPlace := by
  refine df_cut_place T (fun vs H Q E h => by obtain ⟨a, b, p, v, cs, os, rs, c, rfl, _⟩ := h; rfl) (fun f cdv A outer s H vs Q E hr h => ?_)
  obtain ⟨a, b, p, v, cs, os, rs, c, rfl, hC, hO, ⟨ws, hp, hws⟩, hc, hL, hck, q⟩ := h
  have nd := sc_cut_place.nd
  have g1 := T.g_START
  have g2 := T.g_END
  have n1 := T.n_len
  have hsz : sizeLine = 16777216 := sizeLine_eq
  have D1 : Def P w K mg base true 2 "key_of" ["columns", "order", "row", "values"] spKey := d_key_of T
  have D2 : Def P w K mg base true 3 "lies_ahead" ["order", "key", "cut"] spLies := d_lies_ahead T
  have hwl := hws.len
  have sqp : SqL K H p ws := SqL.of hp
  obtain ⟨c1, c6⟩ := hL.cols
  have o4 := hL.ords
  have few := hL.few
  cases c with
  | start =>
    obtain ⟨t, rfl, ht⟩ := hc
    refine sxs_cons (sx_if ?_)
    walk_at "ex"
    refine i_tup (SqT.of ht) (show atI [V.str (Str.ofString "start")] 0 = some (V.str (Str.ofString "start")) from rfl) ?_
    walk_at "ex"
    refine ifD (fun _ => ?_) (fun h => absurd rfl h)
    refine sxs_one (sx_ret ?_)
    walk_at "ex"
    exact q H (Same.refl _)
  | fin =>
    obtain ⟨t, rfl, ht⟩ := hc
    refine sxs_cons (sx_if ?_)
    walk_at "ex"
    refine i_tup (SqT.of ht) (show atI [V.str (Str.ofString "end")] 0 = some (V.str (Str.ofString "end")) from rfl) ?_
    walk_at "ex"
    refine ifD (fun h => absurd h (by decide +kernel)) (fun _ => ?_)
    refine sxs_nil (sxs_cons (sx_if ?_))
    walk_at "ex"
    refine i_tup (SqT.of ht) (show atI [V.str (Str.ofString "end")] 0 = some (V.str (Str.ofString "end")) from rfl) ?_
    walk_at "ex"
    refine ifD (fun _ => ?_) (fun h => absurd rfl h)
    refine sxs_one (sx_ret ?_)
    walk_at "ex"
    rw [hwl]
    exact q H (Same.refl _)
  | at_ sd xs n =>
    have hcA := hc
    obtain ⟨t, k, rfl, ht, hk⟩ := hc
    obtain ⟨p1, p2⟩ := pre_count (line_la hL.inc hck hL.fit hL.line)
    have hNl : rs.countP (laR cs os (.at_ sd xs n)) ≤ rs.length := List.countP_le_length
    have qN : ∀ H', Same H H' → Q (.int (rs.countP (laR cs os (.at_ sd xs n)) : Nat)) H' := q
    generalize hN : rs.countP (laR cs os (.at_ sd xs n)) = N at p1 p2 hNl qN
    have hs1 : sideS sd ≠ Str.ofString "start" ∧ sideS sd ≠ Str.ofString "end" := by cases sd <;> decide +kernel
    refine sxs_cons (sx_if ?_)
    walk_at "ex"
    refine i_tup (SqT.of ht) (show atI [V.str (sideS sd), .ref k] 0 = some (V.str (sideS sd)) from rfl) ?_
    walk_at "ex"
    refine ifD (fun h => absurd (V.str.inj h) hs1.1) (fun _ => ?_)
    refine sxs_nil (sxs_cons (sx_if ?_))
    walk_at "ex"
    refine i_tup (SqT.of ht) (show atI [V.str (sideS sd), .ref k] 0 = some (V.str (sideS sd)) from rfl) ?_
    walk_at "ex"
    refine ifD (fun h => absurd (V.str.inj h) hs1.2) (fun _ => ?_)
    refine sxs_nil (sxs_cons ?_)
    walk_at "s"
    walk_at "ex"
    refine sxs_cons ?_
    walk_at "s"
    walk_at "ex"
    rw [hwl]
    refine sxs_cons ?_
    refine sx_while (by walk_at "po") (fun m σ H' => ∃ (lo hi : Nat) (o6 o7 o8 : Option V), σ = [some (.ref a), some (.ref b), some (.ref p), some (.ref t), some (.int lo), some (.int hi), o6, o7, o8] ∧ lo ≤ N ∧ N ≤ hi ∧ hi ≤ rs.length ∧ m = hi - lo ∧ Same H H') rs.length ⟨0, rs.length, none, none, none, rfl, by omega, hNl, by omega, by omega, Same.refl _⟩ (fun m σ H' hW => ?_)
    obtain ⟨lo, hi, o6, o7, o8, rfl, h1, h2, h3, rfl, sm⟩ := hW
    walk_at "ex"
    refine ifD (fun hlt => ?_) (fun hge => ?_)
    rotate_left
    · have e : N = lo := by omega
      refine sxs_one (sx_ret ?_)
      walk_at "ex"
      rw [← e]
      exact qN H' sm
    have hlt' : lo < hi := by omega
    refine ⟨fun σ H' => ∃ m', m' < hi - lo ∧ ∃ (lo hi : Nat) (o6 o7 o8 : Option V), σ = [some (.ref a), some (.ref b), some (.ref p), some (.ref t), some (.int lo), some (.int hi), o6, o7, o8] ∧ lo ≤ N ∧ N ≤ hi ∧ hi ≤ rs.length ∧ m' = hi - lo ∧ Same H H', fun σ' H' h => h, ?_⟩
    refine sxs_cons ?_
    walk_at "s"
    walk_at "ex"
    have em : ((lo : Int) + (hi : Int)) / 2 = (((lo + hi) / 2 : Nat) : Int) := by omega
    refine o_fdiv ⟨by decide, by decide⟩ ?_
    rw [em]
    have hm1 : lo ≤ (lo + hi) / 2 := by omega
    have hm2 : (lo + hi) / 2 < hi := by omega
    generalize (lo + hi) / 2 = mi at hm1 hm2 ⊢
    have hr : rs[mi]? = some (rs[mi]'(by omega)) := List.getElem?_eq_getElem _
    generalize hrr : rs[mi]'(by omega) = r at hr
    obtain ⟨wv, gw, tt, l, rfl, htt, hl⟩ := hws.get' hr
    have hrf := hL.fit r (List.mem_of_getElem? hr)
    have kr := key_ok hrf hL.inc
    refine sxs_cons (sx_setT (by rfl) (by rfl) ?_)
    walk_at "ex"
    refine i_list (sm.seq sqp) (atI_nat gw) ?_
    refine eg_tup (by rfl) (by rfl) (by rfl) (SqT.of (sm _ _ htt)) (by rfl) (egs_cons (by rfl) (eg_name nd (by rfl) (.inl rfl) (.inl rfl) (egs_cons (by rfl) (eg_name nd (by rfl) (.inl rfl) (.inl rfl) (egs_nil ?_)))))
    refine sxs_one (sx_if ?_)
    walk_at "ex"
    refine ⟨a, b, r.1, l, cs, os, r.2, rfl, hC.same sm, hO.same sm, sm _ _ hl, (All2.len hrf).symm, by omega, by omega, hL.inc, fun kp kl H2 s2 _ _ hkl hkp => ?_⟩
    have sm2 := sm.trans s2
    walk_at "ex"
    refine ⟨b, kp, .ref t, os, cs, sd, _, xs, r.1, n, rfl, hO.same sm2, ⟨kl, hkp, hkl⟩, hcA.same sm2, kr, hck, fun H3 s3 => ?_⟩
    have sm3 := sm2.trans s3
    rw [show laF os (.at_ sd xs n) (keyL cs os r.2) r.1 = laR cs os (.at_ sd xs n) r from rfl]
    cases hla : laR cs os (.at_ sd xs n) r with
    | true =>
      have hmN : mi < N := by
        by_cases h : mi < N
        · exact h
        · have : r ∈ rs.drop N := by
            refine List.mem_of_getElem? (i := mi - N) ?_
            rw [List.getElem?_drop, show N + (mi - N) = mi by omega, hr]
          rw [p2 r this] at hla
          cases hla
      walk_at "ex"
      refine sxs_one ?_
      walk_at "s"
      walk_at "ex"
      exact ⟨hi - (mi + 1), by omega, mi + 1, hi, _, _, _, rfl, by omega, h2, h3, rfl, sm3⟩
    | false =>
      have hmN : N ≤ mi := by
        by_cases h : mi < N
        · have : r ∈ rs.take N := by
            refine List.mem_of_getElem? (i := mi) ?_
            rw [List.getElem?_take, if_pos h, hr]
          rw [p1 r this] at hla
          cases hla
        · omega
      walk_at "ex"
      refine sxs_one ?_
      walk_at "s"
      walk_at "ex"
      exact ⟨mi - lo, by omega, lo, mi, _, _, _, rfl, h1, hmN, by omega, rfl, sm3⟩
end
end K60

namespace K60
open PySem L2 PyProof.Rows My Vl Lw
section
variable {P : Program} {w : World} {K : PySem.W.Frag} {mg : Str → Option Value} {base : Heap}
theorem d_is_whole (T : Txt K mg) : Def P w K mg base true 1 "is_whole" ["value"] spWhole := by
  refine df_is_whole T (fun vs H Q E h => by obtain ⟨v, rfl, _⟩ := h; rfl) (fun f cdv A outer s H vs Q E hr h => ?_)
  obtain ⟨v, rfl, hs, q⟩ := h
  have n1 := T.n_isinstance
  have n2 := T.n_int
  have n3 := T.n_bool
  refine sxs_one (sx_ret ?_)
  cases v with
  | non =>
    walk_at "go"
    exact q
  | int i =>
    walk_at "go"
    exact q
  | str z =>
    walk_at "go"
    exact q
  | _ => cases hs
end
end K60
namespace K60
open PySem L2 PyProof.Rows My Vl Lw
section
variable {P : Program} {w : World} {K : PySem.W.Frag} {mg : Str → Option Value} {base : Heap}
/-! leaves -/
def spSizeOk : Sp := fun vs H Q _ => ∃ n : Int, vs = [.int n] ∧ 1 ≤ n ∧ n ≤ 100 ∧ Q .non H
theorem d_ask_size (T : Txt K mg) : Def P w K mg base true 2 "ask_size" ["size"] spSizeOk := by
  refine df_ask_size T (fun vs H Q E h => by obtain ⟨n, rfl, _⟩ := h; rfl) (fun f cdv A outer s H vs Q E hr h => ?_)
  obtain ⟨n, rfl, h1, h2, q⟩ := h
  have g1 := T.g_LARGEST_SIZE
  have D1 : Def P w K mg base true 1 "is_whole" ["value"] spWhole := d_is_whole T
  refine sxs_one (sx_if ?_)
  walk_at "ex"
  refine ⟨_, rfl, rfl, ?_⟩
  rw [show isIntV (V.int n) = true from rfl]
  walk_at "ex"
  refine ifD (fun _ => ?_) (fun h => absurd h1 h)
  walk_at "ex"
  refine ifN (fun h => absurd h2 h) (fun _ => ?_)
  exact sxs_nil q
/-- a cut, or none -/
def CtV (H : Hp) (v : V) : Option Ct → Prop
  | none => v = .non
  | some c => CtAt H v c
theorem CtV.same {H H' : Hp} {v : V} {c : Option Ct} (h : CtV H v c) (s : Same H H') : CtV H' v c := by
  cases c with
  | none => exact h
  | some c => exact CtAt.same h s
theorem inV_2 (k a b : Str) : inV (.str k) [.str a, .str b] = decide (k = a ∨ k = b) := by
  have e : ∀ a : Str, (a == k) = decide (k = a) := fun a => by rw [Bool.eq_iff_iff, beq_iff_eq, decide_eq_true_iff]; exact eq_comm
  show ((a == k) || ((b == k) || false)) = _
  rw [e, e, Bool.or_false, Bool.decide_or]
def spCopyCut (K : PySem.W.Frag) : Sp := fun vs H Q _ => ∃ (v : V) (c : Ct), vs = [v] ∧ CtAt H v c ∧ (∀ sd xs n, c = .at_ sd xs n → xs.length ≤ 1000) ∧ ∀ v' H', Same H H' → CtAt H' v' c → Q v' H'
theorem d_copy_of_cut (T : Txt K mg) : Def P w K mg base true 1 "copy_of_cut" ["cut"] (spCopyCut K) := by
  refine df_copy_of_cut T (fun vs H Q E h => by obtain ⟨v, c, rfl, _⟩ := h; rfl) (fun f cdv A outer s H vs Q E hr h => ?_)
  obtain ⟨v, c, rfl, hc, hl, q⟩ := h
  have nd := sc_copy_of_cut.nd
  have g1 := T.g_AHEAD
  have g2 := T.g_BEHIND
  have n1 := T.n_list
  have hsz : sizeLine = 16777216 := sizeLine_eq
  cases c with
  | start =>
    obtain ⟨t, rfl, ht⟩ := hc
    refine sxs_cons (sx_if ?_)
    walk_at "ex"
    refine i_tup (SqT.of ht) (show atI [V.str (Str.ofString "start")] 0 = some (V.str (Str.ofString "start")) from rfl) ?_
    walk_at "ex"
    refine ⟨by show 2 ≤ sizeLine; omega, fun y hy => ?_⟩
    have sy : Same H (upd H y (.tup [.str (Str.ofString "ahead"), .str (Str.ofString "behind")])) := Same.upd hy
    have ey : (upd H y (.tup [.str (Str.ofString "ahead"), .str (Str.ofString "behind")])) y = some (.tup [.str (Str.ofString "ahead"), .str (Str.ofString "behind")]) := upd_same
    generalize upd H y (.tup [.str (Str.ofString "ahead"), .str (Str.ofString "behind")]) = H1 at sy ey ⊢
    refine o_inT (SqT.of ey) (by rfl) (by rfl) ?_
    rw [inV_2]
    refine ⟨_, rfl, ?_⟩
    refine ifD (fun h => absurd h (by decide +kernel)) (fun _ => ?_)
    refine sxs_nil (sxs_one (sx_ret ?_))
    walk_at "ex"
    exact q _ _ sy ⟨t, rfl, sy _ _ ht⟩
  | fin =>
    obtain ⟨t, rfl, ht⟩ := hc
    refine sxs_cons (sx_if ?_)
    walk_at "ex"
    refine i_tup (SqT.of ht) (show atI [V.str (Str.ofString "end")] 0 = some (V.str (Str.ofString "end")) from rfl) ?_
    walk_at "ex"
    refine ⟨by show 2 ≤ sizeLine; omega, fun y hy => ?_⟩
    have sy : Same H (upd H y (.tup [.str (Str.ofString "ahead"), .str (Str.ofString "behind")])) := Same.upd hy
    have ey : (upd H y (.tup [.str (Str.ofString "ahead"), .str (Str.ofString "behind")])) y = some (.tup [.str (Str.ofString "ahead"), .str (Str.ofString "behind")]) := upd_same
    generalize upd H y (.tup [.str (Str.ofString "ahead"), .str (Str.ofString "behind")]) = H1 at sy ey ⊢
    refine o_inT (SqT.of ey) (by rfl) (by rfl) ?_
    rw [inV_2]
    refine ⟨_, rfl, ?_⟩
    refine ifD (fun h => absurd h (by decide +kernel)) (fun _ => ?_)
    refine sxs_nil (sxs_one (sx_ret ?_))
    walk_at "ex"
    exact q _ _ sy ⟨t, rfl, sy _ _ ht⟩
  | at_ sd xs n =>
    obtain ⟨t, k, rfl, ht, l, hk, hxs⟩ := hc
    have hxl := hl sd xs n rfl
    refine sxs_cons (sx_if ?_)
    walk_at "ex"
    refine i_tup (SqT.of ht) (show atI [V.str (sideS sd), .ref k] 0 = some (V.str (sideS sd)) from rfl) ?_
    walk_at "ex"
    refine ⟨by show 2 ≤ sizeLine; omega, fun y hy => ?_⟩
    have sy : Same H (upd H y (.tup [.str (Str.ofString "ahead"), .str (Str.ofString "behind")])) := Same.upd hy
    have ey : (upd H y (.tup [.str (Str.ofString "ahead"), .str (Str.ofString "behind")])) y = some (.tup [.str (Str.ofString "ahead"), .str (Str.ofString "behind")]) := upd_same
    generalize upd H y (.tup [.str (Str.ofString "ahead"), .str (Str.ofString "behind")]) = H1 at sy ey ⊢
    refine o_inT (SqT.of ey) (by rfl) (by rfl) ?_
    rw [inV_2]
    refine ⟨_, rfl, ?_⟩
    refine ifD (fun _ => ?_) (fun h => absurd (by cases sd <;> decide +kernel) h)
    refine sxs_cons (sx_setT (by rfl) (by rfl) ?_)
    walk_at "ex"
    refine i_tup (SqT.of (sy _ _ ht)) (show atI [V.str (sideS sd), .ref k] 1 = some (V.ref k) from rfl) ?_
    refine eg_tup (by rfl) (by rfl) (by rfl) (SqT.of (sy _ _ hk)) (by rfl) (egs_cons (by rfl) (eg_name nd (by rfl) (.inl rfl) (.inl rfl) (egs_cons (by rfl) (eg_name nd (by rfl) (.inl rfl) (.inl rfl) (egs_nil ?_)))))
    refine sxs_one (sx_ret ?_)
    walk_at "ex"
    refine i_tup (SqT.of (sy _ _ ht)) (show atI [V.str (sideS sd), .ref k] 0 = some (V.str (sideS sd)) from rfl) ?_
    walk_at "ex"
    refine c_list (.inl (SqL.of (sy _ _ hxs))) fun l2 hl2 => ?_
    have s2 : Same H1 (upd H1 l2 (.lst xs)) := Same.upd hl2
    have e2 : (upd H1 l2 (.lst xs)) l2 = some (.lst xs) := upd_same
    generalize upd H1 l2 (.lst xs) = H2 at s2 e2 ⊢
    walk_at "ex"
    refine ⟨by show 2 ≤ sizeLine; omega, fun k2 hk2 => ?_⟩
    have s3 : Same H2 (upd H2 k2 (.tup [.ref l2, .int n])) := Same.upd hk2
    have e3 : (upd H2 k2 (.tup [.ref l2, .int n])) k2 = some (.tup [.ref l2, .int n]) := upd_same
    generalize upd H2 k2 (.tup [.ref l2, .int n]) = H3 at s3 e3 ⊢
    walk_at "ex"
    refine ⟨by show 2 ≤ sizeLine; omega, fun t2 ht2 => ?_⟩
    have s4 : Same H3 (upd H3 t2 (.tup [.str (sideS sd), .ref k2])) := Same.upd ht2
    exact q _ _ (((sy.trans s2).trans s3).trans s4) ⟨t2, k2, rfl, upd_same, l2, s4 _ _ e3, s4 _ _ (s3 _ _ e2)⟩
def dRw (r : Row) : PyData := .tuple [.int r.1, .list (r.2.map dV)]
theorem fitK.lay {cs : List Col} {r : Row} (h : fitK cs r) : ∀ x ∈ r.2, sca x = true ∧ ∀ z, x = .str z → okS 4000 z := by
  obtain ⟨n, xs⟩ := r
  have h' : All2 (fun (c : Col) x => valK c.2 x) cs xs := h
  show ∀ x ∈ xs, _
  clear h
  induction h' with
  | nil => intro x hx; cases hx
  | cons r t ih =>
    intro x hx
    rcases List.mem_cons.mp hx with e | hx
    · subst e
      exact r.sca
    · exact ih x hx
theorem rows_rds {cs : List Col} {H : Hp} {vs : List V} {rs : List Row} (h : All2 (RowAt H) vs rs) (g : ∀ r ∈ rs, fitK cs r) : RDs K H vs (rs.map dRw) := by
  induction h with
  | nil => exact .nil
  | cons r t ih =>
    obtain ⟨p, l, rfl, h1, h2⟩ := r
    refine .cons (.tup (SqT.of h1) (.cons (.int _) (.cons (.lst (SqL.of h2) (rds_sca ?_)) .nil))) (ih fun r hr => g r (by simp [hr]))
    exact List.all_eq_true.mpr fun x hx => ((g _ (by simp)).lay x hx).1
theorem rows_rd {cs : List Col} {H : Hp} {p : Addr} {rs : List Row} (h : Rws H p rs) (g : ∀ r ∈ rs, fitK cs r) : RD K H (.ref p) (.list (rs.map dRw)) := by
  obtain ⟨vs, e, a⟩ := h
  exact .lst (SqL.of e) (rows_rds a g)
theorem row_lay {cs : List Col} {r : Row} (h : fitK cs r) : (dRw r).canLay0 = true := by
  show (true && ((PyData.list (r.2.map dV)).canLay0 && true)) = true
  rw [vals_lay fun x hx => h.lay x hx]
  rfl
theorem rows_lay {cs : List Col} : ∀ {rs : List Row}, (∀ r ∈ rs, fitK cs r) → (PyData.list (rs.map dRw)).canLay0 = true
  | [], _ => rfl
  | r :: rs, h => by
    have ih := rows_lay (rs := rs) fun d hd => h d (by simp [hd])
    show ((dRw r).canLay0 && PyData.canLayAll0 (rs.map dRw)) = true
    rw [row_lay (h r (by simp))]
    exact ih
theorem row_dep (r : Row) : (dRw r).depth ≤ 4 := by
  have := vals_depA r.2
  simp only [dRw, PyData.depth, PyData.depthAll]
  omega
theorem rows_depA : ∀ rs : List Row, PyData.depthAll (rs.map dRw) ≤ 4
  | [] => by show (0 : Nat) ≤ 4; omega
  | r :: rs => by
    have ih := rows_depA rs
    have h1 := row_dep r
    show max (dRw r).depth (PyData.depthAll (rs.map dRw)) ≤ 4
    omega
theorem rows_dep (rs : List Row) : (PyData.list (rs.map dRw)).depth ≤ 60 := by
  have := rows_depA rs
  simp only [PyData.depth]
  omega
/-- the cut on one side of the one row; of no row a copy of the leaf's own cut -/
def besideC (cs : List Col) (os : List Ord) (sd : Bool) (rs : List Row) (c : Ct) : Ct := match rs with
  | [] => c
  | r :: _ => .at_ sd (keyL cs os r.2) r.1
def spBeside (K : PySem.W.Frag) : Sp := fun vs H Q _ => ∃ (a b p : Addr) (sd : Bool) (v : V) (cs : List Col) (os : List Ord) (rs : List Row) (c : Ct), vs = [.ref a, .ref b, .str (sideS sd), .ref p, v] ∧ Cols H a cs ∧ Ords H b os ∧ Rws H p rs ∧ CtAt H v c ∧ (∀ sd xs n, c = .at_ sd xs n → xs.length ≤ 1000) ∧ cs.length ≤ 6 ∧ os.length ≤ 4 ∧ inC cs os ∧ rs.length ≤ 1000 ∧ (∀ r ∈ rs, fitK cs r) ∧ ∀ v' H', Same H H' → CtAt H' v' (besideC cs os sd rs c) → Q v' H'
theorem d_cut_beside (T : Txt K mg) : Def P w K mg base true 3 "cut_beside" ["columns", "order", "side", "rows", "cut"] (spBeside K) := by
  refine df_cut_beside T (fun vs H Q E h => by obtain ⟨a, b, p, sd, v, cs, os, rs, c, rfl, _⟩ := h; rfl) (fun f cdv A outer s H vs Q E hr h => ?_)
  obtain ⟨a, b, p, sd, v, cs, os, rs, c, rfl, hC, hO, ⟨ws, hp, hws⟩, hc, hcl, c6, o4, hin, few, hfit, q⟩ := h
  have nd := sc_cut_beside.nd
  have hsz : sizeLine = 16777216 := sizeLine_eq
  have D1 : Def P w K mg base true 2 "key_of" ["columns", "order", "row", "values"] spKey := d_key_of T
  have D2 : Def P w K mg base true 1 "copy_of_cut" ["cut"] (spCopyCut K) := d_copy_of_cut T
  have hwl := hws.len
  refine sxs_cons (sx_if ?_)
  walk_at "ex"
  refine ⟨by show 0 ≤ sizeLine; omega, fun y hy => ?_⟩
  have sy : Same H (upd H y (.lst [])) := Same.upd hy
  have ey : (upd H y (.lst [])) y = some (.lst []) := upd_same
  generalize upd H y (.lst []) = H1 at sy ey ⊢
  refine o_eqD hr.units (rows_rd (Rws.same ⟨ws, hp, hws⟩ sy) hfit) (.lst (SqL.of ey) .nil) (rows_lay hfit) (by rfl) (rows_dep rs) ?_
  cases rs with
  | nil =>
    rw [show PyData.eqv (.list (([] : List Row).map dRw)) (.list []) = true from rfl]
    refine ⟨_, rfl, ?_⟩
    show SXs _ _ _ _ _
    refine sxs_one (sx_ret ?_)
    walk_at "ex"
    exact ⟨v, c, rfl, hc.same sy, hcl, fun v' H' s' h' => q v' H' (sy.trans s') h'⟩
  | cons r rs =>
    rw [show PyData.eqv (.list ((r :: rs).map dRw)) (.list []) = false from rfl]
    refine ⟨_, rfl, ?_⟩
    show SXs _ _ _ _ _
    obtain ⟨wv, gw, t, l, rfl, ht, hl⟩ := hws.get' (i := 0) (b := r) rfl
    refine sxs_nil (sxs_cons (sx_setT (by rfl) (by rfl) ?_))
    walk_at "ex"
    refine i_list (SqL.of (sy _ _ hp)) (show atI ws ((0 : Nat) : Int) = some (.ref t) from atI_nat gw) ?_
    refine eg_tup (by rfl) (by rfl) (by rfl) (SqT.of (sy _ _ ht)) (by rfl) (egs_cons (by rfl) (eg_name nd (by rfl) (.inl rfl) (.inl rfl) (egs_cons (by rfl) (eg_name nd (by rfl) (.inl rfl) (.inl rfl) (egs_nil ?_)))))
    refine sxs_one (sx_ret ?_)
    walk_at "ex"
    refine ⟨a, b, r.1, l, cs, os, r.2, rfl, hC.same sy, hO.same sy, sy _ _ hl, (All2.len (hfit r (by simp))).symm, by omega, by omega, hin, fun kp kl H2 s2 _ _ hkl hkp => ?_⟩
    walk_at "ex"
    refine ⟨by show 2 ≤ sizeLine; omega, fun t2 ht2 => ?_⟩
    have s3 : Same H2 (upd H2 t2 (.tup [.str (sideS sd), .ref kp])) := Same.upd ht2
    exact q _ _ ((sy.trans s2).trans s3) ⟨t2, kp, rfl, upd_same, kl, s3 _ _ hkp, s3 _ _ hkl⟩
/-- new rows: tuples and lists that were not there -/
def RowNew (q : Addr) (H H' : Hp) (v : V) (r : Row) : Prop := ∃ t l, v = .ref t ∧ H t = none ∧ H l = none ∧ l ≠ q ∧ H' t = some (.tup [.int r.1, .ref l]) ∧ H' l = some (.lst r.2)
theorem RowNew.row {q : Addr} {H H' : Hp} {v : V} {r : Row} (h : RowNew q H H' v r) : RowAt H' v r := by
  obtain ⟨t, l, e, _, _, _, h1, h2⟩ := h
  exact ⟨t, l, e, h1, h2⟩
theorem RowNew.same {q : Addr} {H H' H2 : Hp} {v : V} {r : Row} (h : RowNew q H H' v r) (s : Same H' H2) : RowNew q H H2 v r := by
  obtain ⟨t, l, e, a, b, c, h1, h2⟩ := h
  exact ⟨t, l, e, a, b, c, s _ _ h1, s _ _ h2⟩
def sliceL {α : Type} (xs : List α) (i j : Nat) : List α := (xs.drop i).take (j - i)
theorem cutV_mid (xs : List V) (i j : Nat) (hij : i ≤ j) (hj : j ≤ xs.length) : cutV xs (some (i : Int)) (some (j : Int)) = sliceL xs i j := by
  unfold cutV sliceL
  rw [HT.sIx_nat, HT.sIx_nat, Nat.min_eq_left hj, Nat.min_eq_left (Nat.le_trans hij hj)]
theorem cutV_last (xs : List V) : cutV xs (some (-1)) none = xs.drop (xs.length - 1) := by
  have e : HT.sIx xs.length 0 (some (-1)) = xs.length - 1 := by
    unfold HT.sIx
    simp
    omega
  unfold cutV
  rw [HT.sIx_none, e]
  exact List.take_of_length_le (by rw [List.length_drop]; exact Nat.le_refl _)
end
end K60

namespace K60
open PySem L2 PyProof.Rows My Vl Lw
section
variable {P : Program} {w : World} {K : PySem.W.Frag} {mg : Str → Option Value} {base : Heap}
/-- what a leaf tells -/
structure Lf where
  rows : List Row
  back : Option Ct
  forth : Option Ct
  start : Nat
def leafB (cs : List Col) (os : List Ord) (rs : List Row) (c : Ct) (i j : Nat) : Lf :=
  ⟨sliceL rs i j, if 0 < i then some (besideC cs os true ((sliceL rs i j).take 1) c) else none, if j < rs.length then some (besideC cs os false ((sliceL rs i j).drop ((sliceL rs i j).length - 1)) c) else none, i⟩
def spBetween (K : PySem.W.Frag) : Sp := fun vs H Q _ => ∃ (a b p : Addr) (v : V) (cs : List Col) (os : List Ord) (rs : List Row) (c : Ct) (i j : Nat), vs = [.ref a, .ref b, .ref p, v, .int i, .int j] ∧ Cols H a cs ∧ Ords H b os ∧ Rws H p rs ∧ CtAt H v c ∧ LineOk cs os rs ∧ CtOk cs os c ∧ i ≤ j ∧ j ≤ rs.length ∧
  ∀ (t q : Addr) (us : List V) (x y : V) H', Same H H' → H q = none → H' t = some (.tup [.ref q, x, y, .int i]) → H' q = some (.lst us) → All2 (RowNew q H H') us (leafB cs os rs c i j).rows → CtV H' x (leafB cs os rs c i j).back → CtV H' y (leafB cs os rs c i j).forth → Q (.ref t) H'
theorem CtOk.len {cs : List Col} {os : List Ord} {c : Ct} (h : CtOk cs os c) (ho : os.length ≤ 4) : ∀ sd xs n, c = .at_ sd xs n → xs.length ≤ 1000 := fun sd xs n e => by
  subst e
  have := All2.len h
  omega
theorem all2_slice {α β : Type} {R : α → β → Prop} {l : List α} {m : List β} {i j : Nat} (h : All2 R l m) : All2 R (sliceL l i j) (sliceL m i j) := (h.drop i).take (j - i)
theorem d_leaf_between (T : Txt K mg) : Def P w K mg base true 4 "leaf_between" ["columns", "order", "line", "cut", "start", "stop"] (spBetween K) := by
  refine df_leaf_between T (fun vs H Q E h => by obtain ⟨a, b, p, v, cs, os, rs, c, i, j, rfl, _⟩ := h; rfl) (fun f cdv A outer s H vs Q E hr h => ?_)
  obtain ⟨a, b, p, v, cs, os, rs, c, i, j, rfl, hC, hO, ⟨ws, hp, hws⟩, hc, hL, hck, hij, hj, q⟩ := h
  have nd := sc_leaf_between.nd
  have g1 := T.g_AHEAD
  have g2 := T.g_BEHIND
  have n1 := T.n_list
  have n2 := T.n_len
  have hsz : sizeLine = 16777216 := sizeLine_eq
  have nd2 : (["row", "values"] : List Str).Nodup := by decide +kernel
  have D1 : Def P w K mg base true 3 "cut_beside" ["columns", "order", "side", "rows", "cut"] (spBeside K) := d_cut_beside T
  have hwl := hws.len
  obtain ⟨c1, c6⟩ := hL.cols
  have o4 := hL.ords
  have few := hL.few
  have hcl := hck.len o4
  refine sxs_cons ?_
  refine sx_compL ["row", "values"] (σ' := [none, none]) (by rfl) (by rfl) (by rfl) (compSc_of (defScope s_leaf_between) (by rfl) (by rfl) (by decide +kernel)) (by intro _; rfl) nd (by rfl) (by rfl) ?_
  walk_at "ex"
  refine s_list (SqL.of hp) fun p1 hp1 => ?_
  rw [cutV_mid ws i j hij (by omega)]
  have s1 : Same H (upd H p1 (.lst (sliceL ws i j))) := Same.upd hp1
  have e1 : (upd H p1 (.lst (sliceL ws i j))) p1 = some (.lst (sliceL ws i j)) := upd_same
  generalize upd H p1 (.lst (sliceL ws i j)) = H1 at s1 e1 ⊢
  have hsl : All2 (RowAt H) (sliceL ws i j) (sliceL rs i j) := all2_slice hws
  have hll := hsl.len
  have hlr : (sliceL rs i j).length = j - i := by
    unfold sliceL
    rw [List.length_take, List.length_drop]
    omega
  have hfs : ∀ r ∈ sliceL rs i j, fitK cs r := fun r hr => hL.fit r (List.mem_of_mem_drop (List.mem_of_mem_take hr))
  refine ⟨p1, _, rfl, SqL.of e1, by omega, fun τ => ∃ o1 o2, τ = [o1, o2], fun E2 k u H' => ∃ r, (sliceL rs i j)[k]? = some r ∧ RowNew E2 H H' u r, ⟨none, none, rfl⟩, fun E2 k u H2 H3 ys hE hk p => ?_, fun fp E2 C s3 H0 k τ x H4 H5 hE2 hi hτ sm4 hys hG => ?_, fun q0 H2 us hq0 hl2 hx2 e2 sm2 => ?_⟩
  · obtain ⟨r, hr, t, l, e, h1, h2, h3, h4, h5⟩ := p
    exact ⟨r, hr, t, l, e, h1, h2, h3, hk _ _ (fun z => by rw [z, hE] at h4; cases h4) h4, hk _ _ h3 h5⟩
  · obtain ⟨o1, o2, rfl⟩ := hτ
    obtain ⟨hx3, rfl⟩ := hG
    obtain ⟨r, hr, t, l, rfl, ht, hl⟩ := hsl.get hx3
    have sm14 := s1.trans sm4
    obtain ⟨ys, hys⟩ := hys
    have hfr := hfs r (List.mem_of_getElem? hr)
    have hrl := All2.len hfr
    refine eg_tup (by rfl) (by rfl) (by rfl) (SqT.of (sm14 _ _ ht)) (by rfl) (egs_cons (by rfl) (eg_name nd2 (by rfl) (.inl rfl) (.inr rfl) (egs_cons (by rfl) (eg_name nd2 (by rfl) (.inl rfl) (.inr rfl) (egs_nil ?_)))))
    walk_at "ex"
    refine c_list (.inl (SqL.of (sm14 _ _ hl))) fun l2 hl2 => ?_
    have s5 : Same H4 (upd H4 l2 (.lst r.2)) := Same.upd hl2
    have e5 : (upd H4 l2 (.lst r.2)) l2 = some (.lst r.2) := upd_same
    have nl : l2 ≠ E2 := fun e => by rw [e, hys] at hl2; cases hl2
    generalize upd H4 l2 (.lst r.2) = H5 at s5 e5 ⊢
    walk_at "ex"
    refine ⟨by show 2 ≤ sizeLine; omega, fun t2 ht2 => ?_⟩
    have s6 : Same H5 (upd H5 t2 (.tup [.int r.1, .ref l2])) := Same.upd ht2
    exact ⟨⟨_, _, rfl⟩, ⟨r, hr, t2, l2, rfl, (sm14.trans s5).free ht2, sm14.free hl2, nl, upd_same, s6 _ _ e5⟩, s5.trans s6⟩
  have hus : All2 (RowNew q0 H H2) us (sliceL rs i j) := all2_of_get (by omega) fun k r hr => by
    have hk : k < us.length := by have := (List.getElem?_eq_some_iff.mp hr).1; omega
    obtain ⟨r', hr', hn⟩ := hx2 k _ (List.getElem?_eq_getElem hk)
    rw [hr] at hr'
    cases hr'
    exact ⟨_, List.getElem?_eq_getElem hk, hn⟩
  have sm12 := s1.trans sm2
  have hq0H : H q0 = none := s1.free hq0
  have hul := hus.len
  have hq0R : Rws H2 q0 (sliceL rs i j) := ⟨us, e2, hus.imp fun u r x => x.row⟩
  -- forth and what is told
  have tail : ∀ (x : V) (H3 : Hp), Same H2 H3 → CtV H3 x (leafB cs os rs c i j).back → SXs (CxF true P w K mg base N_leaf_between "leaf_between" (defScope s_leaf_between) f cdv A outer s H E) ((defBody s_leaf_between).drop 3) { nx := fun _ H' => Q .non H', rt := Q } [some (.ref a), some (.ref b), some (.ref p), some v, some (.int i), some (.int j), some (.ref q0), some x, none] H3 := fun x H3 s3 hx => by
    have sm13 := sm12.trans s3
    have fin : ∀ (y : V) (H4 : Hp), Same H3 H4 → CtV H4 y (leafB cs os rs c i j).forth → SXs (CxF true P w K mg base N_leaf_between "leaf_between" (defScope s_leaf_between) f cdv A outer s H E) ((defBody s_leaf_between).drop 5) { nx := fun _ H' => Q .non H', rt := Q } [some (.ref a), some (.ref b), some (.ref p), some v, some (.int i), some (.int j), some (.ref q0), some x, some y] H4 := fun y H4 s4 hy => by
      refine sxs_one (sx_ret ?_)
      walk_at "ex"
      refine ⟨by show 4 ≤ sizeLine; omega, fun t ht => ?_⟩
      have s5 : Same H4 (upd H4 t (.tup [.ref q0, x, y, .int i])) := Same.upd ht
      have s25 := (s3.trans s4).trans s5
      exact q t q0 us x y _ (sm12.trans s25) hq0H upd_same (s25 _ _ e2) (hus.imp fun u r z => z.same s25) ((hx.same s4).same s5) (hy.same s5)
    refine sxs_cons ?_
    walk_at "s"
    walk_at "ex"
    refine sxs_cons (sx_if ?_)
    have sqp : SqL K H3 p ws := SqL.of (sm13 _ _ hp)
    walk_at "ex"
    rw [hwl]
    refine ifD (fun h => ?_) (fun h => ?_)
    · have h' : j < rs.length := by omega
      refine sxs_one ?_
      walk_at "s"
      walk_at "ex"
      refine s_list (SqL.of (s3 _ _ e2)) fun p2 hp2 => ?_
      rw [cutV_last]
      have s4 : Same H3 (upd H3 p2 (.lst (us.drop (us.length - 1)))) := Same.upd hp2
      have e4 : (upd H3 p2 (.lst (us.drop (us.length - 1)))) p2 = some (.lst (us.drop (us.length - 1))) := upd_same
      generalize upd H3 p2 (.lst (us.drop (us.length - 1))) = H4 at s4 e4 ⊢
      have sm14 := sm13.trans s4
      walk_at "ex"
      refine ⟨a, b, p2, false, v, cs, os, (sliceL rs i j).drop ((sliceL rs i j).length - 1), c, rfl, hC.same sm14, hO.same sm14, ⟨_, e4, ?_⟩, hc.same sm14, hcl, c6, o4, hL.inc, by rw [List.length_drop]; omega, fun r hr => hfs r (List.mem_of_mem_drop hr), fun y H5 s5 hy => ?_⟩
      · rw [hul]
        exact (hus.imp fun u r z => (z.same (s3.trans s4)).row).drop _
      · refine fin y H5 (s4.trans s5) ?_
        show CtV H5 y (if j < rs.length then _ else none)
        rw [if_pos h']
        exact hy
    · refine sxs_nil (fin .non H3 (Same.refl _) ?_)
      show CtV H3 .non (if j < rs.length then _ else none)
      rw [if_neg (by omega)]
      rfl
  refine sxs_cons ?_
  walk_at "s"
  walk_at "ex"
  refine sxs_cons (sx_if ?_)
  walk_at "ex"
  refine ifD (fun h => ?_) (fun h => ?_)
  · have h' : 0 < i := by omega
    refine sxs_one ?_
    walk_at "s"
    walk_at "ex"
    refine s_list (SqL.of e2) fun p2 hp2 => ?_
    rw [show (some (1 : Int)) = some ((1 : Nat) : Int) from rfl, cutV_to]
    have s4 : Same H2 (upd H2 p2 (.lst (us.take 1))) := Same.upd hp2
    have e4 : (upd H2 p2 (.lst (us.take 1))) p2 = some (.lst (us.take 1)) := upd_same
    generalize upd H2 p2 (.lst (us.take 1)) = H4 at s4 e4 ⊢
    have sm14 := sm12.trans s4
    walk_at "ex"
    refine ⟨a, b, p2, true, v, cs, os, (sliceL rs i j).take 1, c, rfl, hC.same sm14, hO.same sm14, ⟨_, e4, (hus.imp fun u r z => (z.same s4).row).take 1⟩, hc.same sm14, hcl, c6, o4, hL.inc, by rw [List.length_take]; omega, fun r hr => hfs r (List.mem_of_mem_take hr), fun y H5 s5 hy => ?_⟩
    refine tail y H5 (s4.trans s5) ?_
    show CtV H5 y (if 0 < i then _ else none)
    rw [if_pos h']
    exact hy
  · refine sxs_nil (tail .non H2 (Same.refl _) ?_)
    show CtV H2 .non (if 0 < i then _ else none)
    rw [if_neg (by omega)]
    rfl
end
end K60

namespace K60
open PySem L2 PyProof.Rows My Vl Lw
section
variable {P : Program} {w : World} {K : PySem.W.Frag} {mg : Str → Option Value} {base : Heap}
def LfTold (H : Hp) (Q : VK) (L : Lf) : Prop := ∀ (t q : Addr) (us : List V) (x y : V) H', Same H H' → H q = none → H' t = some (.tup [.ref q, x, y, .int L.start]) → H' q = some (.lst us) → All2 (RowNew q H H') us L.rows → CtV H' x L.back → CtV H' y L.forth → Q (.ref t) H'
def leafF (cs : List Col) (os : List Ord) (rs : List Row) (c : Ct) (n : Nat) : Lf := leafB cs os rs c (placeC cs os c rs) (min (placeC cs os c rs + n) rs.length)
def leafR (cs : List Col) (os : List Ord) (rs : List Row) (c : Ct) (n : Nat) : Lf := leafB cs os rs c (placeC cs os c rs - n) (placeC cs os c rs)
def spLeaf (K : PySem.W.Frag) (way : List Col → List Ord → List Row → Ct → Nat → Lf) : Sp := fun vs H Q _ => ∃ (a b p : Addr) (v : V) (cs : List Col) (os : List Ord) (rs : List Row) (c : Ct) (n : Nat), vs = [.ref a, .ref b, .ref p, v, .int n] ∧ Cols H a cs ∧ Ords H b os ∧ Rws H p rs ∧ CtAt H v c ∧ LineOk cs os rs ∧ CtOk cs os c ∧ 1 ≤ n ∧ n ≤ 100 ∧ LfTold H Q (way cs os rs c n)
theorem d_leaf_forth (T : Txt K mg) : Def P w K mg base true 5 "leaf_forth" ["columns", "order", "line", "cut", "size"] (spLeaf K leafF) := by
  refine df_leaf_forth T (fun vs H Q E h => by obtain ⟨a, b, p, v, cs, os, rs, c, n, rfl, _⟩ := h; rfl) (fun f cdv A outer s H vs Q E hr h => ?_)
  obtain ⟨a, b, p, v, cs, os, rs, c, n, rfl, hC, hO, hR, hc, hL, hck, n1, n100, q⟩ := h
  have nd := sc_leaf_forth.nd
  have b1 := T.n_len
  have b2 := T.n_min
  have D1 : Def P w K mg base true 2 "ask_size" ["size"] spSizeOk := d_ask_size T
  have D2 : Def P w K mg base true 4 "cut_place" ["columns", "order", "line", "cut"] spCutPlace := d_cut_place T
  have D3 : Def P w K mg base true 4 "leaf_between" ["columns", "order", "line", "cut", "start", "stop"] (spBetween K) := d_leaf_between T
  have few := hL.few
  have ple := placeC_le (cs := cs) (os := os) (c := c) (rs := rs)
  refine sxs_cons (sx_expr (by rfl) ?_)
  walk_at "ex"
  refine ⟨n, rfl, by omega, by omega, ?_⟩
  refine sxs_cons ?_
  walk_at "s"
  walk_at "ex"
  refine ⟨a, b, p, v, cs, os, rs, c, rfl, hC, hO, hR, hc, hL, hck, fun H1 s1 => ?_⟩
  obtain ⟨ws, hp, hws⟩ := hR.same s1
  have sqp : SqL K H1 p ws := SqL.of hp
  have hwl := hws.len
  refine sxs_one (sx_ret ?_)
  walk_at "ex"
  refine c_min2 (by rfl) ?_
  have em : (if ((ws.length : Nat) : Int) < ((placeC cs os c rs : Nat) : Int) + ((n : Nat) : Int) then ((ws.length : Nat) : Int) else ((placeC cs os c rs : Nat) : Int) + ((n : Nat) : Int)) = ((min (placeC cs os c rs + n) rs.length : Nat) : Int) := by
    rw [hwl]
    split <;> omega
  rw [em]
  walk_at "ex"
  exact ⟨a, b, p, v, cs, os, rs, c, _, _, rfl, hC.same s1, hO.same s1, hR.same s1, hc.same s1, hL, hck, by omega, Nat.min_le_right _ _, fun t q0 us x y H' s' h1 h2 h3 h4 h5 h6 => q t q0 us x y H' (s1.trans s') (s1.free h1) h2 h3 (h4.imp fun u r z => by
    obtain ⟨t, l, e, a1, a2, a3, a4, a5⟩ := z
    exact ⟨t, l, e, s1.free a1, s1.free a2, a3, a4, a5⟩) h5 h6⟩
theorem d_leaf_back (T : Txt K mg) : Def P w K mg base true 5 "leaf_back" ["columns", "order", "line", "cut", "size"] (spLeaf K leafR) := by
  refine df_leaf_back T (fun vs H Q E h => by obtain ⟨a, b, p, v, cs, os, rs, c, n, rfl, _⟩ := h; rfl) (fun f cdv A outer s H vs Q E hr h => ?_)
  obtain ⟨a, b, p, v, cs, os, rs, c, n, rfl, hC, hO, hR, hc, hL, hck, n1, n100, q⟩ := h
  have nd := sc_leaf_back.nd
  have b2 := T.n_max
  have D1 : Def P w K mg base true 2 "ask_size" ["size"] spSizeOk := d_ask_size T
  have D2 : Def P w K mg base true 4 "cut_place" ["columns", "order", "line", "cut"] spCutPlace := d_cut_place T
  have D3 : Def P w K mg base true 4 "leaf_between" ["columns", "order", "line", "cut", "start", "stop"] (spBetween K) := d_leaf_between T
  have few := hL.few
  have ple := placeC_le (cs := cs) (os := os) (c := c) (rs := rs)
  refine sxs_cons (sx_expr (by rfl) ?_)
  walk_at "ex"
  refine ⟨n, rfl, by omega, by omega, ?_⟩
  refine sxs_cons ?_
  walk_at "s"
  walk_at "ex"
  refine ⟨a, b, p, v, cs, os, rs, c, rfl, hC, hO, hR, hc, hL, hck, fun H1 s1 => ?_⟩
  refine sxs_one (sx_ret ?_)
  walk_at "ex"
  refine c_max2 (by rfl) ?_
  have em : (if (0 : Int) > ((placeC cs os c rs : Nat) : Int) - ((n : Nat) : Int) then (0 : Int) else ((placeC cs os c rs : Nat) : Int) - ((n : Nat) : Int)) = ((placeC cs os c rs - n : Nat) : Int) := by
    split <;> omega
  rw [em]
  walk_at "ex"
  exact ⟨a, b, p, v, cs, os, rs, c, _, _, rfl, hC.same s1, hO.same s1, hR.same s1, hc.same s1, hL, hck, Nat.sub_le _ _, ple, fun t q0 us x y H' s' h1 h2 h3 h4 h5 h6 => q t q0 us x y H' (s1.trans s') (s1.free h1) h2 h3 (h4.imp fun u r z => by
    obtain ⟨t, l, e, a1, a2, a3, a4, a5⟩ := z
    exact ⟨t, l, e, s1.free a1, s1.free a2, a3, a4, a5⟩) h5 h6⟩
end
end K60

namespace K60
open PySem L2 PyProof.Rows My Vl Lw
section
variable {P : Program} {w : World} {K : PySem.W.Frag} {mg : Str → Option Value} {base : Heap}
/-! the law's own place, cut and due -/
def dKy (xs : List V) (n : Int) : PyData := .tuple [.list (xs.map dV), .int n]
theorem KeyOk.lay {cs : List Col} {os : List Ord} {xs : List V} (h : KeyOk cs os xs) : ∀ x ∈ xs, scalar x = true ∧ sca x = true ∧ ∀ z, x = .str z → okS 4000 z := by
  have h' : All2 (fun (o : Ord) x => valK (kindZ cs o.1) x) os xs := h
  clear h
  induction h' with
  | nil => intro x hx; cases hx
  | cons r t ih =>
    intro x hx
    rcases List.mem_cons.mp hx with e | hx
    · subst e
      exact ⟨r.sc, r.sca⟩
    · exact ih x hx
theorem ky_rd {H : Hp} {p : Addr} {xs : List V} {n : Int} (h : KeyAt H p xs n) (hs : ∀ x ∈ xs, scalar x = true ∧ sca x = true ∧ ∀ z, x = .str z → okS 4000 z) : RD K H (.ref p) (dKy xs n) := by
  obtain ⟨l, h1, h2⟩ := h
  exact .tup (SqT.of h1) (.cons (.lst (SqL.of h2) (rds_sca (List.all_eq_true.mpr fun x hx => (hs x hx).2.1))) (.cons (.int _) .nil))
theorem ky_lay {xs : List V} {n : Int} (h : ∀ x ∈ xs, scalar x = true ∧ sca x = true ∧ ∀ z, x = .str z → okS 4000 z) : (dKy xs n).canLay0 = true := by
  show ((PyData.list (xs.map dV)).canLay0 && (true && true)) = true
  rw [vals_lay fun x hx => (h x hx).2]
  rfl
theorem ky_dep (xs : List V) (n : Int) : (dKy xs n).depth ≤ 4 := by
  have := vals_depA xs
  simp only [dKy, PyData.depth, PyData.depthAll]
  omega
theorem eqv_sc {x y : V} (sx : scalar x = true) (sy : scalar y = true) : PyData.eqv (dV x) (dV y) = decide (x = y) := by
  cases x with
  | non =>
    cases y with
    | non => rfl
    | int j => rfl
    | str z => rfl
    | _ => exact absurd sy Bool.false_ne_true
  | int i =>
    cases y with
    | non => rfl
    | int j =>
      show (i == j) = decide (V.int i = V.int j)
      rw [Bool.eq_iff_iff, decide_eq_true_eq, beq_iff_eq]
      exact ⟨fun z => by rw [z], fun z => by injection z⟩
    | str z => rfl
    | _ => exact absurd sy Bool.false_ne_true
  | str z =>
    cases y with
    | non => rfl
    | int j => rfl
    | str y =>
      show (z == y) = decide (V.str z = V.str y)
      rw [Bool.eq_iff_iff, decide_eq_true_eq, beq_iff_eq]
      exact ⟨fun z => by rw [z], fun z => by injection z⟩
    | _ => exact absurd sy Bool.false_ne_true
  | _ => exact absurd sx Bool.false_ne_true
theorem eqvAll_sc : ∀ {xs ys : List V}, (∀ x ∈ xs, scalar x = true) → (∀ y ∈ ys, scalar y = true) → PyData.eqvAll (xs.map dV) (ys.map dV) = decide (xs = ys)
  | [], [], _, _ => rfl
  | x :: xs, y :: ys, hx, hy => by
    show (PyData.eqv (dV x) (dV y) && PyData.eqvAll (xs.map dV) (ys.map dV)) = _
    rw [eqv_sc (hx x (by simp)) (hy y (by simp)), eqvAll_sc (xs := xs) (ys := ys) (fun z hz => hx z (by simp [hz])) fun z hz => hy z (by simp [hz])]
    rw [Bool.eq_iff_iff, Bool.and_eq_true, decide_eq_true_eq, decide_eq_true_eq, decide_eq_true_eq, List.cons.injEq]
  | [], _ :: _, _, _ => rfl
  | _ :: _, [], _, _ => rfl
theorem eqv_ky {xs ys : List V} {n k : Int} (hx : ∀ x ∈ xs, scalar x = true) (hy : ∀ y ∈ ys, scalar y = true) : PyData.eqv (dKy xs n) (dKy ys k) = decide (xs = ys ∧ n = k) := by
  show (PyData.eqvAll (xs.map dV) (ys.map dV) && ((n == k) && true)) = _
  rw [eqvAll_sc hx hy, Bool.and_true, Bool.eq_iff_iff, Bool.and_eq_true, decide_eq_true_eq, decide_eq_true_eq, beq_iff_eq]
def spPlace6 (K : PySem.W.Frag) : Sp := fun vs H Q _ => ∃ (a b p : Addr) (v : V) (cs : List Col) (os : List Ord) (rs : List Row) (c : Ct), vs = [.ref a, .ref b, .ref p, v] ∧ Cols H a cs ∧ Ords H b os ∧ Rws H p rs ∧ CtAt H v c ∧ LineOk cs os rs ∧ CtOk cs os c ∧ ∀ H', Same H H' → Q (.int (placeC cs os c rs : Nat)) H'
theorem d__law_place (T : Txt K mg) : Def P w K mg base true 2 "_law_place" ["_law_columns_here", "_law_order_here", "_law_line_here", "_law_cut_here"] (spPlace6 K) := by
  refine df__law_place T (fun vs H Q E h => by obtain ⟨a, b, p, v, cs, os, rs, c, rfl, _⟩ := h; rfl) (fun f cdv A outer s H vs Q E hr h => ?_)
  obtain ⟨a, b, p, v, cs, os, rs, c, rfl, hC, hO, ⟨ws, hp, hws⟩, hc, hL, hck, q⟩ := h
  have nd := sc__law_place.nd
  have n1 := T.n_len
  have hu := hr.units
  have hsz : sizeLine = 16777216 := sizeLine_eq
  have D1 : Def P w K mg base true 1 "_law_key" ["_law_columns_here", "_law_order_here", "_law_one"] (spKey2 K) := d__law_key T
  have D2 : Def P w K mg base true 1 "_law_is_ahead" ["_law_order_here", "_law_one", "_law_other"] spAhead2 := d__law_is_ahead T
  have hwl := hws.len
  have sqp : SqL K H p ws := SqL.of hp
  obtain ⟨c1, c6⟩ := hL.cols
  have o4 := hL.ords
  have few := hL.few
  cases c with
  | start =>
    obtain ⟨t, rfl, ht⟩ := hc
    refine sxs_cons (sx_if ?_)
    walk_at "ex"
    refine c_len (.inr (SqT.of ht)) ?_
    walk_at "ex"
    refine ifD (fun _ => ?_) (fun h => absurd rfl h)
    refine sxs_one (sx_ret ?_)
    walk_at "ex"
    refine i_tup (SqT.of ht) (show atI [V.str (Str.ofString "start")] 0 = some (V.str (Str.ofString "start")) from rfl) ?_
    walk_at "ex"
    refine ifD (fun h => absurd h (by decide +kernel)) (fun _ => ?_)
    walk_at "ex"
    exact q H (Same.refl _)
  | fin =>
    obtain ⟨t, rfl, ht⟩ := hc
    refine sxs_cons (sx_if ?_)
    walk_at "ex"
    refine c_len (.inr (SqT.of ht)) ?_
    walk_at "ex"
    refine ifD (fun _ => ?_) (fun h => absurd rfl h)
    refine sxs_one (sx_ret ?_)
    walk_at "ex"
    refine i_tup (SqT.of ht) (show atI [V.str (Str.ofString "end")] 0 = some (V.str (Str.ofString "end")) from rfl) ?_
    walk_at "ex"
    refine ifD (fun _ => ?_) (fun h => absurd rfl h)
    walk_at "ex"
    rw [hwl]
    exact q H (Same.refl _)
  | at_ sd xs n =>
    obtain ⟨t, k, rfl, ht, hk⟩ := hc
    have hxl := KeyOk.lay hck
    refine sxs_cons (sx_if ?_)
    walk_at "ex"
    refine c_len (.inr (SqT.of ht)) ?_
    walk_at "ex"
    refine ifD (fun h => absurd h (by show ¬ V.int 2 = V.int 1; decide)) (fun _ => ?_)
    refine sxs_nil (sxs_cons ?_)
    walk_at "s"
    walk_at "ex"
    refine sxs_cons (sx_forL (by walk_at "po") (by rfl) (by intro _; rfl) ?_)
    walk_at "ex"
    refine ⟨p, ws, rfl, sqp, fun j σ H' => (∃ o5 o6, σ = [some (.ref a), some (.ref b), some (.ref p), some (.ref t), some (.int ((rs.take j).countP (laR cs os (.at_ sd xs n)) : Nat)), o5, o6]) ∧ Same H H', ⟨⟨_, _, rfl⟩, Same.refl _⟩, fun j σ' H' _ hP => hP.2.seq sqp, fun j x σ' H1 hx hP => ?_, fun σ' H1 hP => ?_⟩
    · obtain ⟨⟨o5, o6, rfl⟩, s1⟩ := hP
      obtain ⟨r, hr, hrow⟩ := hws.get hx
      have hrf := hL.fit r (List.mem_of_getElem? hr)
      have kr := key_ok hrf hL.inc
      have krl := kr.lay
      refine eg_name nd (by rfl) (.inl rfl) (.inl rfl) ?_
      refine sxs_cons ?_
      walk_at "s"
      walk_at "ex"
      refine ⟨a, b, x, cs, os, r, rfl, hC.same s1, hO.same s1, hrow.same s1, (All2.len hrf).symm, by omega, by omega, hL.inc, fun kp kl H2 s2 _ _ hkp hkl => ?_⟩
      have s12 := s1.trans s2
      have htk : (rs.take (j + 1)).countP (laR cs os (.at_ sd xs n)) = (rs.take j).countP (laR cs os (.at_ sd xs n)) + (if laR cs os (.at_ sd xs n) r = true then 1 else 0) := by
        rw [List.take_add_one, hr, List.countP_append]
        congr 1
        show List.countP _ [r] = _
        rw [List.countP_cons, List.countP_nil, Nat.zero_add]
      have hown : laR cs os (.at_ sd xs n) r = (aheadF os (keyL cs os r.2) xs r.1 n || (!sd && decide (keyL cs os r.2 = xs ∧ r.1 = n))) := la_own kr hck
      obtain ⟨x1, x2, x3⟩ := kr.like hck
      refine sxs_one (sx_if ?_)
      walk_at "ex"
      refine i_tup (SqT.of (s12 _ _ ht)) (show atI [V.str (sideS sd), .ref k] 1 = some (V.ref k) from rfl) ?_
      walk_at "ex"
      refine ⟨b, kp, k, os, _, xs, r.1, n, rfl, hO.same s12, ⟨kl, hkp, hkl⟩, hk.same s12, x1, x2, o4, x3, fun H3 s3 => ?_⟩
      have s13 := s12.trans s3
      cases ha : aheadF os (keyL cs os r.2) xs r.1 n with
      | true =>
        rw [ha, Bool.true_or] at hown
        rw [hown, if_pos rfl] at htk
        walk_at "ex"
        refine sxs_one ?_
        walk_at "s"
        walk_at "ex"
        refine ⟨⟨some x, some (.ref kp), ?_⟩, s13⟩
        rw [htk]
        rfl
      | false =>
        rw [ha, Bool.false_or] at hown
        walk_at "ex"
        refine i_tup (SqT.of (s13 _ _ ht)) (show atI [V.str (sideS sd), .ref k] 0 = some (V.str (sideS sd)) from rfl) ?_
        walk_at "ex"
        cases sd with
        | true =>
          refine ifD (fun h => absurd h (by decide +kernel)) (fun _ => ?_)
          rw [show (!true && decide (keyL cs os r.2 = xs ∧ r.1 = n)) = false from rfl] at hown
          rw [hown, if_neg Bool.false_ne_true, Nat.add_zero] at htk
          refine sxs_nil ⟨⟨some x, some (.ref kp), ?_⟩, s13⟩
          rw [htk]
          rfl
        | false =>
          rw [show (!false && decide (keyL cs os r.2 = xs ∧ r.1 = n)) = decide (keyL cs os r.2 = xs ∧ r.1 = n) from rfl] at hown
          refine ifD (fun _ => ?_) (fun h => absurd rfl h)
          walk_at "ex"
          refine i_tup (SqT.of (s13 _ _ ht)) (show atI [V.str (sideS false), .ref k] 1 = some (V.ref k) from rfl) ?_
          walk_at "ex"
          refine o_eqD hu (ky_rd ⟨kl, s3 _ _ hkp, s3 _ _ hkl⟩ krl) (ky_rd (hk.same s13) hxl) (ky_lay krl) (ky_lay hxl) (by have := ky_dep (keyL cs os r.2) r.1; omega) ?_
          rw [eqv_ky (fun x hx => (krl x hx).1) fun x hx => (hxl x hx).1, ← hown]
          refine ⟨_, rfl, ?_⟩
          cases hb : laR cs os (.at_ false xs n) r with
          | true =>
            rw [hb, if_pos rfl] at htk
            refine sxs_one ?_
            walk_at "s"
            walk_at "ex"
            refine ⟨⟨some x, some (.ref kp), ?_⟩, s13⟩
            rw [htk]
            rfl
          | false =>
            rw [hb, if_neg Bool.false_ne_true, Nat.add_zero] at htk
            refine sxs_nil ⟨⟨some x, some (.ref kp), ?_⟩, s13⟩
            rw [htk]
            rfl
    · obtain ⟨⟨o5, o6, rfl⟩, s1⟩ := hP
      rw [hwl, List.take_length]
      refine sxs_one (sx_ret ?_)
      walk_at "ex"
      exact q H1 s1
/-- cuts of the law -/
def spCut6 (K : PySem.W.Frag) : Sp := fun vs H Q _ => ∃ (a c b p : Addr) (ns : List Int) (cs : List Col) (os : List Ord) (rs : List Row), vs = [.ref a, .ref c, .ref b, .ref p] ∧ SqL K H a (ns.map V.int) ∧ ns.length ≤ 63 ∧ Cols H c cs ∧ Ords H b os ∧ Rws H p rs ∧ LineOk cs os rs ∧ ∀ v ct H', Same H H' → CtAt H' v ct → CtOk cs os ct → Q v H'
theorem d__law_cut (T : Txt K mg) : Def P w K mg base true 4 "_law_cut" ["_law_script", "_law_columns_here", "_law_order_here", "_law_line_here"] (spCut6 K) := by
  refine df__law_cut T (fun vs H Q E h => by obtain ⟨a, c, b, p, ns, cs, os, rs, rfl, _⟩ := h; rfl) (fun f cdv A outer s H vs Q E hr h => ?_)
  obtain ⟨a, c, b, p, ns, cs, os, rs, rfl, hS, hl, hC, hO, hR, hL, q⟩ := h
  have nd := sc__law_cut.nd
  have n1 := T.n_len
  have hsz : sizeLine = 16777216 := sizeLine_eq
  have D0 : Def P w K mg base true 1 "_law_draw" ["_law_script", "_law_k", "_law_many"] (spDraw K) := d__law_draw T
  have D1 : Def P w K mg base true 1 "_law_key" ["_law_columns_here", "_law_order_here", "_law_one"] (spKey2 K) := d__law_key T
  have D2 : Def P w K mg base true 3 "_law_values" ["_law_script", "_law_k", "_law_columns_here"] (spValues2 K) := d__law_values T
  obtain ⟨c1, c6⟩ := hL.cols
  have o4 := hL.ords
  have few := hL.few
  refine sxs_cons ?_
  walk_at "s"
  walk_at "ex"
  refine ⟨a, ns, 30, 6, rfl, hS, hl, by decide, by decide, by decide, ?_⟩
  have w0 := drawF_nn ns 30 (m := 6) (by decide)
  have w1 := drawF_lt ns 30 (m := 6) (by decide)
  generalize drawF ns 30 6 = wy at w0 w1 ⊢
  obtain ⟨wn, rfl⟩ := Int.eq_ofNat_of_zero_le w0
  refine sxs_cons (sx_if ?_)
  walk_at "ex"
  refine ifD (fun h2 => ?_) (fun h2 => ?_)
  · refine sxs_one (sx_ret ?_)
    walk_at "ex"
    refine ⟨by show 2 ≤ sizeLine; omega, fun y hy => ?_⟩
    have sy : Same H (upd H y (.lst [.str (Str.ofString "start"), .str (Str.ofString "end")])) := Same.upd hy
    have ey : (upd H y (.lst [.str (Str.ofString "start"), .str (Str.ofString "end")])) y = some (.lst [.str (Str.ofString "start"), .str (Str.ofString "end")]) := upd_same
    generalize upd H y (.lst [.str (Str.ofString "start"), .str (Str.ofString "end")]) = H1 at sy ey ⊢
    walk_at "ex"
    match wn, h2 with
    | 0, _ =>
      refine i_list (SqL.of ey) (i := 0) rfl ?_
      walk_at "ex"
      refine ⟨by show 1 ≤ sizeLine; omega, fun t ht => ?_⟩
      exact q _ .start _ (sy.trans (Same.upd ht)) ⟨t, rfl, upd_same⟩ trivial
    | 1, _ =>
      refine i_list (SqL.of ey) (i := 1) rfl ?_
      walk_at "ex"
      refine ⟨by show 1 ≤ sizeLine; omega, fun t ht => ?_⟩
      exact q _ .fin _ (sy.trans (Same.upd ht)) ⟨t, rfl, upd_same⟩ trivial
    | k + 2, h => exact absurd h (by omega)
  -- the row whose key it is
  have tail : ∀ (u : V) (r : Row) (H2 : Hp), Same H H2 → RowAt H2 u r → fitK cs r → SXs (CxF true P w K mg base N__law_cut "_law_cut" (defScope s__law_cut) f cdv A outer s H E) ((defBody s__law_cut).drop 4) { nx := fun _ H' => Q .non H', rt := Q } [some (.ref a), some (.ref c), some (.ref b), some (.ref p), some (.int wn), some u] H2 := fun u r H2 s2 hu hf => by
    refine sxs_one (sx_ret ?_)
    walk_at "ex"
    refine ⟨by show 2 ≤ sizeLine; omega, fun y hy => ?_⟩
    have sy : Same H2 (upd H2 y (.lst [.str (Str.ofString "ahead"), .str (Str.ofString "behind")])) := Same.upd hy
    have ey : (upd H2 y (.lst [.str (Str.ofString "ahead"), .str (Str.ofString "behind")])) y = some (.lst [.str (Str.ofString "ahead"), .str (Str.ofString "behind")]) := upd_same
    generalize upd H2 y (.lst [.str (Str.ofString "ahead"), .str (Str.ofString "behind")]) = H3 at sy ey ⊢
    have s3 := s2.trans sy
    walk_at "ex"
    refine ⟨a, ns, 29, 2, rfl, s3.seq hS, hl, by decide, by decide, by decide, ?_⟩
    have d0 := drawF_nn ns 29 (m := 2) (by decide)
    have d1 := drawF_lt ns 29 (m := 2) (by decide)
    have ha : ∃ sd, atI [V.str (Str.ofString "ahead"), .str (Str.ofString "behind")] (drawF ns 29 2) = some (.str (sideS sd)) := by
      by_cases h : drawF ns 29 2 = 0
      · exact ⟨true, by rw [h]; rfl⟩
      · exact ⟨false, by rw [show drawF ns 29 2 = 1 by omega]; rfl⟩
    obtain ⟨sd, ha⟩ := ha
    refine i_list (SqL.of ey) ha ?_
    walk_at "ex"
    refine ⟨c, b, u, cs, os, r, rfl, hC.same s3, hO.same s3, hu.same sy, (All2.len hf).symm, by omega, by omega, hL.inc, fun kp kl H4 s4 _ _ hkp hkl => ?_⟩
    walk_at "ex"
    refine ⟨by show 2 ≤ sizeLine; omega, fun t ht => ?_⟩
    have s5 : Same H4 (upd H4 t (.tup [.str (sideS sd), .ref kp])) := Same.upd ht
    exact q _ (.at_ sd (keyL cs os r.2) r.1) _ ((s3.trans s4).trans s5) ⟨t, kp, rfl, upd_same, kl, s5 _ _ hkp, s5 _ _ hkl⟩ (key_ok hf hL.inc)
  refine sxs_nil (sxs_cons ?_)
  walk_at "s"
  walk_at "ex"
  refine ⟨by show 4 ≤ sizeLine; omega, fun y hy => ?_⟩
  have sy : Same H (upd H y (.lst [.int 3, .int 0, .int 7, .int 1000000000])) := Same.upd hy
  have ey : (upd H y (.lst [.int 3, .int 0, .int 7, .int 1000000000])) y = some (.lst [.int 3, .int 0, .int 7, .int 1000000000]) := upd_same
  show EV _ _ _ (upd H y (.lst [.int 3, .int 0, .int 7, .int 1000000000])) _
  generalize upd H y (.lst [.int 3, .int 0, .int 7, .int 1000000000]) = H1 at sy ey ⊢
  walk_at "ex"
  refine ⟨a, ns, 31, 4, rfl, sy.seq hS, hl, by decide, by decide, by decide, ?_⟩
  have d0 := drawF_nn ns 31 (m := 4) (by decide)
  have d1 := drawF_lt ns 31 (m := 4) (by decide)
  obtain ⟨i, ei⟩ := Int.eq_ofNat_of_zero_le d0
  rw [ei] at d1 ⊢
  have hnum : ∃ nb, [V.int 3, .int 0, .int 7, .int 1000000000][i]? = some (.int nb) := by
    match i, d1 with
    | 0, _ => exact ⟨_, rfl⟩
    | 1, _ => exact ⟨_, rfl⟩
    | 2, _ => exact ⟨_, rfl⟩
    | 3, _ => exact ⟨_, rfl⟩
    | k + 4, h => exact absurd h (by omega)
  obtain ⟨nb, hnb⟩ := hnum
  refine i_list (SqL.of ey) (atI_nat hnb) ?_
  walk_at "ex"
  refine ⟨a, ns, 32, c, cs, rfl, sy.seq hS, hl, by decide, by decide, hC.same sy, c6, fun l xs H2 s2 hln hl2 hall => ?_⟩
  walk_at "ex"
  refine ⟨by show 2 ≤ sizeLine; omega, fun t ht => ?_⟩
  have s3 : Same H2 (upd H2 t (.tup [.int nb, .ref l])) := Same.upd ht
  have e3 : (upd H2 t (.tup [.int nb, .ref l])) t = some (.tup [.int nb, .ref l]) := upd_same
  generalize upd H2 t (.tup [.int nb, .ref l]) = H3 at s3 e3 ⊢
  have s13 := (sy.trans s2).trans s3
  have hrow : RowAt H3 (.ref t) (nb, xs) := ⟨t, l, rfl, e3, s3 _ _ hl2⟩
  obtain ⟨ws, hp, hws⟩ := hR.same s13
  have hwl := hws.len
  have sqp : SqL K H3 p ws := SqL.of hp
  refine sxs_cons (sx_if ?_)
  walk_at "ex"
  refine ifD (fun hpos => ?_) (fun _ => sxs_nil (tail _ _ H3 s13 hrow hall))
  walk_at "ex"
  refine ifD (fun _ => ?_) (fun _ => sxs_nil (tail _ _ H3 s13 hrow hall))
  have hpos' : 0 < ws.length := by omega
  refine sxs_one ?_
  walk_at "s"
  walk_at "ex"
  refine ⟨a, ns, 33, _, rfl, s13.seq hS, hl, by decide, by decide, by omega, ?_⟩
  have f0 := drawF_nn ns 33 (m := (ws.length : Int)) (by omega)
  have f1 := drawF_lt ns 33 (m := (ws.length : Int)) (by omega)
  obtain ⟨j, ej⟩ := Int.eq_ofNat_of_zero_le f0
  rw [ej] at f1 ⊢
  have hj : j < ws.length := by omega
  obtain ⟨r, hr, hrow2⟩ := hws.get (List.getElem?_eq_getElem hj)
  refine i_list sqp (atI_nat (List.getElem?_eq_getElem hj)) ?_
  exact tail _ r H3 s13 hrow2 (hL.fit r (List.mem_of_getElem? hr))
end
end K60

namespace K60
open PySem L2 PyProof.Rows My Vl Lw
section
variable {P : Program} {w : World} {K : PySem.W.Frag} {mg : Str → Option Value} {base : Heap}
theorem atI_end {xs : List V} {x : V} (h : xs[xs.length - 1]? = some x) : atI xs (-1) = some x := by
  have e : xs.getLast? = some x := by rw [List.getLast?_eq_getElem?]; exact h
  obtain ⟨ys, rfl⟩ := List.getLast?_eq_some_iff.mp e
  exact L2.atI_last ys x
def spDue6 (K : PySem.W.Frag) : Sp := fun vs H Q _ => ∃ (a b p : Addr) (v : V) (cs : List Col) (os : List Ord) (rs : List Row) (c : Ct) (i j : Nat), vs = [.ref a, .ref b, .ref p, v, .int i, .int j] ∧ Cols H a cs ∧ Ords H b os ∧ Rws H p rs ∧ CtAt H v c ∧ LineOk cs os rs ∧ i ≤ j ∧ j ≤ rs.length ∧
  ∀ (t q : Addr) (x y : V) H', Same H H' → H' t = some (.tup [.ref q, x, y, .int i]) → Rws H' q (leafB cs os rs c i j).rows → CtV H' x (leafB cs os rs c i j).back → CtV H' y (leafB cs os rs c i j).forth → Q (.ref t) H'
theorem d__law_due (T : Txt K mg) : Def P w K mg base true 2 "_law_due" ["_law_columns_here", "_law_order_here", "_law_line_here", "_law_cut_here", "_law_first", "_law_after"] (spDue6 K) := by
  refine df__law_due T (fun vs H Q E h => by obtain ⟨a, b, p, v, cs, os, rs, c, i, j, rfl, _⟩ := h; rfl) (fun f cdv A outer s H vs Q E hr h => ?_)
  obtain ⟨a, b, p, v, cs, os, rs, c, i, j, rfl, hC, hO, ⟨ws, hp, hws⟩, hc, hL, hij, hj, q⟩ := h
  have nd := sc__law_due.nd
  have n1 := T.n_len
  have hsz : sizeLine = 16777216 := sizeLine_eq
  have D1 : Def P w K mg base true 1 "_law_key" ["_law_columns_here", "_law_order_here", "_law_one"] (spKey2 K) := d__law_key T
  have hwl := hws.len
  obtain ⟨c1, c6⟩ := hL.cols
  have o4 := hL.ords
  have few := hL.few
  refine sxs_cons ?_
  walk_at "s"
  walk_at "ex"
  refine s_list (SqL.of hp) fun q0 hq0 => ?_
  rw [cutV_mid ws i j hij (by omega)]
  have s1 : Same H (upd H q0 (.lst (sliceL ws i j))) := Same.upd hq0
  have e1 : (upd H q0 (.lst (sliceL ws i j))) q0 = some (.lst (sliceL ws i j)) := upd_same
  generalize upd H q0 (.lst (sliceL ws i j)) = H1 at s1 e1 ⊢
  have hsl : All2 (RowAt H1) (sliceL ws i j) (sliceL rs i j) := (all2_slice hws).imp fun u r x => x.same s1
  have hll := hsl.len
  have hlr : (sliceL rs i j).length = j - i := by
    unfold sliceL
    rw [List.length_take, List.length_drop]
    omega
  have hfs : ∀ r ∈ sliceL rs i j, fitK cs r := fun r hr => hL.fit r (List.mem_of_mem_drop (List.mem_of_mem_take hr))
  have hbk : (leafB cs os rs c i j).back = if 0 < i then some (besideC cs os true ((sliceL rs i j).take 1) c) else none := rfl
  have hfo : (leafB cs os rs c i j).forth = if j < rs.length then some (besideC cs os false ((sliceL rs i j).drop ((sliceL rs i j).length - 1)) c) else none := rfl
  have hrw : (leafB cs os rs c i j).rows = sliceL rs i j := rfl
  generalize (leafB cs os rs c i j).back = bk at hbk q
  generalize (leafB cs os rs c i j).forth = fo at hfo q
  rw [hrw] at q
  generalize sliceL ws i j = us at e1 hsl hll
  generalize sliceL rs i j = ls at hsl hll hlr hfs hbk hfo q
  have squ : SqL K H1 q0 us := SqL.of e1
  have sqp : SqL K H1 p ws := SqL.of (s1 _ _ hp)
  have tail3 : ∀ (x y : V) (H2 : Hp), Same H1 H2 → CtV H2 x bk → CtV H2 y fo → SXs (CxF true P w K mg base N__law_due "_law_due" (defScope s__law_due) f cdv A outer s H E) ((defBody s__law_due).drop 5) { nx := fun _ H' => Q .non H', rt := Q } [some (.ref a), some (.ref b), some (.ref p), some v, some (.int i), some (.int j), some (.ref q0), some x, some y] H2 := fun x y H2 s2 hx hy => by
    refine sxs_one (sx_ret ?_)
    walk_at "ex"
    refine ⟨by show 4 ≤ sizeLine; omega, fun t ht => ?_⟩
    have s3 : Same H2 (upd H2 t (.tup [.ref q0, x, y, .int i])) := Same.upd ht
    have s23 := s2.trans s3
    exact q t q0 x y _ (s1.trans s23) upd_same ⟨us, s23 _ _ e1, hsl.imp fun u r z => z.same s23⟩ (hx.same s3) (hy.same s3)
  have tail2 : ∀ (x y : V) (H2 : Hp), Same H1 H2 → CtV H2 x bk → CtV H2 y (if j < rs.length then some c else none) → SXs (CxF true P w K mg base N__law_due "_law_due" (defScope s__law_due) f cdv A outer s H E) ((defBody s__law_due).drop 4) { nx := fun _ H' => Q .non H', rt := Q } [some (.ref a), some (.ref b), some (.ref p), some v, some (.int i), some (.int j), some (.ref q0), some x, some y] H2 := fun x y H2 s2 hx hy => by
    have squ2 := s2.seq squ
    have sqp2 := s2.seq sqp
    refine sxs_cons (sx_if ?_)
    walk_at "ex"
    refine ifD (fun hpos => ?_) (fun hpos => ?_)
    · walk_at "ex"
      rw [hwl]
      refine ifD (fun hlt => ?_) (fun hlt => ?_)
      · have hlt' : j < rs.length := by omega
        have hul : us.length - 1 < ls.length := by omega
        obtain ⟨wv, gw, hrow⟩ := hsl.get' (List.getElem?_eq_getElem hul)
        have hf := hfs _ (List.getElem_mem hul)
        have hlast : ls.drop (ls.length - 1) = [ls[us.length - 1]] := by
          rw [← hll]
          rw [List.drop_eq_getElem_cons hul, List.drop_eq_nil_of_le (by omega)]
        generalize ls[us.length - 1] = r at hrow hf hlast
        refine sxs_one ?_
        walk_at "s"
        walk_at "ex"
        refine i_list squ2 (atI_end gw) ?_
        walk_at "ex"
        refine ⟨a, b, wv, cs, os, r, rfl, hC.same (s1.trans s2), hO.same (s1.trans s2), hrow.same s2, (All2.len hf).symm, by omega, by omega, hL.inc, fun kp kl H3 s3 _ _ hkp hkl => ?_⟩
        walk_at "ex"
        refine ⟨by show 2 ≤ sizeLine; omega, fun t ht => ?_⟩
        have s4 : Same H3 (upd H3 t (.tup [.str (Str.ofString "behind"), .ref kp])) := Same.upd ht
        refine tail3 _ _ _ ((s2.trans s3).trans s4) ((hx.same s3).same s4) ?_
        rw [hfo, if_pos hlt', hlast]
        exact ⟨t, kp, rfl, upd_same, kl, s4 _ _ hkp, s4 _ _ hkl⟩
      · refine sxs_nil (tail3 _ _ _ s2 hx ?_)
        rw [if_neg (by omega)] at hy
        rw [hfo, if_neg (by omega)]
        exact hy
    · refine sxs_nil (tail3 _ _ _ s2 hx ?_)
      have hnil : ls = [] := List.eq_nil_of_length_eq_zero (by omega)
      rw [hfo, hnil]
      exact hy
  have tail1 : ∀ (x y : V) (H2 : Hp), Same H1 H2 → CtV H2 x (if 0 < i then some c else none) → CtV H2 y (if j < rs.length then some c else none) → SXs (CxF true P w K mg base N__law_due "_law_due" (defScope s__law_due) f cdv A outer s H E) ((defBody s__law_due).drop 3) { nx := fun _ H' => Q .non H', rt := Q } [some (.ref a), some (.ref b), some (.ref p), some v, some (.int i), some (.int j), some (.ref q0), some x, some y] H2 := fun x y H2 s2 hx hy => by
    have squ2 := s2.seq squ
    refine sxs_cons (sx_if ?_)
    walk_at "ex"
    refine ifD (fun hpos => ?_) (fun hpos => ?_)
    · walk_at "ex"
      refine ifD (fun hlt => ?_) (fun hlt => ?_)
      · have hlt' : 0 < i := by omega
        have hul : 0 < ls.length := by omega
        obtain ⟨wv, gw, hrow⟩ := hsl.get' (List.getElem?_eq_getElem hul)
        have hf := hfs _ (List.getElem_mem hul)
        have hfirst : ls.take 1 = [ls[0]] := by
          cases ls with
          | nil => exact absurd hul (by simp)
          | cons r ls => rfl
        generalize ls[0] = r at hrow hf hfirst
        refine sxs_one ?_
        walk_at "s"
        walk_at "ex"
        refine i_list squ2 (show atI us ((0 : Nat) : Int) = some wv from atI_nat gw) ?_
        walk_at "ex"
        refine ⟨a, b, wv, cs, os, r, rfl, hC.same (s1.trans s2), hO.same (s1.trans s2), hrow.same s2, (All2.len hf).symm, by omega, by omega, hL.inc, fun kp kl H3 s3 _ _ hkp hkl => ?_⟩
        walk_at "ex"
        refine ⟨by show 2 ≤ sizeLine; omega, fun t ht => ?_⟩
        have s4 : Same H3 (upd H3 t (.tup [.str (Str.ofString "ahead"), .ref kp])) := Same.upd ht
        refine tail2 _ _ _ ((s2.trans s3).trans s4) ?_ ((hy.same s3).same s4)
        rw [hbk, if_pos hlt', hfirst]
        exact ⟨t, kp, rfl, upd_same, kl, s4 _ _ hkp, s4 _ _ hkl⟩
      · refine sxs_nil (tail2 _ _ _ s2 ?_ hy)
        rw [if_neg (by omega)] at hx
        rw [hbk, if_neg (by omega)]
        exact hx
    · refine sxs_nil (tail2 _ _ _ s2 ?_ hy)
      have hnil : ls = [] := List.eq_nil_of_length_eq_zero (by omega)
      rw [hbk, hnil]
      exact hx
  have tail0 : ∀ (x : V), CtV H1 x (if 0 < i then some c else none) → SXs (CxF true P w K mg base N__law_due "_law_due" (defScope s__law_due) f cdv A outer s H E) ((defBody s__law_due).drop 2) { nx := fun _ H' => Q .non H', rt := Q } [some (.ref a), some (.ref b), some (.ref p), some v, some (.int i), some (.int j), some (.ref q0), some x, none] H1 := fun x hx => by
    refine sxs_cons ?_
    walk_at "s"
    walk_at "ex"
    rw [hwl]
    refine ifD (fun hlt => ?_) (fun hlt => ?_)
    · walk_at "ex"
      refine tail1 _ _ _ (Same.refl _) hx ?_
      rw [if_pos (by omega)]
      exact hc.same s1
    · walk_at "ex"
      refine tail1 _ _ _ (Same.refl _) hx ?_
      rw [if_neg (by omega)]
      rfl
  refine sxs_cons ?_
  walk_at "s"
  walk_at "ex"
  refine ifD (fun hlt => ?_) (fun hlt => ?_)
  · walk_at "ex"
    refine tail0 _ ?_
    rw [if_pos (by omega)]
    exact hc.same s1
  · walk_at "ex"
    refine tail0 _ ?_
    rw [if_neg (by omega)]
    rfl
end
end K60

namespace K60
open PySem L2 PyProof.Rows My Vl Lw
section
variable {P : Program} {w : World} {K : PySem.W.Frag} {mg : Str → Option Value} {base : Heap}
def dCt : Option Ct → PyData
  | none => .none
  | some .start => .tuple [.str "start"]
  | some .fin => .tuple [.str "end"]
  | some (.at_ sd xs n) => .tuple [.str (sideS sd), dKy xs n]
def dLf (L : Lf) : PyData := .tuple [.list (L.rows.map dRw), dCt L.back, dCt L.forth, .int L.start]
def CoOk (cs : List Col) (os : List Ord) (c : Option Ct) : Prop := ∀ d, c = some d → CtOk cs os d
theorem ct_rd {cs : List Col} {os : List Ord} {H : Hp} {v : V} {c : Option Ct} (h : CtV H v c) (g : CoOk cs os c) : RD K H v (dCt c) := by
  cases c with
  | none => cases h; exact .non
  | some c =>
    have g' := g c rfl
    cases c with
    | start => obtain ⟨t, rfl, ht⟩ := h; exact .tup (SqT.of ht) (.cons (.str _) .nil)
    | fin => obtain ⟨t, rfl, ht⟩ := h; exact .tup (SqT.of ht) (.cons (.str _) .nil)
    | at_ sd xs n => obtain ⟨t, k, rfl, ht, hk⟩ := h; exact .tup (SqT.of ht) (.cons (.str _) (.cons (ky_rd hk (KeyOk.lay g')) .nil))
theorem ct_lay {cs : List Col} {os : List Ord} {c : Option Ct} (g : CoOk cs os c) : (dCt c).canLay0 = true := by
  cases c with
  | none => rfl
  | some c =>
    have g' := g c rfl
    cases c with
    | start => decide +kernel
    | fin => decide +kernel
    | at_ sd xs n =>
      show ((PyData.str (sideS sd)).canLay0 && ((dKy xs n).canLay0 && true)) = true
      rw [ky_lay (KeyOk.lay g')]
      cases sd <;> decide +kernel
theorem ct_dep (c : Option Ct) : (dCt c).depth ≤ 6 := by
  cases c with
  | none => decide
  | some c =>
    cases c with
    | start => decide
    | fin => decide
    | at_ sd xs n =>
      have := ky_dep xs n
      show (PyData.tuple [.str (sideS sd), dKy xs n]).depth ≤ 6
      simp only [PyData.depth, PyData.depthAll]
      omega
structure LfOk (cs : List Col) (os : List Ord) (L : Lf) : Prop where
  rows : ∀ r ∈ L.rows, fitK cs r
  back : CoOk cs os L.back
  forth : CoOk cs os L.forth
theorem leafB_ok {cs : List Col} {os : List Ord} {rs : List Row} {c : Ct} {i j : Nat} (hL : LineOk cs os rs) (hc : CtOk cs os c) : LfOk cs os (leafB cs os rs c i j) := by
  have hf : ∀ r ∈ sliceL rs i j, fitK cs r := fun r hr => hL.fit r (List.mem_of_mem_drop (List.mem_of_mem_take hr))
  have hb : ∀ (sd : Bool) (ls : List Row), (∀ r ∈ ls, fitK cs r) → CtOk cs os (besideC cs os sd ls c) := fun sd ls h => by
    cases ls with
    | nil => exact hc
    | cons r ls => exact key_ok (h r (by simp)) hL.inc
  refine ⟨hf, fun d e => ?_, fun d e => ?_⟩
  · have e' : (if 0 < i then some (besideC cs os true ((sliceL rs i j).take 1) c) else none) = some d := e
    split at e'
    · cases e'; exact hb _ _ fun r hr => hf r (List.mem_of_mem_take hr)
    · cases e'
  · have e' : (if j < rs.length then some (besideC cs os false ((sliceL rs i j).drop ((sliceL rs i j).length - 1)) c) else none) = some d := e
    split at e'
    · cases e'; exact hb _ _ fun r hr => hf r (List.mem_of_mem_drop hr)
    · cases e'
theorem lf_rd {cs : List Col} {os : List Ord} {H : Hp} {t q : Addr} {x y : V} {L : Lf} (ht : H t = some (.tup [.ref q, x, y, .int L.start])) (hq : Rws H q L.rows) (hx : CtV H x L.back) (hy : CtV H y L.forth) (g : LfOk cs os L) : RD K H (.ref t) (dLf L) :=
  .tup (SqT.of ht) (.cons (rows_rd hq g.rows) (.cons (ct_rd hx g.back) (.cons (ct_rd hy g.forth) (.cons (.int _) .nil))))
theorem lf_lay {cs : List Col} {os : List Ord} {L : Lf} (g : LfOk cs os L) : (dLf L).canLay0 = true := by
  show ((PyData.list (L.rows.map dRw)).canLay0 && ((dCt L.back).canLay0 && ((dCt L.forth).canLay0 && (true && true)))) = true
  rw [rows_lay g.rows, ct_lay g.back, ct_lay g.forth]
  rfl
theorem lf_dep (L : Lf) : (dLf L).depth ≤ 60 := by
  have h1 := rows_depA L.rows
  have h2 := ct_dep L.back
  have h3 := ct_dep L.forth
  simp only [dLf, PyData.depth, PyData.depthAll]
  omega
/-- the lists of the values in these rows -/
def inL (H : Hp) (us : List V) (b : Addr) : Prop := ∃ u ∈ us, ∃ t x, u = .ref t ∧ H t = some (.tup [x, .ref b])
def Mut (H1 : Hp) (us : List V) (H' : Hp) (n : Nat) : Prop := (∀ b o, H1 b = some o → ¬ inL H1 us b → H' b = some o) ∧ ∀ b, inL H1 us b → ∃ xs, H' b = some (.lst xs) ∧ xs.length ≤ n
theorem Mut.step {H1 H' : Hp} {us : List V} {n : Nat} {l : Addr} {v : V} {xs : List V} (h : Mut H1 us H' n) (hl : inL H1 us l) (e : H' l = some (.lst xs)) : Mut H1 us (upd H' l (.lst (xs ++ [v]))) (n + 1) := by
  refine ⟨fun b o e1 e2 => ?_, fun b hb => ?_⟩
  · have hne : b ≠ l := fun e => e2 (e ▸ hl)
    rw [upd_ne hne]
    exact h.1 b o e1 e2
  · by_cases hbl : b = l
    · subst hbl
      obtain ⟨ys, e1, e2⟩ := h.2 b hb
      rw [e] at e1
      cases e1
      exact ⟨_, upd_same, by rw [List.length_append, List.length_singleton]; omega⟩
    · obtain ⟨ys, e1, e2⟩ := h.2 b hb
      exact ⟨ys, by rw [upd_ne hbl]; exact e1, by omega⟩
theorem inL_new {q : Addr} {H2 H3 : Hp} {us : List V} {rs : List Row} {b : Addr} (h : All2 (RowNew q H2 H3) us rs) (hb : inL H3 us b) : H2 b = none ∧ b ≠ q ∧ ∃ r ∈ rs, H3 b = some (.lst r.2) := by
  obtain ⟨u, hu, t, x, e, ht⟩ := hb
  obtain ⟨i, hi, e'⟩ := List.getElem_of_mem hu
  obtain ⟨r, hr, t', l, e2, _, h4, h5, h6, h7⟩ := h.get (show us[i]? = some u by rw [← e']; exact List.getElem?_eq_getElem hi)
  rw [e] at e2
  cases e2
  rw [h6] at ht
  cases ht
  exact ⟨h4, h5, r, List.mem_of_getElem? hr, h7⟩
theorem Mut.init {q : Addr} {H2 H3 : Hp} {us : List V} {rs : List Row} {n : Nat} (h : All2 (RowNew q H2 H3) us rs) (hn : ∀ r ∈ rs, r.2.length ≤ n) : Mut H3 us H3 n :=
  ⟨fun b o e _ => e, fun b hb => by
    obtain ⟨_, _, r, hr, e⟩ := inL_new h hb
    exact ⟨_, e, hn r hr⟩⟩
def spTold6 (K : PySem.W.Frag) : Sp := fun vs H Q _ => ∃ (a b p : Addr) (v : V) (cs : List Col) (os : List Ord) (rs : List Row) (c : Ct) (n : Nat) (fw : Bool), vs = [.ref a, .ref b, .ref p, v, .int n, .bl fw] ∧ Cols H a cs ∧ Ords H b os ∧ Rws H p rs ∧ CtAt H v c ∧ LineOk cs os rs ∧ CtOk cs os c ∧ 1 ≤ n ∧ n ≤ 100 ∧ ∀ H', Same H H' → Q (.bl true) H'
theorem d__law_is_told (T : Txt K mg) : Def P w K mg base true 6 "_law_is_told" ["_law_columns_here", "_law_order_here", "_law_line_here", "_law_cut_here", "_law_size", "_law_forth"] (spTold6 K) := by
  refine df__law_is_told T (fun vs H Q E h => by obtain ⟨a, b, p, v, cs, os, rs, c, n, fw, rfl, _⟩ := h; rfl) (fun f cdv A outer s H vs Q E hr h => ?_)
  obtain ⟨a, b, p, v, cs, os, rs, c, n, fw, rfl, hC, hO, hR, hc, hL, hck, n1, n100, q⟩ := h
  have nd := sc__law_is_told.nd
  have b1 := T.n_len
  have b2 := T.n_min
  have b3 := T.n_max
  have b4 := T.n_list
  have b5 := T.n_range
  have b6 := T.n_isinstance
  have b7 := T.n_tuple
  have hu := hr.units
  have hsz : sizeLine = 16777216 := sizeLine_eq
  have nd2 : (["_law_row", "_law_values_here"] : List Str).Nodup := by decide +kernel
  have D1 : Def P w K mg base true 2 "_law_place" ["_law_columns_here", "_law_order_here", "_law_line_here", "_law_cut_here"] (spPlace6 K) := d__law_place T
  have D2 : Def P w K mg base true 2 "_law_due" ["_law_columns_here", "_law_order_here", "_law_line_here", "_law_cut_here", "_law_first", "_law_after"] (spDue6 K) := d__law_due T
  have D3 : Def P w K mg base true 5 "leaf_forth" ["columns", "order", "line", "cut", "size"] (spLeaf K leafF) := d_leaf_forth T
  have D4 : Def P w K mg base true 5 "leaf_back" ["columns", "order", "line", "cut", "size"] (spLeaf K leafR) := d_leaf_back T
  obtain ⟨c1, c6⟩ := hL.cols
  have o4 := hL.ords
  have few := hL.few
  have ple := placeC_le (cs := cs) (os := os) (c := c) (rs := rs)
  refine sxs_cons ?_
  walk_at "s"
  walk_at "ex"
  refine ⟨a, b, p, v, cs, os, rs, c, rfl, hC, hO, hR, hc, hL, hck, fun H1 s1 => ?_⟩
  have rest : ∀ (L : Lf), L = (if fw = true then leafF cs os rs c n else leafR cs os rs c n) → ∀ (t q0 : Addr) (x y : V) (H2 : Hp), Same H H2 → H2 t = some (.tup [.ref q0, x, y, .int L.start]) → Rws H2 q0 L.rows → CtV H2 x L.back → CtV H2 y L.forth → SXs (CxF true P w K mg base N__law_is_told "_law_is_told" (defScope s__law_is_told) f cdv A outer s H E) ((defBody s__law_is_told).drop 3) { nx := fun _ H' => Q .non H', rt := Q } [some (.ref a), some (.ref b), some (.ref p), some v, some (.int n), some (.bl fw), some (.int (placeC cs os c rs : Nat)), some (.ref t), none, none, none, none] H2 := by
    intro L hLf t q0 x y H2 s2 ht hq hx hy
    have hLok : LfOk cs os L := by
      rw [hLf]
      split
      · exact leafB_ok hL hck
      · exact leafB_ok hL hck
    have hlay := lf_lay hLok
    have hdep := lf_dep L
    have rlay := rows_lay hL.fit
    have rdep := rows_dep rs
    obtain ⟨ws, hp, hws⟩ := hR.same s2
    have hwl := hws.len
    refine sxs_cons ?_
    refine sx_compL ["_law_row", "_law_values_here"] (σ' := [none, none]) (by rfl) (by rfl) (by rfl) (compSc_of (defScope s__law_is_told) (by rfl) (by rfl) (by decide +kernel)) (by intro _; rfl) nd (by rfl) (by rfl) ?_
    walk_at "ex"
    refine ⟨p, ws, rfl, SqL.of hp, by omega, fun τ => ∃ o1 o2, τ = [o1, o2], fun E2 k u H' => ∃ r, rs[k]? = some r ∧ RowNew E2 H2 H' u r, ⟨none, none, rfl⟩, fun E2 k u H3 H4 ys hE hk p => ?_, fun fp E2 C s3 H0 k τ x H4 H5 hE2 hi hτ sm4 hys hG => ?_, fun hd H3 us hd0 hl2 hx2 e3 s3 => ?_⟩
    · obtain ⟨r, hr, t, l, e, h1, h2, h3, h4, h5⟩ := p
      exact ⟨r, hr, t, l, e, h1, h2, h3, hk _ _ (fun z => by rw [z, hE] at h4; cases h4) h4, hk _ _ h3 h5⟩
    · obtain ⟨o1, o2, rfl⟩ := hτ
      obtain ⟨hx3, rfl⟩ := hG
      obtain ⟨r, hr, t, l, rfl, ht, hl⟩ := hws.get hx3
      obtain ⟨ys, hys⟩ := hys
      have hrl := All2.len (hL.fit r (List.mem_of_getElem? hr))
      refine eg_tup (by rfl) (by rfl) (by rfl) (SqT.of (sm4 _ _ ht)) (by rfl) (egs_cons (by rfl) (eg_name nd2 (by rfl) (.inl rfl) (.inr rfl) (egs_cons (by rfl) (eg_name nd2 (by rfl) (.inl rfl) (.inr rfl) (egs_nil ?_)))))
      walk_at "ex"
      refine c_list (.inl (SqL.of (sm4 _ _ hl))) fun l2 hl2 => ?_
      have s5 : Same H4 (upd H4 l2 (.lst r.2)) := Same.upd hl2
      have e5 : (upd H4 l2 (.lst r.2)) l2 = some (.lst r.2) := upd_same
      have nl : l2 ≠ E2 := fun e => by rw [e, hys] at hl2; cases hl2
      generalize upd H4 l2 (.lst r.2) = H5 at s5 e5 ⊢
      walk_at "ex"
      refine ⟨by show 2 ≤ sizeLine; omega, fun t2 ht2 => ?_⟩
      have s6 : Same H5 (upd H5 t2 (.tup [.int r.1, .ref l2])) := Same.upd ht2
      exact ⟨⟨_, _, rfl⟩, ⟨r, hr, t2, l2, rfl, (sm4.trans s5).free ht2, sm4.free hl2, nl, upd_same, s6 _ _ e5⟩, s5.trans s6⟩
    have hus : All2 (RowNew hd H2 H3) us rs := all2_of_get (by omega) fun k r hr => by
      have hk : k < us.length := by have := (List.getElem?_eq_some_iff.mp hr).1; omega
      obtain ⟨r', hr', hn⟩ := hx2 k _ (List.getElem?_eq_getElem hk)
      rw [hr] at hr'
      cases hr'
      exact ⟨_, List.getElem?_eq_getElem hk, hn⟩
    have hh3 : Rws H3 hd rs := ⟨us, e3, hus.imp fun u r x => x.row⟩
    have s23 := s2.trans s3
    refine sxs_cons ?_
    walk_at "s"
    walk_at "ex"
    refine ⟨by show 0 ≤ sizeLine; omega, fun et het => ?_⟩
    have s4 : Same H3 (upd H3 et (.tup [])) := Same.upd het
    generalize upd H3 et (.tup []) = H4 at s4 ⊢
    have s24 := s23.trans s4
    have s34 := s3.trans s4
    have hh4 := hh3.same s4
    have hlen : ∀ r ∈ L.rows, r.2.length ≤ 6 := fun r hr => by
      have := All2.len (hLok.rows r hr)
      omega
    have hLl : L.rows.length ≤ 1000 := by
      have hs : ∀ i j, (sliceL rs i j).length ≤ 1000 := fun i j => by
        unfold sliceL
        rw [List.length_take, List.length_drop]
        omega
      rw [hLf]
      split
      · exact hs _ _
      · exact hs _ _
    refine sxs_cons ?_
    refine sx_forR (by walk_at "po") (by rfl) (by rfl) b5 (by rfl) ?_
    walk_at "ex"
    refine ⟨by omega, by omega, fun i σ H' => (∃ o9 o10 o11, σ = [some (.ref a), some (.ref b), some (.ref p), some v, some (.int n), some (.bl fw), some (.int (placeC cs os c rs : Nat)), some (.ref t), some (.ref hd), o9, o10, o11]) ∧ Same H4 H', ⟨⟨_, _, _, rfl⟩, Same.refl _⟩, fun i σ H' hi hP => ?_, fun σ H' hP => ?_⟩
    · obtain ⟨⟨o9, o10, o11, rfl⟩, sm⟩ := hP
      have tailL : ∀ (ft fq : Addr) (fu : List V) (fx fy : V) (H6 : Hp), Same H' H6 → H' fq = none → H6 ft = some (.tup [.ref fq, fx, fy, .int L.start]) → H6 fq = some (.lst fu) → All2 (RowNew fq H' H6) fu L.rows → CtV H6 fx L.back → CtV H6 fy L.forth → ∀ (bk ct : L2.St → Hp → Prop), SXs (CxF true P w K mg base N__law_is_told "_law_is_told" (defScope s__law_is_told) f cdv A outer s H E) ((inFor (stAt (defBody s__law_is_told) 5)).drop 1) { nx := fun σ H' => (∃ o9 o10 o11, σ = [some (.ref a), some (.ref b), some (.ref p), some v, some (.int n), some (.bl fw), some (.int (placeC cs os c rs : Nat)), some (.ref t), some (.ref hd), o9, o10, o11]) ∧ Same H4 H', rt := Q, bk := bk, ct := ct } [some (.ref a), some (.ref b), some (.ref p), some v, some (.int n), some (.bl fw), some (.int (placeC cs os c rs : Nat)), some (.ref t), some (.ref hd), some (.ref ft), some (.int i), o11] H6 := by
        intro ft fq fu fx fy H6 s6 hfq h6t h6q hnew hx6 hy6 bk ct
        have sm6 := sm.trans s6
        have sH6 := s24.trans sm6
        have hfl := hnew.len
        refine sxs_cons (sx_if ?_)
        walk_at "ex"
        refine is_tuple_tuple h6t ?_
        walk_at "ex"
        refine o_neD hu (lf_rd h6t ⟨fu, h6q, hnew.imp fun u r z => z.row⟩ hx6 hy6 hLok) (lf_rd ((s34.trans sm6) _ _ ht) (hq.same (s34.trans sm6)) (hx.same (s34.trans sm6)) (hy.same (s34.trans sm6)) hLok) hlay hlay hdep ?_
        rw [SeqAt.eqv_refl _ hlay]
        walk_at "ex"
        refine o_neD hu (rows_rd (hh4.same sm6) hL.fit) (rows_rd (hR.same sH6) hL.fit) rlay rlay rdep ?_
        rw [SeqAt.eqv_refl _ rlay]
        walk_at "ex"
        refine i_tup (SqT.of h6t) (show atI [V.ref fq, fx, fy, .int L.start] 0 = some (.ref fq) from rfl) ?_
        walk_at "ex"
        refine is_list_list h6q ?_
        walk_at "ex"
        refine sxs_nil (sxs_cons (sx_forL (by walk_at "po") (by rfl) (by intro _; rfl) ?_))
        walk_at "ex"
        refine i_tup (SqT.of h6t) (show atI [V.ref fq, fx, fy, .int L.start] 0 = some (.ref fq) from rfl) ?_
        have nq : ¬ inL H6 fu fq := fun h => (inL_new hnew h).2.1 rfl
        refine ⟨fq, fu, rfl, SqL.of h6q, fun j σ H7 => (∃ o11, σ = [some (.ref a), some (.ref b), some (.ref p), some v, some (.int n), some (.bl fw), some (.int (placeC cs os c rs : Nat)), some (.ref t), some (.ref hd), some (.ref ft), some (.int i), o11]) ∧ Mut H6 fu H7 (6 + j), ⟨⟨_, rfl⟩, Mut.init hnew hlen⟩, fun j σ H7 _ hP => SqL.of (hP.2.1 _ _ h6q nq), fun j x σ H7 hx hP => ?_, fun σ H7 hP => ?_⟩
        · obtain ⟨⟨o, rfl⟩, hM⟩ := hP
          have hjl := (List.getElem?_eq_some_iff.mp hx).1
          obtain ⟨r, hr, tt, l, rfl, _, _, _, htt, hll⟩ := hnew.get hx
          have hin : inL H6 fu l := ⟨_, List.mem_of_getElem? hx, tt, _, rfl, htt⟩
          have nt : ¬ inL H6 fu tt := fun h => by
            obtain ⟨_, _, r', _, e⟩ := inL_new hnew h
            rw [htt] at e
            cases e
          have htt' := hM.1 _ _ htt nt
          obtain ⟨xs, hxs, hxn⟩ := hM.2 l hin
          refine eg_name nd (by rfl) (.inl rfl) (.inl rfl) ?_
          refine sxs_one (sx_expr (by rfl) (ev_bm PySem.F.plainAttrs_list PySem.F.slot_list_append PySem.F.type_list_append (by rfl) (by rfl) (by rfl) (by rfl) (by rfl) ?_))
          walk_at "ex"
          refine i_tup (SqT.of htt') (show atI [V.int r.1, .ref l] 1 = some (.ref l) from rfl) ?_
          refine ⟨.inl ⟨rfl, _, SqL.of hxs⟩, ?_⟩
          walk_at "ex"
          refine mt_by mt_append ⟨l, xs, _, rfl, rfl, hxs, by omega, ?_⟩
          exact ⟨⟨_, rfl⟩, hM.step hin hxs⟩
        · obtain ⟨⟨o, rfl⟩, hM⟩ := hP
          have h7t := hM.1 _ _ h6t fun h => by
            obtain ⟨_, _, r', _, e⟩ := inL_new hnew h
            rw [h6t] at e
            cases e
          have h7q := hM.1 _ _ h6q nq
          have s47 : Same H4 H7 := fun e u he => hM.1 _ _ (sm6 _ _ he) fun h => by
            have := (inL_new hnew h).1
            rw [sm _ _ he] at this
            cases this
          have hfq4 : H4 fq = none := sm.free hfq
          refine sxs_one (sx_expr (by rfl) (ev_bm PySem.F.plainAttrs_list PySem.F.slot_list_append PySem.F.type_list_append (by rfl) (by rfl) (by rfl) (by rfl) (by rfl) ?_))
          walk_at "ex"
          refine i_tup (SqT.of h7t) (show atI [V.ref fq, fx, fy, .int L.start] 0 = some (.ref fq) from rfl) ?_
          refine ⟨.inl ⟨rfl, _, SqL.of h7q⟩, ?_⟩
          walk_at "ex"
          refine ⟨by show 0 ≤ sizeLine; omega, fun l0 hl0 => ?_⟩
          have s8 : Same H7 (upd H7 l0 (.lst [])) := Same.upd hl0
          generalize upd H7 l0 (.lst []) = H8 at s8 ⊢
          walk_at "ex"
          refine ⟨by show 2 ≤ sizeLine; omega, fun t0 ht0 => ?_⟩
          have s9 : Same H8 (upd H8 t0 (.tup [.int 0, .ref l0])) := Same.upd ht0
          generalize upd H8 t0 (.tup [.int 0, .ref l0]) = H9 at s9 ⊢
          walk_at "ex"
          refine mt_by mt_append ⟨fq, fu, _, rfl, rfl, s9 _ _ (s8 _ _ h7q), by omega, ?_⟩
          refine ⟨⟨_, _, _, rfl⟩, fun e u he => ?_⟩
          rw [upd_ne (ne_of_none he hfq4)]
          exact s9 _ _ (s8 _ _ (s47 _ _ he))
      have s2m := s34.trans sm
      have sHm := s24.trans sm
      obtain ⟨cv, hca, hcv⟩ := hC.same sHm
      obtain ⟨ov, hob, hov⟩ := hO.same sHm
      have hcvl := hcv.len
      have hovl := hov.len
      refine eg_name nd (by rfl) (.inl rfl) (.inl rfl) ?_
      refine sxs_cons (sx_if ?_)
      walk_at "ex"
      cases fw with
      | true =>
        refine sxs_one ?_
        walk_at "s"
        walk_at "ex"
        refine c_list (.inl (SqL.of hca)) fun ca hca0 => ?_
        have sa : Same H' (upd H' ca (.lst cv)) := Same.upd hca0
        have ea : (upd H' ca (.lst cv)) ca = some (.lst cv) := upd_same
        generalize upd H' ca (.lst cv) = Ha at sa ea ⊢
        walk_at "ex"
        refine c_list (.inl (SqL.of (sa _ _ hob))) fun cb hcb0 => ?_
        have sb : Same Ha (upd Ha cb (.lst ov)) := Same.upd hcb0
        have eb : (upd Ha cb (.lst ov)) cb = some (.lst ov) := upd_same
        generalize upd Ha cb (.lst ov) = Hb at sb eb ⊢
        have sab := sa.trans sb
        walk_at "ex"
        refine ⟨ca, cb, hd, v, cs, os, rs, c, n, rfl, ⟨cv, sb _ _ ea, hcv.imp fun u k z => z.same sab⟩, ⟨ov, eb, hov.imp fun u k z => z.same sab⟩, (hh4.same sm).same sab, hc.same (sHm.trans sab), hL, hck, n1, n100, fun ft fq fu fx fy H6 s6 hfq h6t h6q hnew hx6 hy6 => ?_⟩
        have hLf' : L = leafF cs os rs c n := hLf
        rw [← hLf'] at h6t hnew hx6 hy6
        exact tailL ft fq fu fx fy H6 (sab.trans s6) (sab.free hfq) h6t h6q (hnew.imp fun u r z => by
          obtain ⟨t, l, e, a1, a2, a3, a4, a5⟩ := z
          exact ⟨t, l, e, sab.free a1, sab.free a2, a3, a4, a5⟩) hx6 hy6 _ _
      | false =>
        refine sxs_one ?_
        walk_at "s"
        walk_at "ex"
        refine c_list (.inl (SqL.of hca)) fun ca hca0 => ?_
        have sa : Same H' (upd H' ca (.lst cv)) := Same.upd hca0
        have ea : (upd H' ca (.lst cv)) ca = some (.lst cv) := upd_same
        generalize upd H' ca (.lst cv) = Ha at sa ea ⊢
        walk_at "ex"
        refine c_list (.inl (SqL.of (sa _ _ hob))) fun cb hcb0 => ?_
        have sb : Same Ha (upd Ha cb (.lst ov)) := Same.upd hcb0
        have eb : (upd Ha cb (.lst ov)) cb = some (.lst ov) := upd_same
        generalize upd Ha cb (.lst ov) = Hb at sb eb ⊢
        have sab := sa.trans sb
        walk_at "ex"
        refine ⟨ca, cb, hd, v, cs, os, rs, c, n, rfl, ⟨cv, sb _ _ ea, hcv.imp fun u k z => z.same sab⟩, ⟨ov, eb, hov.imp fun u k z => z.same sab⟩, (hh4.same sm).same sab, hc.same (sHm.trans sab), hL, hck, n1, n100, fun ft fq fu fx fy H6 s6 hfq h6t h6q hnew hx6 hy6 => ?_⟩
        have hLf' : L = leafR cs os rs c n := hLf
        rw [← hLf'] at h6t hnew hx6 hy6
        exact tailL ft fq fu fx fy H6 (sab.trans s6) (sab.free hfq) h6t h6q (hnew.imp fun u r z => by
          obtain ⟨t, l, e, a1, a2, a3, a4, a5⟩ := z
          exact ⟨t, l, e, sab.free a1, sab.free a2, a3, a4, a5⟩) hx6 hy6 _ _
    · obtain ⟨⟨o9, o10, o11, rfl⟩, sm⟩ := hP
      refine sxs_one (sx_ret ?_)
      walk_at "ex"
      refine o_eqD hu (rows_rd (hh4.same sm) hL.fit) (rows_rd (hR.same (s24.trans sm)) hL.fit) rlay rlay rdep ?_
      rw [SeqAt.eqv_refl _ rlay]
      exact q _ (s24.trans sm)
  refine sxs_cons ?_
  walk_at "s"
  obtain ⟨ws, hp, hws⟩ := hR.same s1
  have hwl := hws.len
  have sqp : SqL K H1 p ws := SqL.of hp
  walk_at "ex"
  refine c_min2 (by rfl) ?_
  have em : (if ((placeC cs os c rs : Nat) : Int) + ((n : Nat) : Int) < ((ws.length : Nat) : Int) then ((placeC cs os c rs : Nat) : Int) + ((n : Nat) : Int) else ((ws.length : Nat) : Int)) = ((min (placeC cs os c rs + n) rs.length : Nat) : Int) := by
    rw [hwl]
    split <;> omega
  rw [em]
  walk_at "ex"
  refine ⟨a, b, p, v, cs, os, rs, c, _, _, rfl, hC.same s1, hO.same s1, hR.same s1, hc.same s1, hL, by omega, Nat.min_le_right _ _, fun t q0 x y H2 s2 ht hq hx hy => ?_⟩
  have s12 := s1.trans s2
  refine sxs_cons (sx_if ?_)
  walk_at "ex"
  cases fw with
  | true =>
    refine sxs_nil ?_
    exact rest _ rfl t q0 x y H2 s12 ht hq hx hy
  | false =>
    refine sxs_one ?_
    walk_at "s"
    walk_at "ex"
    refine c_max2 (by rfl) ?_
    have em : (if ((placeC cs os c rs : Nat) : Int) - ((n : Nat) : Int) > 0 then ((placeC cs os c rs : Nat) : Int) - ((n : Nat) : Int) else 0) = ((placeC cs os c rs - n : Nat) : Int) := by
      split <;> omega
    rw [em]
    walk_at "ex"
    refine ⟨a, b, p, v, cs, os, rs, c, _, _, rfl, hC.same s12, hO.same s12, hR.same s12, hc.same s12, hL, Nat.sub_le _ _, ple, fun t q0 x y H3 s3 ht hq hx hy => ?_⟩
    exact rest _ rfl t q0 x y H3 (s12.trans s3) ht hq hx hy
end
end K60

namespace K60
open PySem L2 PyProof.Rows My Vl Lw
section
variable {P : Program} {w : World} {K : PySem.W.Frag} {mg : Str → Option Value} {base : Heap}
def num8 : List Int := [3, 0, 7, 10 ^ 9, 12, 5, 1, 999]
def keyI (g : Int) (k : Nat) : Int := num8.getD ((g + 3 * k) % 8).toNat 0
theorem num8_inj : ∀ i, i < 8 → ∀ j, j < 8 → num8.getD i 0 = num8.getD j 0 → i = j := by decide +kernel
theorem keyI_inj {g : Int} {i j : Nat} (hi : i < 8) (hj : j < 8) (h : keyI g i = keyI g j) : i = j := by
  have := num8_inj ((g + 3 * i) % 8).toNat (by omega) ((g + 3 * j) % 8).toNat (by omega) h
  omega
theorem keyI_nodup (g : Int) {n : Nat} (h : n ≤ 8) : ((List.range n).map (keyI g)).Nodup := by
  rw [List.nodup_iff_pairwise_ne, List.pairwise_map]
  exact List.pairwise_lt_range.imp_of_mem fun {i j} hi hj hlt e => by
    have := keyI_inj (by have := List.mem_range.mp hi; omega) (by have := List.mem_range.mp hj; omega) e
    omega
theorem keyI_at (g : Int) (k : Nat) : atI (num8.map V.int) ((g + 3 * k) % 8) = some (.int (keyI g k)) := by
  have h0 : 0 ≤ (g + 3 * k) % 8 := by omega
  have h1 : ((g + 3 * k) % 8).toNat < 8 := by omega
  have e : (g + 3 * (k : Int)) % 8 = (((g + 3 * k) % 8).toNat : Int) := (Int.toNat_of_nonneg h0).symm
  rw [e]
  refine atI_nat ?_
  rw [List.getElem?_map]
  unfold keyI
  clear e
  generalize ((g + 3 * (k : Int)) % 8).toNat = j at h1 ⊢
  have h8 : j < num8.length := h1
  rw [List.getElem?_eq_getElem h8, List.getD_eq_getElem?_getD, List.getElem?_eq_getElem h8]
  rfl
theorem rows_of {α β : Type} {R : α → β → Prop} {S : Nat → β → Prop} : ∀ {us : List α}, (∀ (i : Nat) u, us[i]? = some u → ∃ r, R u r ∧ S i r) → ∃ rs, All2 R us rs ∧ ∀ (i : Nat) r, rs[i]? = some r → S i r := by
  intro us
  induction us generalizing S with
  | nil => exact fun _ => ⟨[], .nil, fun i r h => by simp at h⟩
  | cons u us ih =>
    intro h
    obtain ⟨r, h1, h2⟩ := h 0 u rfl
    obtain ⟨rs, h3, h4⟩ := ih (S := fun i => S (i + 1)) fun i u hu => h (i + 1) u (by simpa using hu)
    refine ⟨r :: rs, .cons h1 h3, fun i q hq => ?_⟩
    cases i with
    | zero => have : r = q := by simpa using hq
              exact this ▸ h2
    | succ i => exact h4 i q (by simpa using hq)
/-- rows by number alone -/
theorem line_num {cs : List Col} {rs : List Row} (h : ∀ (i : Nat) r, rs[i]? = some r → r.1 = 3 * (i : Int)) : Line cs [] rs := by
  refine List.pairwise_iff_getElem.mpr fun i j hi hj hlt => ?_
  have e1 := h i _ (List.getElem?_eq_getElem hi)
  have e2 := h j _ (List.getElem?_eq_getElem hj)
  show decide (rs[i].1 < rs[j].1) = true
  rw [e1, e2]
  exact decide_eq_true (by omega)
theorem law_fn (T : Txt K mg) {f : Addr} {fd : FuncData} (F : Fun K "law" "law" s_law f fd) : FnOk P w K mg base (CX1 P w) true 40 f fd ["_law_script"] (spLaw K) := by
  refine fn_sx F sc_law (fun vs H Q E h => by obtain ⟨a, ns, rfl, _⟩ := h; rfl) (fun cdv A outer s H vs Q E hr h => ?_)
  obtain ⟨a, ns, rfl, hS, hl, q⟩ := h
  have nd := sc_law.nd
  have n1 := T.n_range
  have hu := hr.units
  have hu1 := Nat.lt_of_le_of_lt (Nat.add_le_add_left (show 1 ≤ 64 by decide) _) hr.units
  have hsz : sizeLine = 16777216 := sizeLine_eq
  have D0 : Def P w K mg base true 1 "_law_draw" ["_law_script", "_law_k", "_law_many"] (spDraw K) := d__law_draw T
  have D1 : Def P w K mg base true 3 "_law_columns" ["_law_script"] (spCols2 K) := d__law_columns T
  have D2 : Def P w K mg base true 2 "_law_order" ["_law_script", "_law_k", "_law_columns_here"] (spOrder2 K) := d__law_order T
  have D3 : Def P w K mg base true 3 "_law_values" ["_law_script", "_law_k", "_law_columns_here"] (spValues2 K) := d__law_values T
  have D4 : Def P w K mg base true 2 "_law_line" ["_law_columns_here", "_law_order_here", "_law_sieve", "_law_rows"] (spLine6 K) := d__law_line T
  have D5 : Def P w K mg base true 4 "_law_cut" ["_law_script", "_law_columns_here", "_law_order_here", "_law_line_here"] (spCut6 K) := d__law_cut T
  have D6 : Def P w K mg base true 6 "_law_is_told" ["_law_columns_here", "_law_order_here", "_law_line_here", "_law_cut_here", "_law_size", "_law_forth"] (spTold6 K) := d__law_is_told T
  have nd3 : (["_law_k", "_law_columns_here", "_law_script"] : List Str).Nodup := by decide +kernel
  refine sxs_cons ?_
  walk_at "s"
  walk_at "ex"
  refine ⟨a, ns, rfl, hS, hl, fun c cs H1 s1 _ hC hok => ?_⟩
  obtain ⟨c1, c6⟩ := okC_len hok
  -- the end
  have fin : ∀ (b p : Addr) (os : List Ord) (rs : List Row) (n : Nat) (H' : Hp) (o3 o4 o5 : Option V), Same H1 H' → Ords H' b os → Rws H' p rs → LineOk cs os rs → 1 ≤ n → n ≤ 100 → SXs (CxF true P w K mg base N_law "law" (defScope s_law) f cdv A outer s H E) ((defBody s_law).drop 7) { nx := fun _ H' => Q .non H', rt := Q } [some (.ref a), some (.ref c), some (.ref b), o3, o4, o5, some (.ref p), some (.int n), none] H' := by
    intro b p os rs n H' o3 o4 o5 sm hO hR hL h1 h2
    refine sxs_cons ?_
    walk_at "s"
    walk_at "ex"
    refine ⟨a, c, b, p, ns, cs, os, rs, rfl, (s1.trans sm).seq hS, hl, hC.same sm, hO, hR, hL, fun v ct H2 s2 hct hck => ?_⟩
    refine sxs_cons (sx_if ?_)
    walk_at "ex"
    refine ⟨c, b, p, v, cs, os, rs, ct, n, true, rfl, hC.same (sm.trans s2), hO.same s2, hR.same s2, hct, hL, hck, h1, h2, fun H3 s3 => ?_⟩
    walk_at "ex"
    refine sxs_nil (sxs_one (sx_ret ?_))
    walk_at "ex"
    have s23 := s2.trans s3
    refine ⟨c, b, p, v, cs, os, rs, ct, n, false, rfl, hC.same (sm.trans s23), hO.same s23, hR.same s23, hct.same s3, hL, hck, h1, h2, fun H4 s4 => ?_⟩
    exact q H4
  -- the long line
  have mid : ∀ (b p : Addr) (os : List Ord) (rs : List Row) (n : Nat) (H' : Hp) (o3 o4 o5 : Option V), Same H1 H' → Ords H' b os → Rws H' p rs → LineOk cs os rs → 1 ≤ n → n ≤ 100 → SXs (CxF true P w K mg base N_law "law" (defScope s_law) f cdv A outer s H E) ((defBody s_law).drop 6) { nx := fun _ H' => Q .non H', rt := Q } [some (.ref a), some (.ref c), some (.ref b), o3, o4, o5, some (.ref p), some (.int n), none] H' := by
    intro b p os rs n H' o3 o4 o5 sm hO hR hL h1 h2
    have sm1 := s1.trans sm
    refine sxs_cons (sx_if ?_)
    walk_at "ex"
    refine ⟨a, ns, 28, 16, rfl, sm1.seq hS, hl, by decide, by decide, by decide, ?_⟩
    walk_at "ex"
    refine ifD (fun _ => ?_) (fun _ => sxs_nil (fin b p os rs n H' o3 o4 o5 sm hO hR hL h1 h2))
    refine sxs_cons ?_
    walk_at "s"
    walk_at "ex"
    refine ⟨by show 0 ≤ sizeLine; omega, fun b2 hb2 => ?_⟩
    have sb : Same H' (upd H' b2 (.lst [])) := Same.upd hb2
    have eb : (upd H' b2 (.lst [])) b2 = some (.lst []) := upd_same
    generalize upd H' b2 (.lst []) = H2 at sb eb ⊢
    have sm2 := sm1.trans sb
    refine sxs_cons ?_
    refine sx_compRh ["_law_k", "_law_columns_here", "_law_script"] (σ' := [none, some (.ref c), some (.ref a)]) (by rfl) (by rfl) (by rfl) (compSc_of (defScope s_law) (by rfl) (by rfl) (by decide +kernel)) nd (by rfl) (by rfl) (by rfl) n1 (by rfl) ?_
    walk_at "ex"
    refine ⟨a, ns, 27, 80, rfl, sm2.seq hS, hl, by decide, by decide, by decide, ?_⟩
    have e0 := drawF_nn ns 27 (m := 80) (by decide)
    have e1 := drawF_lt ns 27 (m := 80) (by decide)
    generalize drawF ns 27 80 = z at e0 e1 ⊢
    walk_at "ex"
    refine ⟨by omega, by omega, fun τ => ∃ o1, τ = [o1, some (.ref c), some (.ref a)], fun E2 i u H' => ∃ t l xs, u = .ref t ∧ l ≠ E2 ∧ H' t = some (.tup [.int (3 * (i : Int)), .ref l]) ∧ H' l = some (.lst xs) ∧ All2 (fun c x => valK c.2 x) cs xs, ⟨none, rfl⟩, fun E2 i u H3 H4 ys hE hk p => ?_, fun fp E2 C s3 H0 i τ x H4 H3 hE2 hi hτ sm4 hys hG => ?_, fun L H5 us hL0 hl2 hx2 e5 sm5 => ?_⟩
    · obtain ⟨t, l, xs, e, e2, e3, e4, e5⟩ := p
      exact ⟨t, l, xs, e, e2, hk _ _ (fun z => by rw [z, hE] at e3; cases e3) e3, hk _ _ e2 e4, e5⟩
    · obtain ⟨o1, rfl⟩ := hτ
      obtain ⟨rfl, rfl⟩ := hG
      obtain ⟨ys, hys⟩ := hys
      refine eg_name nd3 (by rfl) (.inl rfl) (.inr rfl) ?_
      walk_at "ex"
      refine ⟨a, ns, _, c, cs, rfl, sm4.seq (sm2.seq hS), hl, by omega, by omega, (hC.same (sm.trans sb)).same sm4, c6, fun l xs H6 s6 hl0 hl6 hxs => ?_⟩
      have nl : l ≠ E2 := fun e => by rw [e, hys] at hl0; cases hl0
      walk_at "ex"
      refine ⟨by show 2 ≤ sizeLine; omega, fun t ht => ?_⟩
      have s7 : Same H6 (upd H6 t (.tup [.int (3 * (i : Int)), .ref l])) := Same.upd ht
      exact ⟨⟨_, rfl⟩, ⟨t, l, xs, rfl, nl, upd_same, s7 _ _ hl6, hxs⟩, s6.trans s7⟩
    · refine sxs_cons ?_
      walk_at "s"
      walk_at "ex"
      refine ⟨a, ns, 26, 60, rfl, sm5.seq (sm2.seq hS), hl, by decide, by decide, by decide, ?_⟩
      have f0 := drawF_nn ns 26 (m := 60) (by decide)
      have f1 := drawF_lt ns 26 (m := 60) (by decide)
      generalize drawF ns 26 60 = y at f0 f1 ⊢
      walk_at "ex"
      refine sxs_nil ?_
      obtain ⟨m, hm⟩ := Int.eq_ofNat_of_zero_le (show 0 ≤ 100 - y by omega)
      rw [hm]
      obtain ⟨rs2, hA⟩ : ∃ rs2 : List Row, All2 (fun u r => RowAt H5 u r ∧ fitK cs r) us rs2 ∧ ∀ (i : Nat) r, rs2[i]? = some r → r.1 = 3 * (i : Int) := by
        refine rows_of fun i u hu => ?_
        obtain ⟨t, l, xs, e, e2, e3, e4, e6⟩ := hx2 i u hu
        exact ⟨(3 * (i : Int), xs), ⟨⟨t, l, e, e3, e4⟩, e6⟩, rfl⟩
      have hl3 := hA.1.len
      refine fin b2 L [] rs2 m H5 o3 o4 o5 ((sm.trans sb).trans sm5) ⟨[], sm5 _ _ eb, .nil⟩ ⟨us, e5, hA.1.imp fun u r z => z.1⟩ ⟨⟨c1, c6⟩, by decide, fun o ho => by simp at ho, fun r hr => ?_, line_num hA.2, by omega⟩ (by omega) (by omega)
      obtain ⟨i, hi, e⟩ := List.getElem_of_mem hr
      obtain ⟨u, _, h⟩ := hA.1.get' (show rs2[i]? = some r by rw [← e]; exact List.getElem?_eq_getElem hi)
      exact h.2
  refine sxs_cons ?_
  walk_at "s"
  walk_at "ex"
  refine ⟨a, ns, 20, c, cs, rfl, s1.seq hS, hl, by decide, by decide, hC, hok, fun b os H2 s2 _ hO ho4 hin => ?_⟩
  refine sxs_cons ?_
  walk_at "s"
  refine ev_dnew fun d hd => ?_
  have s12 := s1.trans s2
  have hd0 : H d = none := s12.free hd
  have hd1 : H1 d = none := s2.free hd
  have s3 : Same H2 (upd H2 d (.dK [])) := Same.upd hd
  have ed : (upd H2 d (.dK [])) d = some (.dK []) := upd_same
  generalize upd H2 d (.dK []) = H3 at s3 ed ⊢
  refine sxs_cons ?_
  refine sx_forR (by walk_at "po") (by rfl) (by rfl) n1 (by rfl) ?_
  walk_at "ex"
  refine ⟨a, ns, 15, 9, rfl, (s12.trans s3).seq hS, hl, by decide, by decide, by decide, ?_⟩
  have g0 := drawF_nn ns 15 (m := 9) (by decide)
  have g1 := drawF_lt ns 15 (m := 9) (by decide)
  generalize drawF ns 15 9 = n at g0 g1 ⊢
  have k0 := drawF_nn ns 16 (m := 8) (by decide)
  have k1 := drawF_lt ns 16 (m := 8) (by decide)
  refine ⟨n, rfl, by omega, by omega, fun i σ H' => (∃ o4 o5, σ = [some (.ref a), some (.ref c), some (.ref b), some (.ref d), o4, o5, none, none, none]) ∧ Same H2 H' ∧ ∃ kvs rs, H' d = some (.dK kvs) ∧ RowsD H' kvs rs ∧ rs.map Prod.fst = (List.range i).map (keyI (drawF ns 16 8)) ∧ ∀ r ∈ rs, fitK cs r,
    ⟨⟨none, none, rfl⟩, s3, [], [], ed, .nil, rfl, by simp⟩, fun i σ H' hi hP => ?_, fun σ H' hP => ?_⟩
  · obtain ⟨⟨o4, o5, rfl⟩, sm, kvs, rs, hd', hD, hk, hfit⟩ := hP
    have hi8 : i < 8 := by omega
    have smH := s12.trans sm
    have hrl : rs.length = i := by
      have := congrArg List.length hk
      simpa using this
    have hkl := hD.len
    refine eg_name nd (by rfl) (.inl rfl) (.inl rfl) ?_
    refine sxs_cons ?_
    walk_at "s"
    walk_at "ex"
    refine ⟨by show 8 ≤ sizeLine; omega, fun y hy => ?_⟩
    have sy : Same H' (upd H' y (.lst (num8.map V.int))) := Same.upd hy
    have ey : (upd H' y (.lst (num8.map V.int))) y = some (.lst (num8.map V.int)) := upd_same
    change EV _ _ _ (upd H' y (.lst (num8.map V.int))) _
    generalize upd H' y (.lst (num8.map V.int)) = H4 at sy ey ⊢
    walk_at "ex"
    refine ⟨a, ns, 16, 8, rfl, (smH.trans sy).seq hS, hl, by decide, by decide, by decide, ?_⟩
    walk_at "ex"
    refine i_list (SqL.of ey) (keyI_at _ i) ?_
    refine sxs_one (sx_dput hu1 (by rfl) ?_)
    walk_at "ex"
    refine ⟨a, ns, _, c, cs, rfl, (smH.trans sy).seq hS, hl, by omega, by omega, hC.same ((s2.trans sm).trans sy), c6, fun l xs H5 s5 hl0 hl5 hxs => ?_⟩
    walk_at "ex"
    have s45 := sy.trans s5
    have hd5 := s45 _ _ hd'
    refine ⟨d, _, rfl, DPut.k (k := Sum.inl (keyI (drawF ns 16 8) i)) hd5 (by omega), ?_⟩
    have hnew : valV kvs (Sum.inl (keyI (drawF ns 16 8) i)) = none := by
      refine Option.eq_none_iff_forall_ne_some.mpr fun v e0 => ?_
      have hm := valV_in e0
      rw [hD.keys, hk] at hm
      obtain ⟨x, hx, e⟩ := List.mem_map.mp hm
      obtain ⟨j, hj, e2⟩ := List.mem_map.mp hx
      have hj' := List.mem_range.mp hj
      rw [← e2] at e
      have := keyI_inj (by omega) hi8 (Sum.inl.inj e)
      omega
    rw [putK_new _ hnew]
    refine ⟨⟨_, _, rfl⟩, fun e o he => ?_, kvs ++ [(Sum.inl (keyI (drawF ns 16 8) i), .ref l)], rs ++ [(keyI (drawF ns 16 8) i, xs)], upd_same, All2.app ((hD.same s45).imp fun kv r z => ?_) (.cons ⟨rfl, l, rfl, ?_⟩ .nil), ?_, fun r hr => ?_⟩
    · rw [upd_ne (ne_of_none he hd)]
      exact s45 _ _ (sm _ _ he)
    · obtain ⟨e, l', e2, e3⟩ := z
      exact ⟨e, l', e2, by rw [upd_ne (fun z => by rw [z, hd5] at e3; cases e3)]; exact e3⟩
    · rw [upd_ne (fun z => by rw [z, hd5] at hl5; cases hl5)]
      exact hl5
    · rw [List.map_append, hk, List.range_succ, List.map_append]
      rfl
    · rcases List.mem_append.mp hr with h | h
      · exact hfit r h
      · cases List.mem_singleton.mp h
        exact hxs
  · obtain ⟨⟨o4, o5, rfl⟩, sm, kvs, rs, hd', hD, hk, hfit⟩ := hP
    have hrl : rs.length = n.toNat := by
      have := congrArg List.length hk
      simpa using this
    have hnd : (rs.map Prod.fst).Nodup := by rw [hk]; exact keyI_nodup _ (by omega)
    refine sxs_shut hd' hd0 fun o => ?_
    have s4 : Same H2 (upd H' d (.frz o (.dK kvs))) := fun e u he => by
      rw [upd_ne (ne_of_none he hd)]
      exact sm _ _ he
    have hd4 : (upd H' d (.frz o (.dK kvs))) d = some (.frz o (.dK kvs)) := upd_same
    have hD4 : RowsD (upd H' d (.frz o (.dK kvs))) kvs rs := hD.imp fun kv r z => by
      obtain ⟨e, l', e2, e3⟩ := z
      exact ⟨e, l', e2, by rw [upd_ne (fun z => by rw [z, hd'] at e3; cases e3)]; exact e3⟩
    generalize upd H' d (.frz o (.dK kvs)) = H4 at s4 hd4 hD4 ⊢
    refine sxs_cons ?_
    walk_at "s"
    walk_at "ex"
    refine ⟨by show 1 ≤ sizeLine; omega, fun sv hsv => ?_⟩
    have s5 : Same H4 (upd H4 sv (.tup [.str (Str.ofString "all")])) := Same.upd hsv
    have es : (upd H4 sv (.tup [.str (Str.ofString "all")])) sv = some (.tup [.str (Str.ofString "all")]) := upd_same
    generalize upd H4 sv (.tup [.str (Str.ofString "all")]) = H5 at s5 es ⊢
    walk_at "ex"
    have s25 := s4.trans s5
    refine ⟨c, b, sv, d, o, kvs, cs, os, rs, rfl, hC.same (s2.trans s25), hok, hO.same s25, ho4, hin, es, s5 _ _ hd4, hD4.same s5, hnd, by omega, hfit, fun p ws ls H6 s6 _ hp6 hws hL hsub hll => ?_⟩
    have s26 := s25.trans s6
    have s16 := s2.trans s26
    have hR : Rws H6 p ls := ⟨ws, hp6, hws.imp fun u r z => z.row s6⟩
    have hLok : LineOk cs os ls := ⟨⟨c1, c6⟩, ho4, hin, fun r hr => hfit r (hsub r hr), hL, by omega⟩
    refine sxs_cons ?_
    walk_at "s"
    walk_at "ex"
    refine ⟨a, ns, 17, 6, rfl, (s1.trans s16).seq hS, hl, by decide, by decide, by decide, ?_⟩
    walk_at "ex"
    refine ifD (fun _ => ?_) (fun _ => ?_)
    · walk_at "ex"
      exact mid b p os ls 100 H6 _ _ _ s16 (hO.same s26) hR hLok (by decide) (by decide)
    · walk_at "ex"
      refine ⟨a, ns, 18, 4, rfl, (s1.trans s16).seq hS, hl, by decide, by decide, by decide, ?_⟩
      have f0 := drawF_nn ns 18 (m := 4) (by decide)
      have f1 := drawF_lt ns 18 (m := 4) (by decide)
      generalize drawF ns 18 4 = y at f0 f1 ⊢
      walk_at "ex"
      obtain ⟨m, hm⟩ := Int.eq_ofNat_of_zero_le (show 0 ≤ 1 + y by omega)
      rw [hm]
      exact mid b p os ls m H6 _ _ _ s16 (hO.same s26) hR hLok (by omega) (by omega)
end
end K60

namespace PySem.W.Fast
def tw6997438186221931169 : Unit := ()
def tw15074139687394369263 : Unit := ()
def tw15867398848140770342 : Unit := ()
def tw6900788005245832712 : Unit := ()
def tw9585627678257973755 : Unit := ()
def tw7819964521874111097 : Unit := ()
def tw3486834887322552887 : Unit := ()
def tw6108438459392405782 : Unit := ()
def tw3375763447292720037 : Unit := ()
def tw11480494314881685777 : Unit := ()
def tw11500029625401043498 : Unit := ()
def tw3953944733528266278 : Unit := ()
def tw846333692828249970 : Unit := ()
def tw7194960046871421541 : Unit := ()
def tw4421046274588258374 : Unit := ()
def tw5848482978879655033 : Unit := ()
def tw2125459827555543665 : Unit := ()
def tw10712922948968028935 : Unit := ()
def tw11699123130264792804 : Unit := ()
def tw16470587447569352957 : Unit := ()
def tw9161551002753327498 : Unit := ()
def tw16789658150658484020 : Unit := ()
def tw9058577793887162477 : Unit := ()
def tw1831664911281748087 : Unit := ()
def tw5057032887572673746 : Unit := ()
def tw14941992253111873716 : Unit := ()
def tw16276260240987767453 : Unit := ()
def tw267461959160794402 : Unit := ()
def tw9562158173189052002 : Unit := ()
end PySem.W.Fast
namespace K60
open PySem L2 PyProof.Rows
abbrev NSA (K : PySem.W.Frag) (s : String) (a : Addr) : Prop := PySem.W.nsIn K mainGlobals s = some (some (.ref a))
theorem txt_mk {K : PySem.W.Frag} {h : Heap} {mg : Str → Option Value} (X : K.In h) (G : h.Ns mainGlobals mg) {f0 : Addr} {od0 an0 : Option Addr} {sl0 : Array (Option Value)} {oc0 kV0 dc0 pm0 cd0 ct0 : Value} {f1 : Addr} {od1 an1 : Option Addr} {sl1 : Array (Option Value)} {oc1 kV1 dc1 pm1 cd1 ct1 : Value} {f2 : Addr} {od2 an2 : Option Addr} {sl2 : Array (Option Value)} {oc2 kV2 dc2 pm2 cd2 ct2 : Value} {f3 : Addr} {od3 an3 : Option Addr} {sl3 : Array (Option Value)} {oc3 kV3 dc3 pm3 cd3 ct3 : Value} {f4 : Addr} {od4 an4 : Option Addr} {sl4 : Array (Option Value)} {oc4 kV4 dc4 pm4 cd4 ct4 : Value} {f5 : Addr} {od5 an5 : Option Addr} {sl5 : Array (Option Value)} {oc5 kV5 dc5 pm5 cd5 ct5 : Value} {f6 : Addr} {od6 an6 : Option Addr} {sl6 : Array (Option Value)} {oc6 kV6 dc6 pm6 cd6 ct6 : Value} {f7 : Addr} {od7 an7 : Option Addr} {sl7 : Array (Option Value)} {oc7 kV7 dc7 pm7 cd7 ct7 : Value} {f8 : Addr} {od8 an8 : Option Addr} {sl8 : Array (Option Value)} {oc8 kV8 dc8 pm8 cd8 ct8 : Value} {f9 : Addr} {od9 an9 : Option Addr} {sl9 : Array (Option Value)} {oc9 kV9 dc9 pm9 cd9 ct9 : Value} {f10 : Addr} {od10 an10 : Option Addr} {sl10 : Array (Option Value)} {oc10 kV10 dc10 pm10 cd10 ct10 : Value} {f11 : Addr} {od11 an11 : Option Addr} {sl11 : Array (Option Value)} {oc11 kV11 dc11 pm11 cd11 ct11 : Value} {f12 : Addr} {od12 an12 : Option Addr} {sl12 : Array (Option Value)} {oc12 kV12 dc12 pm12 cd12 ct12 : Value} {f13 : Addr} {od13 an13 : Option Addr} {sl13 : Array (Option Value)} {oc13 kV13 dc13 pm13 cd13 ct13 : Value} {f14 : Addr} {od14 an14 : Option Addr} {sl14 : Array (Option Value)} {oc14 kV14 dc14 pm14 cd14 ct14 : Value} {f15 : Addr} {od15 an15 : Option Addr} {sl15 : Array (Option Value)} {oc15 kV15 dc15 pm15 cd15 ct15 : Value} {f16 : Addr} {od16 an16 : Option Addr} {sl16 : Array (Option Value)} {oc16 kV16 dc16 pm16 cd16 ct16 : Value} {f17 : Addr} {od17 an17 : Option Addr} {sl17 : Array (Option Value)} {oc17 kV17 dc17 pm17 cd17 ct17 : Value} {f18 : Addr} {od18 an18 : Option Addr} {sl18 : Array (Option Value)} {oc18 kV18 dc18 pm18 cd18 ct18 : Value} {f19 : Addr} {od19 an19 : Option Addr} {sl19 : Array (Option Value)} {oc19 kV19 dc19 pm19 cd19 ct19 : Value} {f20 : Addr} {od20 an20 : Option Addr} {sl20 : Array (Option Value)} {oc20 kV20 dc20 pm20 cd20 ct20 : Value} {f21 : Addr} {od21 an21 : Option Addr} {sl21 : Array (Option Value)} {oc21 kV21 dc21 pm21 cd21 ct21 : Value} {f22 : Addr} {od22 an22 : Option Addr} {sl22 : Array (Option Value)} {oc22 kV22 dc22 pm22 cd22 ct22 : Value} {f23 : Addr} {od23 an23 : Option Addr} {sl23 : Array (Option Value)} {oc23 kV23 dc23 pm23 cd23 ct23 : Value} {f24 : Addr} {od24 an24 : Option Addr} {sl24 : Array (Option Value)} {oc24 kV24 dc24 pm24 cd24 ct24 : Value} {f25 : Addr} {od25 an25 : Option Addr} {sl25 : Array (Option Value)} {oc25 kV25 dc25 pm25 cd25 ct25 : Value} {f26 : Addr} {od26 an26 : Option Addr} {sl26 : Array (Option Value)} {oc26 kV26 dc26 pm26 cd26 ct26 : Value} {f27 : Addr} {od27 an27 : Option Addr} {sl27 : Array (Option Value)} {oc27 kV27 dc27 pm27 cd27 ct27 : Value} {t0 : Tok} {t1 : Tok} {t2 : Tok} {t3 : Tok} {t4 : Tok} {C0 : Addr}
    (aq0 : NSA K "is_whole" f0)
    (lq0 : K.lookup f0 = some ⟨oc0, od0, .func (PySem.W.fnOf "is_whole" "is_whole" (defArgs s_is_whole) (defBody s_is_whole) (defScope s_is_whole) .none kV0 dc0 pm0 an0 cd0 ct0), sl0⟩)
    (cq0 : PySem.W.codeIn K cd0 "is_whole" = true)
    (kq0 : PySem.W.keepIn K (.ref f0) = true)
    (aq1 : NSA K "value_before" f1)
    (lq1 : K.lookup f1 = some ⟨oc1, od1, .func (PySem.W.fnOf "value_before" "value_before" (defArgs s_value_before) (defBody s_value_before) (defScope s_value_before) .none kV1 dc1 pm1 an1 cd1 ct1), sl1⟩)
    (cq1 : PySem.W.codeIn K cd1 "value_before" = true)
    (kq1 : PySem.W.keepIn K (.ref f1) = true)
    (aq2 : NSA K "place_of" f2)
    (lq2 : K.lookup f2 = some ⟨oc2, od2, .func (PySem.W.fnOf "place_of" "place_of" (defArgs s_place_of) (defBody s_place_of) (defScope s_place_of) .none kV2 dc2 pm2 an2 cd2 ct2), sl2⟩)
    (cq2 : PySem.W.codeIn K cd2 "place_of" = true)
    (kq2 : PySem.W.keepIn K (.ref f2) = true)
    (aq3 : NSA K "key_of" f3)
    (lq3 : K.lookup f3 = some ⟨oc3, od3, .func (PySem.W.fnOf "key_of" "key_of" (defArgs s_key_of) (defBody s_key_of) (defScope s_key_of) .none kV3 dc3 pm3 an3 cd3 ct3), sl3⟩)
    (cq3 : PySem.W.codeIn K cd3 "key_of" = true)
    (kq3 : PySem.W.keepIn K (.ref f3) = true)
    (aq4 : NSA K "key_ahead" f4)
    (lq4 : K.lookup f4 = some ⟨oc4, od4, .func (PySem.W.fnOf "key_ahead" "key_ahead" (defArgs s_key_ahead) (defBody s_key_ahead) (defScope s_key_ahead) .none kV4 dc4 pm4 an4 cd4 ct4), sl4⟩)
    (cq4 : PySem.W.codeIn K cd4 "key_ahead" = true)
    (kq4 : PySem.W.keepIn K (.ref f4) = true)
    (aq5 : NSA K "lies_ahead" f5)
    (lq5 : K.lookup f5 = some ⟨oc5, od5, .func (PySem.W.fnOf "lies_ahead" "lies_ahead" (defArgs s_lies_ahead) (defBody s_lies_ahead) (defScope s_lies_ahead) .none kV5 dc5 pm5 an5 cd5 ct5), sl5⟩)
    (cq5 : PySem.W.codeIn K cd5 "lies_ahead" = true)
    (kq5 : PySem.W.keepIn K (.ref f5) = true)
    (aq6 : NSA K "cut_place" f6)
    (lq6 : K.lookup f6 = some ⟨oc6, od6, .func (PySem.W.fnOf "cut_place" "cut_place" (defArgs s_cut_place) (defBody s_cut_place) (defScope s_cut_place) .none kV6 dc6 pm6 an6 cd6 ct6), sl6⟩)
    (cq6 : PySem.W.codeIn K cd6 "cut_place" = true)
    (kq6 : PySem.W.keepIn K (.ref f6) = true)
    (aq7 : NSA K "ask_size" f7)
    (lq7 : K.lookup f7 = some ⟨oc7, od7, .func (PySem.W.fnOf "ask_size" "ask_size" (defArgs s_ask_size) (defBody s_ask_size) (defScope s_ask_size) .none kV7 dc7 pm7 an7 cd7 ct7), sl7⟩)
    (cq7 : PySem.W.codeIn K cd7 "ask_size" = true)
    (kq7 : PySem.W.keepIn K (.ref f7) = true)
    (aq8 : NSA K "copy_of_cut" f8)
    (lq8 : K.lookup f8 = some ⟨oc8, od8, .func (PySem.W.fnOf "copy_of_cut" "copy_of_cut" (defArgs s_copy_of_cut) (defBody s_copy_of_cut) (defScope s_copy_of_cut) .none kV8 dc8 pm8 an8 cd8 ct8), sl8⟩)
    (cq8 : PySem.W.codeIn K cd8 "copy_of_cut" = true)
    (kq8 : PySem.W.keepIn K (.ref f8) = true)
    (aq9 : NSA K "cut_beside" f9)
    (lq9 : K.lookup f9 = some ⟨oc9, od9, .func (PySem.W.fnOf "cut_beside" "cut_beside" (defArgs s_cut_beside) (defBody s_cut_beside) (defScope s_cut_beside) .none kV9 dc9 pm9 an9 cd9 ct9), sl9⟩)
    (cq9 : PySem.W.codeIn K cd9 "cut_beside" = true)
    (kq9 : PySem.W.keepIn K (.ref f9) = true)
    (aq10 : NSA K "leaf_between" f10)
    (lq10 : K.lookup f10 = some ⟨oc10, od10, .func (PySem.W.fnOf "leaf_between" "leaf_between" (defArgs s_leaf_between) (defBody s_leaf_between) (defScope s_leaf_between) .none kV10 dc10 pm10 an10 cd10 ct10), sl10⟩)
    (cq10 : PySem.W.codeIn K cd10 "leaf_between" = true)
    (kq10 : PySem.W.keepIn K (.ref f10) = true)
    (aq11 : NSA K "leaf_forth" f11)
    (lq11 : K.lookup f11 = some ⟨oc11, od11, .func (PySem.W.fnOf "leaf_forth" "leaf_forth" (defArgs s_leaf_forth) (defBody s_leaf_forth) (defScope s_leaf_forth) .none kV11 dc11 pm11 an11 cd11 ct11), sl11⟩)
    (cq11 : PySem.W.codeIn K cd11 "leaf_forth" = true)
    (kq11 : PySem.W.keepIn K (.ref f11) = true)
    (aq12 : NSA K "leaf_back" f12)
    (lq12 : K.lookup f12 = some ⟨oc12, od12, .func (PySem.W.fnOf "leaf_back" "leaf_back" (defArgs s_leaf_back) (defBody s_leaf_back) (defScope s_leaf_back) .none kV12 dc12 pm12 an12 cd12 ct12), sl12⟩)
    (cq12 : PySem.W.codeIn K cd12 "leaf_back" = true)
    (kq12 : PySem.W.keepIn K (.ref f12) = true)
    (aq13 : NSA K "_law_draw" f13)
    (lq13 : K.lookup f13 = some ⟨oc13, od13, .func (PySem.W.fnOf "_law_draw" "_law_draw" (defArgs s__law_draw) (defBody s__law_draw) (defScope s__law_draw) .none kV13 dc13 pm13 an13 cd13 ct13), sl13⟩)
    (cq13 : PySem.W.codeIn K cd13 "_law_draw" = true)
    (kq13 : PySem.W.keepIn K (.ref f13) = true)
    (aq14 : NSA K "_law_names" f14)
    (lq14 : K.lookup f14 = some ⟨oc14, od14, .func (PySem.W.fnOf "_law_names" "_law_names" (defArgs s__law_names) (defBody s__law_names) (defScope s__law_names) .none kV14 dc14 pm14 an14 cd14 ct14), sl14⟩)
    (cq14 : PySem.W.codeIn K cd14 "_law_names" = true)
    (kq14 : PySem.W.keepIn K (.ref f14) = true)
    (aq15 : NSA K "_law_columns" f15)
    (lq15 : K.lookup f15 = some ⟨oc15, od15, .func (PySem.W.fnOf "_law_columns" "_law_columns" (defArgs s__law_columns) (defBody s__law_columns) (defScope s__law_columns) .none kV15 dc15 pm15 an15 cd15 ct15), sl15⟩)
    (cq15 : PySem.W.codeIn K cd15 "_law_columns" = true)
    (kq15 : PySem.W.keepIn K (.ref f15) = true)
    (aq16 : NSA K "_law_value" f16)
    (lq16 : K.lookup f16 = some ⟨oc16, od16, .func (PySem.W.fnOf "_law_value" "_law_value" (defArgs s__law_value) (defBody s__law_value) (defScope s__law_value) .none kV16 dc16 pm16 an16 cd16 ct16), sl16⟩)
    (cq16 : PySem.W.codeIn K cd16 "_law_value" = true)
    (kq16 : PySem.W.keepIn K (.ref f16) = true)
    (aq17 : NSA K "_law_values" f17)
    (lq17 : K.lookup f17 = some ⟨oc17, od17, .func (PySem.W.fnOf "_law_values" "_law_values" (defArgs s__law_values) (defBody s__law_values) (defScope s__law_values) .none kV17 dc17 pm17 an17 cd17 ct17), sl17⟩)
    (cq17 : PySem.W.codeIn K cd17 "_law_values" = true)
    (kq17 : PySem.W.keepIn K (.ref f17) = true)
    (aq18 : NSA K "_law_order" f18)
    (lq18 : K.lookup f18 = some ⟨oc18, od18, .func (PySem.W.fnOf "_law_order" "_law_order" (defArgs s__law_order) (defBody s__law_order) (defScope s__law_order) .none kV18 dc18 pm18 an18 cd18 ct18), sl18⟩)
    (cq18 : PySem.W.codeIn K cd18 "_law_order" = true)
    (kq18 : PySem.W.keepIn K (.ref f18) = true)
    (aq19 : NSA K "_law_lets" f19)
    (lq19 : K.lookup f19 = some ⟨oc19, od19, .func (PySem.W.fnOf "_law_lets" "_law_lets" (defArgs s__law_lets) (defBody s__law_lets) (defScope s__law_lets) .none kV19 dc19 pm19 an19 cd19 ct19), sl19⟩)
    (cq19 : PySem.W.codeIn K cd19 "_law_lets" = true)
    (kq19 : PySem.W.keepIn K (.ref f19) = true)
    (aq20 : NSA K "_law_key" f20)
    (lq20 : K.lookup f20 = some ⟨oc20, od20, .func (PySem.W.fnOf "_law_key" "_law_key" (defArgs s__law_key) (defBody s__law_key) (defScope s__law_key) .none kV20 dc20 pm20 an20 cd20 ct20), sl20⟩)
    (cq20 : PySem.W.codeIn K cd20 "_law_key" = true)
    (kq20 : PySem.W.keepIn K (.ref f20) = true)
    (aq21 : NSA K "_law_is_ahead" f21)
    (lq21 : K.lookup f21 = some ⟨oc21, od21, .func (PySem.W.fnOf "_law_is_ahead" "_law_is_ahead" (defArgs s__law_is_ahead) (defBody s__law_is_ahead) (defScope s__law_is_ahead) .none kV21 dc21 pm21 an21 cd21 ct21), sl21⟩)
    (cq21 : PySem.W.codeIn K cd21 "_law_is_ahead" = true)
    (kq21 : PySem.W.keepIn K (.ref f21) = true)
    (aq22 : NSA K "_law_line" f22)
    (lq22 : K.lookup f22 = some ⟨oc22, od22, .func (PySem.W.fnOf "_law_line" "_law_line" (defArgs s__law_line) (defBody s__law_line) (defScope s__law_line) .none kV22 dc22 pm22 an22 cd22 ct22), sl22⟩)
    (cq22 : PySem.W.codeIn K cd22 "_law_line" = true)
    (kq22 : PySem.W.keepIn K (.ref f22) = true)
    (aq23 : NSA K "_law_cut" f23)
    (lq23 : K.lookup f23 = some ⟨oc23, od23, .func (PySem.W.fnOf "_law_cut" "_law_cut" (defArgs s__law_cut) (defBody s__law_cut) (defScope s__law_cut) .none kV23 dc23 pm23 an23 cd23 ct23), sl23⟩)
    (cq23 : PySem.W.codeIn K cd23 "_law_cut" = true)
    (kq23 : PySem.W.keepIn K (.ref f23) = true)
    (aq24 : NSA K "_law_place" f24)
    (lq24 : K.lookup f24 = some ⟨oc24, od24, .func (PySem.W.fnOf "_law_place" "_law_place" (defArgs s__law_place) (defBody s__law_place) (defScope s__law_place) .none kV24 dc24 pm24 an24 cd24 ct24), sl24⟩)
    (cq24 : PySem.W.codeIn K cd24 "_law_place" = true)
    (kq24 : PySem.W.keepIn K (.ref f24) = true)
    (aq25 : NSA K "_law_due" f25)
    (lq25 : K.lookup f25 = some ⟨oc25, od25, .func (PySem.W.fnOf "_law_due" "_law_due" (defArgs s__law_due) (defBody s__law_due) (defScope s__law_due) .none kV25 dc25 pm25 an25 cd25 ct25), sl25⟩)
    (cq25 : PySem.W.codeIn K cd25 "_law_due" = true)
    (kq25 : PySem.W.keepIn K (.ref f25) = true)
    (aq26 : NSA K "_law_is_told" f26)
    (lq26 : K.lookup f26 = some ⟨oc26, od26, .func (PySem.W.fnOf "_law_is_told" "_law_is_told" (defArgs s__law_is_told) (defBody s__law_is_told) (defScope s__law_is_told) .none kV26 dc26 pm26 an26 cd26 ct26), sl26⟩)
    (cq26 : PySem.W.codeIn K cd26 "_law_is_told" = true)
    (kq26 : PySem.W.keepIn K (.ref f26) = true)
    (aq27 : NSA K "law" f27)
    (lq27 : K.lookup f27 = some ⟨oc27, od27, .func (PySem.W.fnOf "law" "law" (defArgs s_law) (defBody s_law) (defScope s_law) .none kV27 dc27 pm27 an27 cd27 ct27), sl27⟩)
    (cq27 : PySem.W.codeIn K cd27 "law" = true)
    (kq27 : PySem.W.keepIn K (.ref f27) = true)
    (gq0 : PySem.W.nsIn K mainGlobals "START" = some (some (.str "start" t0)))
    (gq1 : PySem.W.nsIn K mainGlobals "END" = some (some (.str "end" t1)))
    (gq2 : PySem.W.nsIn K mainGlobals "AHEAD" = some (some (.str "ahead" t2)))
    (gq3 : PySem.W.nsIn K mainGlobals "BEHIND" = some (some (.str "behind" t3)))
    (gq4 : PySem.W.nsIn K mainGlobals "LARGEST_SIZE" = some (some (.int 100 t4)))
    (zq0 : PySem.W.nsIn K mainGlobals "ValueError" = some none)
    (zq1 : PySem.W.nsIn K mainGlobals "bool" = some none)
    (zq2 : PySem.W.nsIn K mainGlobals "enumerate" = some none)
    (zq3 : PySem.W.nsIn K mainGlobals "int" = some none)
    (zq4 : PySem.W.nsIn K mainGlobals "isinstance" = some none)
    (zq5 : PySem.W.nsIn K mainGlobals "len" = some none)
    (zq6 : PySem.W.nsIn K mainGlobals "list" = some none)
    (zq7 : PySem.W.nsIn K mainGlobals "max" = some none)
    (zq8 : PySem.W.nsIn K mainGlobals "min" = some none)
    (zq9 : PySem.W.nsIn K mainGlobals "range" = some none)
    (zq10 : PySem.W.nsIn K mainGlobals "tuple" = some none)
    (zq11 : PySem.W.nsIn K mainGlobals "zip" = some none)
    (xq0 : NSA K "NoSize" C0)
    (yq0 : PySem.W.excIn K C0 bmV "ValueError.__new__" = true)
    : Txt K mg :=
  ⟨⟨_, _, fun_mk (st := s_is_whole) lq0 cq0 kq0, PySem.W.mg_of X G aq0⟩,
   ⟨_, _, fun_mk (st := s_value_before) lq1 cq1 kq1, PySem.W.mg_of X G aq1⟩,
   ⟨_, _, fun_mk (st := s_place_of) lq2 cq2 kq2, PySem.W.mg_of X G aq2⟩,
   ⟨_, _, fun_mk (st := s_key_of) lq3 cq3 kq3, PySem.W.mg_of X G aq3⟩,
   ⟨_, _, fun_mk (st := s_key_ahead) lq4 cq4 kq4, PySem.W.mg_of X G aq4⟩,
   ⟨_, _, fun_mk (st := s_lies_ahead) lq5 cq5 kq5, PySem.W.mg_of X G aq5⟩,
   ⟨_, _, fun_mk (st := s_cut_place) lq6 cq6 kq6, PySem.W.mg_of X G aq6⟩,
   ⟨_, _, fun_mk (st := s_ask_size) lq7 cq7 kq7, PySem.W.mg_of X G aq7⟩,
   ⟨_, _, fun_mk (st := s_copy_of_cut) lq8 cq8 kq8, PySem.W.mg_of X G aq8⟩,
   ⟨_, _, fun_mk (st := s_cut_beside) lq9 cq9 kq9, PySem.W.mg_of X G aq9⟩,
   ⟨_, _, fun_mk (st := s_leaf_between) lq10 cq10 kq10, PySem.W.mg_of X G aq10⟩,
   ⟨_, _, fun_mk (st := s_leaf_forth) lq11 cq11 kq11, PySem.W.mg_of X G aq11⟩,
   ⟨_, _, fun_mk (st := s_leaf_back) lq12 cq12 kq12, PySem.W.mg_of X G aq12⟩,
   ⟨_, _, fun_mk (st := s__law_draw) lq13 cq13 kq13, PySem.W.mg_of X G aq13⟩,
   ⟨_, _, fun_mk (st := s__law_names) lq14 cq14 kq14, PySem.W.mg_of X G aq14⟩,
   ⟨_, _, fun_mk (st := s__law_columns) lq15 cq15 kq15, PySem.W.mg_of X G aq15⟩,
   ⟨_, _, fun_mk (st := s__law_value) lq16 cq16 kq16, PySem.W.mg_of X G aq16⟩,
   ⟨_, _, fun_mk (st := s__law_values) lq17 cq17 kq17, PySem.W.mg_of X G aq17⟩,
   ⟨_, _, fun_mk (st := s__law_order) lq18 cq18 kq18, PySem.W.mg_of X G aq18⟩,
   ⟨_, _, fun_mk (st := s__law_lets) lq19 cq19 kq19, PySem.W.mg_of X G aq19⟩,
   ⟨_, _, fun_mk (st := s__law_key) lq20 cq20 kq20, PySem.W.mg_of X G aq20⟩,
   ⟨_, _, fun_mk (st := s__law_is_ahead) lq21 cq21 kq21, PySem.W.mg_of X G aq21⟩,
   ⟨_, _, fun_mk (st := s__law_line) lq22 cq22 kq22, PySem.W.mg_of X G aq22⟩,
   ⟨_, _, fun_mk (st := s__law_cut) lq23 cq23 kq23, PySem.W.mg_of X G aq23⟩,
   ⟨_, _, fun_mk (st := s__law_place) lq24 cq24 kq24, PySem.W.mg_of X G aq24⟩,
   ⟨_, _, fun_mk (st := s__law_due) lq25 cq25 kq25, PySem.W.mg_of X G aq25⟩,
   ⟨_, _, fun_mk (st := s__law_is_told) lq26 cq26 kq26, PySem.W.mg_of X G aq26⟩,
   ⟨_, _, fun_mk (st := s_law) lq27 cq27 kq27, PySem.W.mg_of X G aq27⟩,
   ⟨_, PySem.W.mg_of X G gq0, _, rfl⟩,
   ⟨_, PySem.W.mg_of X G gq1, _, rfl⟩,
   ⟨_, PySem.W.mg_of X G gq2, _, rfl⟩,
   ⟨_, PySem.W.mg_of X G gq3, _, rfl⟩,
   ⟨_, PySem.W.mg_of X G gq4, _, rfl⟩,
   PySem.W.mg_none_of X G zq0,
   PySem.W.mg_none_of X G zq1,
   PySem.W.mg_none_of X G zq2,
   PySem.W.mg_none_of X G zq3,
   PySem.W.mg_none_of X G zq4,
   PySem.W.mg_none_of X G zq5,
   PySem.W.mg_none_of X G zq6,
   PySem.W.mg_none_of X G zq7,
   PySem.W.mg_none_of X G zq8,
   PySem.W.mg_none_of X G zq9,
   PySem.W.mg_none_of X G zq10,
   PySem.W.mg_none_of X G zq11,
   (by have e := PySem.W.mg_of X G xq0; rw [clsA_eq e]; exact e),
   xcls_mk (PySem.W.mg_of X G xq0) yq0⟩
end K60
open PySem PySem.W PyProof.Rows
set_option maxRecDepth 100000 in
set_option maxHeartbeats 0 in
theorem PySem.Challenge.cw_turnleaf_k60_leaves_of_a_line_holds : PySem.Challenge.rw_turnleaf_k60_leaves_of_a_line.Holds := by
  w_on; o_law; k_head; (case hw => w_witness2)
  k_fill
  refine L2.walk_of (l := PySem.Challenge.rw_turnleaf_k60_leaves_of_a_line) (n := 63) (k := 40) (x := "_law_script") (CX := fun w => L2.CX1 PySem.Challenge.rw_turnleaf_k60_leaves_of_a_line.prog w) (cc := true) (sp := fun w => L2.spLaw _) rfl (by decide) rfl ⟨fun _ => rfl, by decide, by decide⟩ (fun w h Y => PySem.W.kIn_of Y) ?F (fun _ _ a ns hl _ hS => ⟨a, ns, rfl, hS, hl, fun _ => rfl⟩) (fun _ _ _ _ _ z => L2.CX1.never z)
  case F =>
    intro w mg fa h KX G hmg
    have T : K60.Txt (L2.KOf KX) mg := by
      dsimp only [L2.KOf]
      refine' K60.txt_mk KX G ..
      any_goals try delta K60.NSA
      any_goals first | k_is | k_exc | kernel_rfl | decide
    obtain ⟨f, fd, F, hm⟩ := T.d_law
    have e0 := hmg.symm.trans hm
    cases e0
    obtain ⟨oc, od, kV, doc, pm, an, cdv, ct, osl, rfl, lk, hcd⟩ := id F.ex
    exact ⟨_, fun s u => .of_eq rfl, fun base kb nb => K60.law_fn T F⟩
#print axioms PySem.Challenge.cw_turnleaf_k60_leaves_of_a_line_holds
