
import PyProof.Rows.All
import Wide.All
import OpenK.AllK
import Wide.FinOn
import Lean
import PyProof.EqAt
import PyProof.EqKinds
import PyProof.TupleCall
import PyProof.NeData
import PyProof.ZipIter
import PyProof.WalksEnum
import PyProof.Rows.SetFrom
import PyProof.StrLawsTight
import PyProof.StrLawsChain
import PyProof.StrCalls2
import PyProof.ListStr
import PyProof.Rows.StrOrd
import KE.KRevIter
import PyProof.ExcInit
import PyProof.InstStoreFacts
import PyProof.ExcArgs
import PyProof.ExcAttrAll.ValueError
import PyProof.NsDelKeeps
import PyProof.RulesAs
import OpenK.KCls
import PyProof.Rows.TupAssign
import PyProof.StrLawsIn
import KE.KDictSum
import PyProof.DictWalks
import PyProof.Rows.CountFlat
import PySem.Challenge.RW_turnleaf_k08_sieves_refused
set_option maxHeartbeats 4000000
set_option Elab.async false
set_option linter.all false
set_option maxRecDepth 100000
/-! THE HAND LAYER, for ints, bools, texts, own classes, LISTS and tuples (index, slices, in, append, pop ..), calls, loops. Paste it whole ahead of your own text; what your proof does not reach may be deleted. -/
namespace L2
open PySem PySem.Spec PyProof.Rows

/-- a key: an int or a str -/
abbrev Key := Sum Int Str
def keyIs : Key → Value → Bool
  | .inl k, v => Value.isInt k v
  | .inr x, v => Value.isStrOf x v
def keyH (w : World) : Key → Int
  | .inl k => hashInt k
  | .inr x => hashStr w x
theorem keyIs_shape : ∀ {k : Key} {v : Value}, keyIs k v = true → (∃ i t, k = Sum.inl i ∧ v = Value.int i t) ∨ (∃ x t, k = Sum.inr x ∧ v = Value.str x t)
  | .inl i, v, h => by
    obtain ⟨t, e⟩ := Value.isInt_shape (k := i) (v := v) h
    exact .inl ⟨i, t, rfl, e⟩
  | .inr x, v, h => by
    obtain ⟨t, e⟩ := Value.isStrOf_shape (x := x) (v := v) h
    exact .inr ⟨x, t, rfl, e⟩
theorem key_ll (a b : Int) : decide ((Sum.inl a : Key) = Sum.inl b) = (a == b) := by
  by_cases e : a = b
  · subst e; simp
  · have h : ¬ (Sum.inl a : Key) = Sum.inl b := fun q => e (Sum.inl.inj q)
    rw [decide_eq_false h]
    exact (beq_eq_false_iff_ne.mpr e).symm
theorem key_rr (a b : Str) : decide ((Sum.inr a : Key) = Sum.inr b) = decide (a = b) := by
  by_cases e : a = b
  · subst e; simp
  · have h : ¬ (Sum.inr a : Key) = Sum.inr b := fun q => e (Sum.inr.inj q)
    rw [decide_eq_false h, decide_eq_false e]
theorem key_lr (a : Int) (b : Str) : decide ((Sum.inl a : Key) = Sum.inr b) = false := decide_eq_false (fun q => nomatch q)
theorem key_rl (a : Str) (b : Int) : decide ((Sum.inr a : Key) = Sum.inl b) = false := decide_eq_false (fun q => nomatch q)

def mixKind (prog : Program) (w : World) : PySem.KeyKind prog w Key where
  is := keyIs
  hash := keyH w
  inj := fun v a b ha hb => by
    rcases keyIs_shape ha with ⟨i, t, rfl, rfl⟩ | ⟨x, t, rfl, rfl⟩
    · rcases keyIs_shape hb with ⟨j, u, rfl, e⟩ | ⟨y, u, rfl, e⟩
      · injection e with e1 _; rw [e1]
      · exact nomatch e
    · rcases keyIs_shape hb with ⟨j, u, rfl, e⟩ | ⟨y, u, rfl, e⟩
      · exact nomatch e
      · injection e with e1 _; rw [e1]
  byValue := fun k v h => by
    rcases keyIs_shape h with ⟨i, t, rfl, rfl⟩ | ⟨x, t, rfl, rfl⟩ <;> rfl
  pyHash := fun hv h => by
    rcases keyIs_shape hv with ⟨i, t, rfl, rfl⟩ | ⟨x, t, rfl, rfl⟩
    · exact wpAny_pyHash_int h
    · exact wpAny_pyHash_str h
  eqBool := fun hu hv h => by
    rcases keyIs_shape hu with ⟨i, t, rfl, rfl⟩ | ⟨x, t, rfl, rfl⟩
    · rcases keyIs_shape hv with ⟨j, u, rfl, rfl⟩ | ⟨y, u, rfl, rfl⟩
      · rw [key_ll] at h; exact wpAny_eqBool_int h
      · rw [key_lr] at h; exact SeqAt.EqAt.int_str i t y u _ _ _ _ h
    · rcases keyIs_shape hv with ⟨j, u, rfl, rfl⟩ | ⟨y, u, rfl, rfl⟩
      · rw [key_rl] at h; exact SeqAt.EqAt.str_int x t j u _ _ _ _ h
      · rw [key_rr] at h; exact wpAny_eqBool_str h
  «strs» := fun k x t v h => by
    rcases keyIs_shape h with ⟨i, u, rfl, e⟩ | ⟨y, u, rfl, e⟩
    · exact nomatch e
    · injection e with e1 _
      subst e1
      cases v <;> rfl

end L2

namespace L2
open PySem PySem.Spec PyProof.Rows

/-- a value, without the heap -/
inductive V where
  | non | bl (b : Bool) | int (i : Int) | str (x : Str) | byt (b : Array UInt8) | flt (b : UInt64) | ref (a : Addr) | ty (n : String)
  deriving DecidableEq

def RelV : V → Value → Prop
  | .non, u => u = Value.none
  | .bl b, u => u = Value.bool b
  | .int i, u => ∃ t, u = Value.int i t
  | .str x, u => ∃ t, u = Value.str x t
  | .byt b, u => ∃ t, u = Value.bytes b t
  | .flt b, u => ∃ t, u = Value.float b t
  | .ref a, u => u = Value.ref a
  | .ty n, u => u = Value.type n

abbrev Vals : List V → List Value → Prop := Paired RelV
theorem Vals.length {xs : List V} {us : List Value} (r : Vals xs us) : xs.length = us.length := Paired.length r
theorem Vals.get : ∀ {xs : List V} {us : List Value} {i : Nat} {x : V}, Vals xs us → xs[i]? = some x → ∃ u, us[i]? = some u ∧ RelV x u
  | _, _, _, _, .nil, e => by simp at e
  | _, _, 0, _, .cons r _, e => by simp at e; subst e; exact ⟨_, rfl, r⟩
  | _, _, i + 1, x, .cons _ t, e => by
    obtain ⟨u, h1, h2⟩ := Vals.get (i := i) (x := x) t (by simpa using e)
    exact ⟨u, by simpa using h1, h2⟩
theorem Vals.append : ∀ {xs ys : List V} {us ws : List Value}, Vals xs us → Vals ys ws → Vals (xs ++ ys) (us ++ ws)
  | _, _, _, _, .nil, s => s
  | _, _, _, _, .cons r t, s => .cons r (Vals.append t s)
theorem Vals.take : ∀ {xs : List V} {us : List Value} (n : Nat), Vals xs us → Vals (xs.take n) (us.take n)
  | _, _, 0, _ => .nil
  | _, _, _ + 1, .nil => .nil
  | _, _, n + 1, .cons r t => .cons r (Vals.take n t)
theorem Vals.drop : ∀ {xs : List V} {us : List Value} (n : Nat), Vals xs us → Vals (xs.drop n) (us.drop n)
  | _, _, 0, r => r
  | _, _, _ + 1, .nil => .nil
  | _, _, n + 1, .cons _ t => Vals.drop n t
def RelO : Option V → Option Value → Prop
  | some v, some u => RelV v u
  | none, none => True
  | _, _ => False
def KV {κ : Type} : List (κ × V) → List (κ × Value) → Prop := Paired fun (p : κ × V) (q : κ × Value) => p.1 = q.1 ∧ RelV p.2 q.2

/-- a key of a dict (00_mix): an int or a text -/
def kV : Key → V
  | .inl i => .int i
  | .inr x => .str x

/-- what stands at a tracked address -/
inductive HO where
  /-- a list -/
  | lst (xs : List V)
  /-- a tuple (never changes) -/
  | tup (xs : List V)
  /-- a dict whose keys are ints and texts; one whose keys are tuples of ints and texts (the empty one is both) -/
  | dK (kvs : List (Key × V)) | dT (kvs : List (List Key × V))
  /-- a set of ints: its members, its size -/
  | set (S : Int → Bool) (n : Nat)
  /-- an instance of the class at C, its dict at dx, its attributes -/
  | ins (C dx : Addr) (fs : List (Str × V))
  /-- the dict of the instance at x -/
  | own (x : Addr)
  /-- the dict of an exception -/
  | xd (fs : List (Str × V))
  /-- a bound method, f of x -/
  | met (f x : Addr)
  /-- a range object lo, lo + 1, .. below hi -/
  | rng (lo hi : Int)
  /-- a thing that is known to the object (the script; a dict while a loop walks it): read, never written while it is so -/
  | frz (o : Obj) (u : HO)
  /-- a code object's table -/
  | tbl (ps : Array Value)
  /-- any other thing, by what is true of its one object (a def of one's own: SetO a S n := HO.ext fun h => ..) -/
  | ext (φ : Heap → Prop)

abbrev Hp := Addr → Option HO
def upd (H : Hp) (a : Addr) (o : HO) : Hp := fun b => if b = a then some o else H b
theorem upd_same {H : Hp} {a : Addr} {o : HO} : upd H a o a = some o := by unfold upd; rw [if_pos rfl]
theorem upd_ne {H : Hp} {a b : Addr} {o : HO} (h : b ≠ a) : upd H a o b = H b := by unfold upd; rw [if_neg h]
theorem ne_of_none {H : Hp} {a b : Addr} {o : HO} (h : H a = some o) (h' : H b = none) : a ≠ b := by
  intro e; subst e; rw [h] at h'; cases h'

section
variable (P : Program) (w : World)
def ObjOk (H : Hp) (h : Heap) (a : Addr) : HO → Prop
  | .lst xs => xs.length ≤ sizeLine ∧ ∃ (its : List Value) (n : Nat), Vals xs its ∧ h.get? a = some { cls := .type "list", data := .seq its.toArray n }
  | .tup xs => xs.length ≤ sizeLine ∧ ∃ its : List Value, Vals xs its ∧ IsTup h a its.toArray
  | .dK kvs => kvs.length ≤ sizeLine ∧ (a == sysModules) = false ∧ ∃ vs, KV kvs vs ∧ h.DictOf (mixKind P w) a vs
  | .dT kvs => kvs.length ≤ sizeLine ∧ (a == sysModules) = false ∧ ∃ xs : List (List Key × Addr × Value),
      Paired (fun (p : List Key × V) (q : List Key × Addr × Value) => p.1 = q.1 ∧ H q.2.1 = some (.tup (p.1.map kV)) ∧ RelV p.2 q.2.2) kvs xs ∧
      ∃ o es ep, h.get? a = some o ∧ o.ExactDict ∧ o.data = .dict es ep ∧ es.toList = xs.map (entryOfKey (tupleKind (mixKind P w))) ∧ (xs.map (·.1)).Nodup
  | .set S n => h.SetOf (intKind P w) a S n
  | .ins C dx fs => H dx = some (.own a) ∧ fs.length ≤ 1000 ∧ dx ≠ a ∧ h.get? a = some (PySem.W.instObj C dx) ∧
      ∃ mA, h.Ns1 dx mA ∧ (∀ f, RelO (fs.lookup f) (mA f)) ∧ PySem.Within mA (fs.map (·.1))
  | .own _ => ∃ o, h.get? a = some o
  | .xd fs => ∃ mA, h.Ns1 a mA ∧ ∀ f, RelO (fs.lookup f) (mA f)
  | .rng lo hi => ∃ t u v, h.get? a = some { cls := .type "range", data := .fields #[.int lo t, .int hi u, .int 1 v] }
  | .frz o u => h.get? a = some o ∧ ObjOk H h a u
  | .tbl ps => h.get? a = some { cls := .none, data := .fields ps }
  | .met f x => h.get? a = some (PySem.W.methodObj (.ref f) (.ref x))
  | .ext φ => φ h ∧ (∃ o, h.get? a = some o) ∧ ∀ h1 h2 : Heap, φ h1 → (∀ o, h1.get? a = some o → h2.get? a = some o) → φ h2
/-- the abstract heap is held -/
def HOk (H : Hp) (h : Heap) : Prop := ∀ a o, H a = some o → ObjOk P w H h a o
end

section
variable {P : Program} {w : World} {H H' : Hp} {h h' : Heap} {a : Addr} {o : HO}
theorem ObjOk.lt (x : ObjOk P w H h a o) : a < h.objs.size := by
  cases o with
  | lst xs => obtain ⟨_, _, _, _, e⟩ := x; exact Heap.lt_size e
  | tup xs => obtain ⟨_, _, _, p⟩ := x; exact p.lt
  | dK kvs => obtain ⟨_, _, _, _, o, _, _, e, _⟩ := x; exact Heap.lt_size e
  | dT kvs => obtain ⟨_, _, _, _, o, _, _, e, _⟩ := x; exact Heap.lt_size e
  | set S n => obtain ⟨o, _, _, _, e, _⟩ := x; exact Heap.lt_size e
  | ins C dx fs => obtain ⟨_, _, _, e, _⟩ := x; exact Heap.lt_size e
  | own y => obtain ⟨_, e⟩ := x; exact Heap.lt_size e
  | xd fs => obtain ⟨_, ⟨_, _, _, e, _⟩, _⟩ := x; exact Heap.lt_size e
  | rng lo hi => obtain ⟨_, _, _, e⟩ := x; exact Heap.lt_size e
  | frz ob u => obtain ⟨e, _⟩ := x; exact Heap.lt_size e
  | tbl ps => exact Heap.lt_size (show h.get? a = some _ from x)
  | met f y => exact Heap.lt_size (show h.get? a = some _ from x)
  | ext φ => obtain ⟨_, ⟨_, e⟩, _⟩ := x; exact Heap.lt_size e
theorem Paired.mapP {α β : Type} {F G : α → β → Prop} : ∀ {l₁ : List α} {l₂ : List β}, Paired F l₁ l₂ → (∀ a b, F a b → G a b) → Paired G l₁ l₂
  | _, _, .nil, _ => .nil
  | _, _, .cons r t, f => .cons (f _ _ r) (Paired.mapP t f)
/-- what an object's description leans on: its own object, its own dict, the tuples -/
theorem ObjOk.stay (x : ObjOk P w H h a o) (k : ∀ b u, (b = a ∨ H b = some (.own a)) → h.get? b = some u → h'.get? b = some u)
    (ho : ∀ b, H b = some (.own a) → H' b = some (.own a)) (ht : ∀ b xs, H b = some (.tup xs) → H' b = some (.tup xs)) : ObjOk P w H' h' a o := by
  induction o with
  | lst xs => obtain ⟨z, its, n, r, e⟩ := x; exact ⟨z, its, n, r, k _ _ (.inl rfl) e⟩
  | tup xs => obtain ⟨z, its, r, ob, e, c⟩ := x; exact ⟨z, its, r, ob, k _ _ (.inl rfl) e, c⟩
  | dK kvs => obtain ⟨z, y, vs, r, ob, es, ep, e, c⟩ := x; exact ⟨z, y, vs, r, ob, es, ep, k _ _ (.inl rfl) e, c⟩
  | dT kvs =>
    obtain ⟨z, y, xs, r, ob, es, ep, e, c⟩ := x
    exact ⟨z, y, xs, Paired.mapP r fun p q z => ⟨z.1, ht _ _ z.2.1, z.2.2⟩, ob, es, ep, k _ _ (.inl rfl) e, c⟩
  | set S n => obtain ⟨ob, es, ep, t, e, c⟩ := x; exact ⟨ob, es, ep, t, k _ _ (.inl rfl) e, c⟩
  | ins C dx fs =>
    obtain ⟨d, z, ne, e, mA, ⟨od, es, ep, e2, c⟩, r⟩ := x
    exact ⟨ho _ d, z, ne, k _ _ (.inl rfl) e, mA, ⟨od, es, ep, k _ _ (.inr d) e2, c⟩, r⟩
  | own y => obtain ⟨ob, e⟩ := x; exact ⟨ob, k _ _ (.inl rfl) e⟩
  | xd fs => obtain ⟨mA, ⟨od, es, ep, e, c⟩, r⟩ := x; exact ⟨mA, ⟨od, es, ep, k _ _ (.inl rfl) e, c⟩, r⟩
  | rng lo hi => obtain ⟨t, u, v, e⟩ := x; exact ⟨t, u, v, k _ _ (.inl rfl) e⟩
  | frz ob u ih => obtain ⟨e, q⟩ := x; exact ⟨k _ _ (.inl rfl) e, ih q⟩
  | tbl ps =>
    have e : h.get? a = some { cls := .none, data := .fields ps } := x
    show h'.get? a = some { cls := .none, data := .fields ps }
    exact k a _ (.inl rfl) e
  | met f y =>
    have e : h.get? a = some (PySem.W.methodObj (.ref f) (.ref y)) := x
    show h'.get? a = some (PySem.W.methodObj (.ref f) (.ref y))
    exact k a _ (.inl rfl) e
  | ext φ => obtain ⟨p, ⟨o, e⟩, st⟩ := x; exact ⟨st _ _ p fun o q => k _ _ (.inl rfl) q, ⟨o, k _ _ (.inl rfl) e⟩, st⟩
theorem HOk.lt (x : HOk P w H h) (e : H a = some o) : a < h.objs.size := (x a o e).lt
theorem HOk.fresh (x : HOk P w H h) (e : h.objs.size ≤ a) : H a = none := by
  cases q : H a with
  | none => rfl
  | some u => exact absurd (Nat.lt_of_lt_of_le (x.lt q) e) (Nat.lt_irrefl _)
/-- every object of the heap is kept -/
theorem HOk.kept (x : HOk P w H h) (k : ∀ b u, h.get? b = some u → h'.get? b = some u) : HOk P w H h' := fun a o e =>
  (x a o e).stay (fun b u _ q => k b u q) (fun _ q => q) fun _ _ q => q
/-- a new object is laid and tracked -/
theorem HOk.laid (x : HOk P w H h) (k : ∀ b u, h.get? b = some u → h'.get? b = some u) (hp : h.objs.size ≤ a) (new : ObjOk P w (upd H a o) h' a o) : HOk P w (upd H a o) h' := fun b u e => by
  have hn := x.fresh hp
  by_cases hb : b = a
  · subst hb; rw [upd_same] at e; cases e; exact new
  · rw [upd_ne hb] at e
    exact (x b u e).stay (fun c v _ q => k c v q) (fun c q => by rw [upd_ne (ne_of_none q hn)]; exact q) fun c xs q => by rw [upd_ne (ne_of_none q hn)]; exact q
end

/-- what may be read as u: it is u, or a known u -/
def Rd (H : Hp) (a : Addr) (u : HO) : Prop := H a = some u ∨ ∃ o, H a = some (.frz o u)
theorem Rd.ok {P : Program} {w : World} {H : Hp} {h : Heap} {a : Addr} {u : HO} (r : Rd H a u) (x : HOk P w H h) : ObjOk P w H h a u := by
  rcases r with r | ⟨o, r⟩
  · exact x a u r
  · obtain ⟨_, q⟩ := x a _ r
    exact q
/-- what may be written -/
def Mut : Option HO → Prop
  | some (.lst _) => True
  | some (.dK _) => True
  | some (.dT _) => True
  | some (.set _ _) => True
  | some (.ins _ _ _) => True
  | some (.ext _) => True
  | _ => False
section
variable {P : Program} {w : World} {H : Hp} {h h' : Heap} {x e : Addr} {o' : HO}
/-- the object at e is changed: x itself, or the dict of the instance x -/
theorem HOk.write (ok : HOk P w H h) (mu : Mut (H x)) (he : e = x ∨ H e = some (.own x)) (k : ∀ b u, b ≠ e → h.get? b = some u → h'.get? b = some u) (heo : ∃ u, h'.get? e = some u)
    (new : ObjOk P w (upd H x o') h' x o') : HOk P w (upd H x o') h' := fun b u q => by
  have nown : ∀ c y, H c = some (.own y) → c ≠ x := fun c y r z => by subst z; rw [r] at mu; exact mu
  have ntup : ∀ c xs, H c = some (.tup xs) → c ≠ x := fun c xs r z => by subst z; rw [r] at mu; exact mu
  by_cases hb : b = x
  · subst hb; rw [upd_same] at q; cases q; exact new
  · rw [upd_ne hb] at q
    by_cases hbe : b = e
    · have q' : H b = some (.own x) := by
        rcases he with z | z
        · exact absurd (hbe.trans z) hb
        · rw [hbe]; exact z
      rw [q] at q'; cases q'
      obtain ⟨v, hv⟩ := heo
      exact ⟨v, by rw [hbe]; exact hv⟩
    · refine (ok b u q).stay (fun c v hc r => k c v ?_ r) (fun c r => by rw [upd_ne (nown c b r)]; exact r) fun c xs r => by rw [upd_ne (ntup c xs r)]; exact r
      rcases hc with rfl | hc
      · exact hbe
      · rintro rfl
        rcases he with z | z
        · exact nown c b hc z
        · rw [hc] at z; cases z; exact hb rfl
end

/-! ### kept unless tracked; of the frames at fs (the callers') the slots may change (an exception that passes writes there); of the records at ex (iterators) nothing is said -/
structure Un (fs ex : List Addr) (H H' : Hp) (h h' : Heap) : Prop where
  keep : ∀ b o, h.get? b = some o → H b = none → b ∉ fs → b ∉ ex → h'.get? b = some o
  slot : ∀ b o, h.get? b = some o → H b = none → b ∈ fs → b ∉ ex → ∃ sl, h'.get? b = some { o with slots := sl }
  free : ∀ b o, h.get? b = some o → H b = none → b ∉ ex → H' b = none
  there : ∀ b o, h.get? b = some o → b ∉ ex → ∃ o', h'.get? b = some o'
  tups : ∀ b xs, H b = some (.tup xs) → H' b = some (.tup xs)
  frzs : ∀ b o u, H b = some (.frz o u) → H' b = some (.frz o u)
  tbls : ∀ b ps, H b = some (.tbl ps) → ∃ more, H' b = some (.tbl (ps ++ more))
section
variable {fs fs' ex ex' : List Addr} {H H1 H2 : Hp} {h h1 h2 h' : Heap} {a x e : Addr} {o : HO}
theorem Un.any (u : Un fs ex H H1 h h1) {b : Addr} {ob : Obj} (q : h.get? b = some ob) (n : H b = none) (hx : b ∉ ex) : ∃ sl, h1.get? b = some { ob with slots := sl } := by
  by_cases hb : b ∈ fs
  · exact u.slot b ob q n hb hx
  · exact ⟨ob.slots, u.keep b ob q n hb hx⟩
theorem Un.kept (k : ∀ b u, h.get? b = some u → h'.get? b = some u) : Un fs ex H H h h' :=
  ⟨fun b ob q _ _ _ => k b ob q, fun b ob q _ _ _ => ⟨ob.slots, k b ob q⟩, fun _ _ _ n _ => n, fun b ob q _ => ⟨ob, k b ob q⟩, fun _ _ q => q, fun _ _ _ q => q, fun _ ps q => ⟨#[], by rw [q]; simp⟩⟩
theorem Un.refl : Un fs ex H H h h := Un.kept fun _ _ q => q
theorem Un.laid (k : ∀ b u, h.get? b = some u → h'.get? b = some u) (hp : h.objs.size ≤ a) (hn : H a = none) : Un fs ex H (upd H a o) h h' where
  keep := fun b u q _ _ _ => k b u q
  slot := fun b u q _ _ _ => ⟨u.slots, k b u q⟩
  free := fun b u q n _ => by rw [upd_ne (Nat.ne_of_lt (Nat.lt_of_lt_of_le (Heap.lt_size q) hp))]; exact n
  there := fun b u q _ => ⟨u, k b u q⟩
  tups := fun b xs q => by rw [upd_ne (ne_of_none q hn)]; exact q
  frzs := fun b u xs q => by rw [upd_ne (ne_of_none q hn)]; exact q
  tbls := fun b ps q => ⟨#[], by rw [upd_ne (ne_of_none q hn), q]; simp⟩
theorem Un.write (mu : Mut (H x)) (he : e = x ∨ H e = some (.own x)) (k : ∀ b u, b ≠ e → h.get? b = some u → h'.get? b = some u) (heo : ∃ u, h'.get? e = some u) : Un fs ex H (upd H x o) h h' := by
  have hx : ∀ b, H b = none → b ≠ x := fun b n z => by subst z; rw [n] at mu; exact mu
  have hb : ∀ b, H b = none → b ≠ e := fun b n z => by
    subst z
    rcases he with r | r
    · exact hx b n r
    · rw [n] at r; cases r
  have hm : ∀ b u, H b = some u → ¬ Mut (some u) → b ≠ x := fun b u q nm z => by subst z; rw [q] at mu; exact nm mu
  refine ⟨fun b u q n _ _ => k b u (hb b n) q, fun b u q n _ _ => ⟨u.slots, k b u (hb b n) q⟩, fun b u q n _ => by rw [upd_ne (hx b n)]; exact n, fun b u q _ => ?_,
    fun b xs q => by rw [upd_ne (hm b _ q fun z => z)]; exact q, fun b u xs q => by rw [upd_ne (hm b _ q fun z => z)]; exact q, fun b ps q => ⟨#[], by rw [upd_ne (hm b _ q fun z => z), q]; simp⟩⟩
  by_cases hbe : b = e
  · subst hbe; exact heo
  · exact ⟨u, k b u hbe q⟩
end

/-! ### the heap without what is tracked -/
def trk (h : Heap) (H : Hp) : List Addr := (List.range h.objs.size).filter fun a => (H a).isSome
def hidT (h : Heap) (H : Hp) : Heap := PySem.W.hideAll h (trk h H)
theorem hidT_size (h : Heap) (H : Hp) : (hidT h H).objs.size = h.objs.size := PySem.W.hideAll_size _ _
theorem hidT_get {h : Heap} {H : Hp} {b : Addr} {o : Obj} (e : h.get? b = some o) (n : H b = none) : (hidT h H).get? b = some o :=
  PySem.W.hideAll_get _ e fun hm => by
    have q : (H b).isSome = true := (List.mem_filter.mp hm).2
    rw [n] at q; simp at q
theorem of_hidT {h : Heap} {H : Hp} {b : Addr} {o : Obj} (e : (hidT h H).get? b = some o) : h.get? b = some o ∧ H b = none := by
  have e' : h.get? b = some o := PySem.W.of_hideAll (trk h H) e
  refine ⟨e', ?_⟩
  cases q : H b with
  | none => rfl
  | some x =>
    have hm : b ∈ trk h H := List.mem_filter.mpr ⟨List.mem_range.mpr (Heap.lt_size e'), by simp [q]⟩
    have z : (hidT h H).get? b = none := PySem.W.hideAll_none (trk h H) hm
    rw [z] at e; cases e

/-! ### OpenK's ledger, filled with every new object but one -/
def allNews (g h : Heap) (L : Addr) : List (Addr × Obj) := (List.range h.objs.size).filterMap fun a => if a = L ∨ (g.get? a).isSome = true then none else (h.get? a).map fun o => (a, o)
def rest (g h : Heap) (L d : Addr) : List (Addr × Obj) := (allNews g h L).filter fun p => decide (p.1 ≠ d)
end L2

namespace L2
open PySem PySem.Spec PyProof.Rows

/-- the module's facts, over the base: the heap at the law's entry without what is tracked there -/
structure Mod (K : PySem.W.Frag) (mg : Str → Option Value) (base : Heap) : Prop where
  kin : K.In base
  glob : base.Ns mainGlobals mg
  blt : ∃ mb, base.Ns builtinsNs mb ∧ ∀ x : Str, x ≠ "__name__" → mb x = bootBuiltins x
  nolimit : base.NoLimit

/-- the context: a def's body (or a comprehension's block) running. base: fixed through the whole law; s₀, H₀: the entry; outer: the frames whose slots others may change (a def's callers); stack: all frames that run;
   ex: iterators that were made ahead of the entry and are walked here (a comprehension's); fn: the names whose cells were made at the entry (a def: all; a comprehension's block: its own); calm: not within an except suite; pn: pins that every state bears; xe: what is wanted of an exception that leaves the code -/
structure Cx where
  prog : Program
  w : World
  K : PySem.W.Frag
  mg : Str → Option Value
  base : Heap
  A : Around
  N : List Str
  s₀ : Shared
  H₀ : Hp
  env : Env
  outer : List Env
  stack : List Env
  ex : List Addr
  fn : Str → Bool
  calm : Bool
  pn : List (Addr × Obj)
  xe : Value → Shared → Prop
/-- the callers' frames -/
def frs (l : List Env) : List Addr := l.filterMap (·.frame)
abbrev Cx.fs (X : Cx) : List Addr := frs X.outer

def Vis (sc : Scope) (x : Str) : Prop := sc.names.lookup x = some .local ∨ sc.names.lookup x = some .cell ∨ sc.names.lookup x = some .free
def Loc (sc : Scope) (x : Str) : Prop := sc.names.lookup x = some .local ∨ sc.names.lookup x = some .cell
def Look (env : Env) (h : Heap) (m : Str → Option Value) (x : Str) (u : Value) : Prop :=
  (env.kindOf x = some .local ∧ m x = some u) ∨ ((env.kindOf x = some .cell ∨ env.kindOf x = some .free) ∧ ∃ c, env.cells.lookup x = some c ∧ h.IsCell c (some u))

structure Cx.Ok (X : Cx) : Prop where
  mod : Mod X.K X.mg X.base
  kind : X.env.scope.kind = .function
  glob : X.env.globals = mainGlobals
  blt : X.env.builtins = builtinsNs
  above : X.s₀.heap.objs.size ≤ X.env.locals
  inj : ∀ x y c, X.env.cells.lookup x = some c → X.env.cells.lookup y = some c → x = y
  has : ∀ x, (X.env.kindOf x = some .cell ∨ X.env.kindOf x = some .free) → ∃ c, X.env.cells.lookup x = some c
  cab : ∀ x c, X.fn x = true → X.env.cells.lookup x = some c → X.s₀.heap.objs.size ≤ c
  hd : X.calm = true → X.A.handled = none
  frames : X.A.frames = some X.stack
  stk : X.stack = X.outer ∨ (X.stack = X.env :: X.outer ∧ X.env.frame = some X.env.locals)
  exf : ∀ b ∈ X.ex, b ≠ X.env.locals ∧ ∀ x c, X.env.cells.lookup x = some c → c ≠ b
  bs : ∀ b o, X.base.get? b = some o → X.s₀.heap.get? b = some o ∧ X.H₀ b = none
  bsz : X.base.objs.size ≤ X.s₀.heap.objs.size
  noex : ∀ b o, X.base.get? b = some o → b ∉ X.ex
  exfs : ∀ b ∈ X.ex, b ∉ X.fs
  funs : X.s₀.heap.FunFrames X.base X.outer
  frf : ∀ b ∈ X.fs, X.H₀ b = none

structure Inv (X : Cx) (pins : List (Addr × Obj)) (σ : List (Option V)) (H : Hp) (s : Shared) : Prop where
  ok : X.Ok
  os : s.os = X.s₀.os
  bare : AllBare s.gens
  base : Un X.fs X.ex X.H₀ H X.s₀.heap s.heap
  loc : ∃ m, s.heap.Ns X.env.locals m ∧ ∀ (i : Nat) (x : Str) (v : V), X.N[i]? = some x → σ[i]? = some (some v) → Vis X.env.scope x → ∃ u, RelV v u ∧ Look X.env s.heap m x u
  cell : ∀ x c, X.env.cells.lookup x = some c → ∃ v, s.heap.IsCell c v
  free : H X.env.locals = none
  freeC : ∀ x c, X.env.cells.lookup x = some c → H c = none
  pin : ∀ p ∈ X.pn ++ pins, s.heap.get? p.1 = some p.2 ∧ H p.1 = none ∧ p.1 ≠ X.env.locals ∧ p.1 ∉ X.fs ∧ ∀ v, p.2.data ≠ .cell v
  hok : HOk X.prog X.w H s.heap
  len : σ.length = X.N.length

section
variable {X : Cx} {pins : List (Addr × Obj)} {σ : List (Option V)} {H H' : Hp} {s : Shared} {h' : Heap}

theorem Cx.Ok.nofr (ok : X.Ok) {b : Addr} {o : Obj} (e : X.base.get? b = some o) : b ∉ X.fs := fun hb => by
  have := (ok.funs.mem hb).1
  rw [e] at this; cases this
theorem Inv.bs (I : Inv X pins σ H s) : ∀ b o, X.base.get? b = some o → s.heap.get? b = some o ∧ H b = none := fun b o e =>
  ⟨I.base.keep b o (I.ok.bs b o e).1 (I.ok.bs b o e).2 (I.ok.nofr e) (I.ok.noex b o e), I.base.free b o (I.ok.bs b o e).1 (I.ok.bs b o e).2 (I.ok.noex b o e)⟩
theorem Inv.bk (I : Inv X pins σ H s) : ∀ b o, X.base.get? b = some o → s.heap.get? b = some o := fun b o e => (I.bs b o e).1
theorem Inv.mod (I : Inv X pins σ H s) : Mod X.K X.mg X.base := I.ok.mod
theorem Inv.kIn (I : Inv X pins σ H s) : X.K.In s.heap := I.ok.mod.kin.keeps I.bk
theorem Inv.lt (I : Inv X pins σ H s) : X.env.locals < s.heap.objs.size := let ⟨_, hn, _⟩ := I.loc; hn.lt
theorem Inv.sz (I : Inv X pins σ H s) : X.s₀.heap.objs.size ≤ s.heap.objs.size := Nat.le_trans I.ok.above (Nat.le_of_lt I.lt)
theorem Inv.nofs (I : Inv X pins σ H s) {a : Addr} (h : s.heap.objs.size ≤ a) : a ∉ X.fs := fun hb => by
  obtain ⟨_, o, ho, _⟩ := I.ok.funs.mem hb
  exact absurd (Nat.lt_of_lt_of_le (Heap.lt_size ho) (Nat.le_trans I.sz h)) (Nat.lt_irrefl _)
theorem Inv.cne (I : Inv X pins σ H s) : ∀ x c, X.env.cells.lookup x = some c → c ≠ X.env.locals := fun x c e z => by
  obtain ⟨v, o, ho, hd⟩ := I.cell x c e
  obtain ⟨m, ⟨o', es, ep, ho', hd', _⟩, _⟩ := I.loc
  rw [z, ho'] at ho; cases ho; rw [hd'] at hd; cases hd
theorem Inv.funs (I : Inv X pins σ H s) : s.heap.FunFrames X.base X.outer := by
  have all : ∀ (l : List Env), (∀ b ∈ frs l, b ∈ X.fs) → X.s₀.heap.FunFrames X.base l → s.heap.FunFrames X.base l := by
    intro l
    induction l with
    | nil => intro _ _; trivial
    | cons env r ih =>
      intro hs hl
      obtain ⟨hk, ⟨L, o, hf, hn, ho, hd⟩, hr⟩ := hl
      have hL : L ∈ X.fs := hs L (by unfold frs; rw [List.filterMap_cons, hf]; exact List.mem_cons_self)
      obtain ⟨sl, e⟩ := I.base.slot L o ho (I.ok.frf L hL) hL fun z => I.ok.exfs L z hL
      exact ⟨hk, ⟨L, _, hf, hn, e, hd⟩, ih (fun b hb => hs b (by unfold frs; rw [List.filterMap_cons, hf]; exact List.mem_cons_of_mem _ hb)) hr⟩
  exact all X.outer (fun _ hb => hb) I.ok.funs

/-- the frames that run, for a call -/
theorem Inv.stack (I : Inv X pins σ H s) : s.heap.FunFrames X.base X.stack := by
  rcases I.ok.stk with e | ⟨e, hf⟩
  · rw [e]; exact I.funs
  · rw [e]
    obtain ⟨m, hn, _⟩ := I.loc
    refine .cons (by rw [I.ok.kind]; decide) hf hn ?_ I.funs
    exact Heap.get?_none_of_le (Nat.le_trans I.ok.bsz I.ok.above)
theorem Inv.stkSub (I : Inv X pins σ H s) : ∀ b ∈ frs X.stack, b ∈ X.env.locals :: X.fs := fun b hb => by
  rcases I.ok.stk with e | ⟨e, hf⟩
  · rw [e] at hb; exact List.mem_cons_of_mem _ hb
  · rw [e] at hb
    unfold frs at hb
    rw [List.filterMap_cons, hf] at hb
    exact hb
theorem Inv.stkFree (I : Inv X pins σ H s) : ∀ b ∈ frs X.stack, H b = none := fun b hb => by
  rcases List.mem_cons.mp (I.stkSub b hb) with e | hb
  · rw [e]; exact I.free
  · obtain ⟨_, o, ho, _⟩ := I.ok.funs.mem hb
    exact I.base.free b o ho (I.ok.frf b hb) fun z => I.ok.exfs b z hb

/-- THE STEP: the untracked objects but the frame and the records at ch are kept (the callers' frames up to slots), the frame's map is kept, the new abstract heap is held -/
theorem Inv.step {g' : Array GenState} {t' : Nat} {d' : Drawn} {ch : List Addr} (I : Inv X pins σ H s)
    (hch : ∀ b ∈ ch, (b ∈ X.ex ∨ X.s₀.heap.get? b = none) ∧ b ≠ X.env.locals ∧ (∀ x c, X.env.cells.lookup x = some c → c ≠ b) ∧ ∀ p ∈ X.pn ++ pins, p.1 ≠ b)
    (keep : ∀ b o, b ≠ X.env.locals → b ∉ X.fs → b ∉ ch → s.heap.get? b = some o → H b = none → h'.get? b = some o)
    (slot : ∀ b o, b ≠ X.env.locals → b ∈ X.fs → b ∉ ch → s.heap.get? b = some o → H b = none → ∃ sl, h'.get? b = some { o with slots := sl }) (free : ∀ b o, b ∉ ch → s.heap.get? b = some o → H b = none → H' b = none)
    (there : ∀ b o, b ∉ ch → s.heap.get? b = some o → ∃ o', h'.get? b = some o')
    (tups : ∀ b xs, H b = some (.tup xs) → H' b = some (.tup xs)) (frzs : ∀ b o u, H b = some (.frz o u) → H' b = some (.frz o u)) (tbls : ∀ b ps, H b = some (.tbl ps) → ∃ more, H' b = some (.tbl (ps ++ more)))
    (ns : ∀ m, s.heap.Ns X.env.locals m → h'.Ns X.env.locals m) (hok : HOk X.prog X.w H' h') (hg : AllBare g') :
    Inv X pins σ H' { s with heap := h', gens := g', drawn := d', toks := t' } := by
  have neL : ∀ b o, X.s₀.heap.get? b = some o → b ≠ X.env.locals := fun b o e => Nat.ne_of_lt (Nat.lt_of_lt_of_le (Heap.lt_size e) I.ok.above)
  have neC : ∀ b o, X.s₀.heap.get? b = some o → b ∉ X.ex → b ∉ ch := fun b o e hx hb => by
    rcases (hch b hb).1 with z | z
    · exact hx z
    · rw [e] at z; cases z
  have cellK : ∀ x c, X.env.cells.lookup x = some c → ∀ v, s.heap.IsCell c v → h'.IsCell c v := fun x c e v ⟨o, ho, hd⟩ => by
    have nch : c ∉ ch := fun z => (hch c z).2.2.1 x c e rfl
    by_cases hc : c ∈ X.fs
    · obtain ⟨sl, q⟩ := slot c o (I.cne x c e) hc nch ho (I.freeC x c e)
      exact ⟨_, q, hd⟩
    · exact ⟨o, keep c o (I.cne x c e) hc nch ho (I.freeC x c e), hd⟩
  refine ⟨I.ok, I.os, hg, ⟨fun b o e n hb hx => ?_, fun b o e n hb hx => ?_, fun b o e n hx => ?_, fun b o e hx => ?_, fun b xs e => tups b xs (I.base.tups b xs e), fun b o xs e => frzs b o xs (I.base.frzs b o xs e), fun b ps e => ?_⟩, ?_, fun x c e => ?_, ?_, fun x c e => ?_, fun p hp => ?_, hok, I.len⟩
  · exact keep b o (neL b o e) hb (neC b o e hx) (I.base.keep b o e n hb hx) (I.base.free b o e n hx)
  · obtain ⟨sl, e1⟩ := I.base.slot b o e n hb hx
    obtain ⟨sl', e2⟩ := slot b _ (neL b o e) hb (neC b o e hx) e1 (I.base.free b o e n hx)
    exact ⟨sl', e2⟩
  · obtain ⟨o', e1⟩ := I.base.there b o e hx
    exact free b o' (neC b o e hx) e1 (I.base.free b o e n hx)
  · obtain ⟨o', e1⟩ := I.base.there b o e hx
    exact there b o' (neC b o e hx) e1
  · obtain ⟨m1, e1⟩ := I.base.tbls b ps e
    obtain ⟨m2, e2⟩ := tbls b _ e1
    exact ⟨m1 ++ m2, by rw [e2, Array.append_assoc]⟩
  · obtain ⟨m, hn, hl⟩ := I.loc
    refine ⟨m, ns m hn, fun i x v e1 e2 e3 => ?_⟩
    obtain ⟨u, r, l⟩ := hl i x v e1 e2 e3
    refine ⟨u, r, ?_⟩
    rcases l with l | ⟨k, c, e, z⟩
    · exact .inl l
    · exact .inr ⟨k, c, e, cellK x c e _ z⟩
  · obtain ⟨v, z⟩ := I.cell x c e
    exact ⟨v, cellK x c e v z⟩
  · obtain ⟨m, ⟨o, _, _, ho, _⟩, _⟩ := I.loc
    exact free _ o (fun z => (hch _ z).2.1 rfl) ho I.free
  · obtain ⟨v, o, ho, hd⟩ := I.cell x c e
    exact free c o (fun z => (hch c z).2.2.1 x c e rfl) ho (I.freeC x c e)
  · obtain ⟨e, n, ne, nf, d⟩ := I.pin p hp
    have nch : p.1 ∉ ch := fun z => (hch p.1 z).2.2.2 p hp rfl
    exact ⟨keep p.1 p.2 ne nf nch e n, free p.1 p.2 nch e n, ne, nf, d⟩
/-- .. where the frame's own object is kept too -/
theorem Inv.un {t' : Nat} (I : Inv X pins σ H s) (u : Un X.fs [] H H' s.heap h') (hok : HOk X.prog X.w H' h') : Inv X pins σ H' { s with heap := h', toks := t' } := by
  obtain ⟨m, ⟨o, es, ep, ho, r⟩, _⟩ := id I.loc
  obtain ⟨sl, hL⟩ := u.any ho I.free (by simp)
  exact I.step (g' := s.gens) (d' := s.drawn) (ch := []) (fun _ z => nomatch z) (fun b o _ hb _ e n => u.keep b o e n hb (by simp)) (fun b o _ hb _ e n => u.slot b o e n hb (by simp)) (fun b o _ e n => u.free b o e n (by simp)) (fun b o _ e => u.there b o e (by simp)) u.tups u.frzs u.tbls (fun m' hm => by
    obtain ⟨o', es', ep', ho', r'⟩ := hm
    rw [ho] at ho'; cases ho'
    exact ⟨_, es', ep', hL, r'⟩) hok I.bare
/-- behind a call (or a comprehension's block): the slots of this frame may have changed too, the records at ch may have turned -/
theorem Inv.call {g' : Array GenState} {t' : Nat} {d' : Drawn} {ch : List Addr} (I : Inv X pins σ H s) (u : Un (frs X.stack) ch H H' s.heap h') (hok : HOk X.prog X.w H' h') (hg : AllBare g')
    (hch : ∀ b ∈ ch, (b ∈ X.ex ∨ X.s₀.heap.get? b = none) ∧ b ≠ X.env.locals ∧ (∀ x c, X.env.cells.lookup x = some c → c ≠ b) ∧ ∀ p ∈ X.pn ++ pins, p.1 ≠ b) :
    Inv X pins σ H' { s with heap := h', gens := g', drawn := d', toks := t' } := by
  obtain ⟨m, ⟨o, es, ep, ho, r⟩, _⟩ := id I.loc
  obtain ⟨sl, hL⟩ := u.any ho I.free fun z => (hch _ z).2.1 rfl
  exact I.step (ch := ch) hch (fun b o hL hb hc e n => u.keep b o e n (fun z => (List.mem_cons.mp (I.stkSub b z)).elim hL hb) hc) (fun b o _ _ hc e n => u.any e n hc) (fun b o hc e n => u.free b o e n hc) (fun b o hc e => u.there b o e hc) u.tups u.frzs u.tbls (fun m' hm => by
    obtain ⟨o', es', ep', ho', r'⟩ := hm
    rw [ho] at ho'; cases ho'
    exact ⟨_, es', ep', hL, r'⟩) hok hg
/-- an untracked record of ours (an iterator) has turned -/
theorem Inv.turned {t' : Nat} {it : Addr} (I : Inv X pins σ H s) (k : ∀ b o, b ≠ it → s.heap.get? b = some o → h'.get? b = some o) (hn : H it = none) (hL : it ≠ X.env.locals)
    (h1 : it ∈ X.ex ∨ X.s₀.heap.get? it = none) (h2 : ∀ x c, X.env.cells.lookup x = some c → c ≠ it) (h3 : ∀ p ∈ X.pn ++ pins, p.1 ≠ it) : Inv X pins σ H { s with heap := h', toks := t' } := by
  have nit : ∀ b u, H b = some u → b ≠ it := fun b u e z => by rw [z, hn] at e; cases e
  refine I.step (g' := s.gens) (d' := s.drawn) (ch := [it]) (fun b hb => ?_) (fun b o _ _ hc e _ => k b o (fun z => hc (by simp [z])) e) (fun b o _ _ hc e _ => ⟨o.slots, k b o (fun z => hc (by simp [z])) e⟩) (fun _ _ _ _ n => n)
    (fun b o hc e => ⟨o, k b o (fun z => hc (by simp [z])) e⟩) (fun _ _ e => e) (fun _ _ _ e => e) (fun b ps e => ⟨#[], by rw [e]; simp⟩) (fun m hm => ?_) (fun b u e => ?_) I.bare
  · have e : b = it := by simpa using hb
    subst e
    exact ⟨h1, hL, h2, h3⟩
  · obtain ⟨o, es, ep, ho, r⟩ := hm
    exact ⟨o, es, ep, k _ o (Ne.symm hL) ho, r⟩
  · refine (I.hok b u e).stay (fun c v hc q => k c v ?_ q) (fun _ q => q) fun _ _ q => q
    rcases hc with z | z
    · rw [z]; exact nit b u e
    · exact nit c _ z
theorem Inv.tok (I : Inv X pins σ H s) (t : Nat) : Inv X pins σ H { s with toks := t } := I.un (h' := s.heap) (t' := t) Un.refl I.hok
/-- all objects kept -/
theorem Inv.kept {t' : Nat} (I : Inv X pins σ H s) (k : ∀ b u, s.heap.get? b = some u → h'.get? b = some u) : Inv X pins σ H { s with heap := h', toks := t' } := I.un (Un.kept k) (I.hok.kept k)
/-- a new object laid and tracked -/
theorem Inv.laid {a : Addr} {o : HO} {t' : Nat} (I : Inv X pins σ H s) (k : ∀ b u, s.heap.get? b = some u → h'.get? b = some u) (hp : s.heap.objs.size ≤ a) (new : ObjOk X.prog X.w (upd H a o) h' a o) :
    Inv X pins σ (upd H a o) { s with heap := h', toks := t' } := I.un (Un.laid k hp (I.hok.fresh hp)) (I.hok.laid k hp new)
/-- an object written -/
theorem Inv.write {x e : Addr} {o : HO} {t' : Nat} (I : Inv X pins σ H s) (mu : Mut (H x)) (he : e = x ∨ H e = some (.own x)) (k : ∀ b u, b ≠ e → s.heap.get? b = some u → h'.get? b = some u) (heo : ∃ u, h'.get? e = some u)
    (new : ObjOk X.prog X.w (upd H x o) h' x o) : Inv X pins σ (upd H x o) { s with heap := h', toks := t' } := I.un (Un.write mu he k heo) (I.hok.write mu he k heo new)
/-- forgetting slots, pins -/
theorem Inv.weak {σ' : List (Option V)} (I : Inv X pins σ H s) (hl : σ'.length = σ.length) (w : ∀ (i : Nat) v, σ'[i]? = some (some v) → σ[i]? = some (some v)) : Inv X pins σ' H s :=
  ⟨I.ok, I.os, I.bare, I.base, let ⟨m, hn, hl'⟩ := I.loc; ⟨m, hn, fun i x v e1 e2 e3 => hl' i x v e1 (w i v e2) e3⟩, I.cell, I.free, I.freeC, I.pin, I.hok, hl.trans I.len⟩
theorem Inv.pins_of {pins' : List (Addr × Obj)} (I : Inv X pins σ H s) (h : ∀ p ∈ pins', s.heap.get? p.1 = some p.2 ∧ H p.1 = none ∧ p.1 ≠ X.env.locals ∧ p.1 ∉ X.fs ∧ ∀ v, p.2.data ≠ .cell v) : Inv X pins' σ H s :=
  ⟨I.ok, I.os, I.bare, I.base, I.loc, I.cell, I.free, I.freeC, fun p hp => (List.mem_append.mp hp).elim (fun z => I.pin p (List.mem_append_left _ z)) (h p), I.hok, I.len⟩

theorem nodup_ix {N : List Str} (hN : N.Nodup) {i j : Nat} {x : Str} (a : N[i]? = some x) (b : N[j]? = some x) : i = j := by
  obtain ⟨h1, e1⟩ := List.getElem?_eq_some_iff.mp a
  obtain ⟨h2, e2⟩ := List.getElem?_eq_some_iff.mp b
  exact (List.getElem_inj hN).mp (e1.trans e2.symm)

/-- a name is stored; what changed -/
theorem store_ok2 {M : Model} {A : Around} {E : Value → Shared → Prop} {i : Nat} {x : Str} {v : V} {u : Value} {Q : Unit → Shared → Prop} (I : Inv X pins σ H s) (hN : X.N.Nodup) (hi : X.N[i]? = some x) (hx : Loc X.env.scope x) (r : RelV v u)
    (h : ∀ s', Inv X pins (σ.set i (some v)) H s' → (∃ a, Heap.SameBut a s.heap s'.heap ∧ (a = X.env.locals ∨ X.env.cells.lookup x = some a)) → Q () s') (hf : X.fn x = true ∨ X.env.scope.names.lookup x = some .local := by first | exact .inl rfl | exact .inr rfl | assumption) : wpAny M A (storeName X.env x u) Q E s := by
  obtain ⟨m, hn, hl⟩ := id I.loc
  have hcls : (X.env.scope.kind == .class || (X.env.scope.kind == .module && X.env.locals != X.env.globals)) = false := by rw [I.ok.kind]; rfl
  have hiσ : i < σ.length := by rw [I.len]; exact (List.getElem?_eq_some_iff.mp hi).1
  have cne := I.cne
  have tracked : ∀ {a : Addr} {h' : Heap}, (∃ o, s.heap.get? a = some o ∧ H a = none) → Heap.SameBut a s.heap h' → HOk X.prog X.w H h' := fun {a h'} ha hs b ob e => by
    obtain ⟨_, _, hfree⟩ := ha
    refine (I.hok b ob e).stay (fun c w' hc q => (hs.2 c ?_).trans q) (fun _ q => q) fun _ _ q => q
    rintro rfl
    rcases hc with rfl | hc
    · rw [hfree] at e; cases e
    · rw [hfree] at hc; cases hc
  rcases hx with hk | hk
  · refine wpAny_storeName_local hk hn (fun h' hn' hs => ?_) hcls
    obtain ⟨oL, _, _, hoL, _⟩ := id hn
    refine h _ ⟨I.ok, I.os, I.bare, ⟨fun b o e n hb hx => ?_, fun b o e n hb hx => ?_, I.base.free, fun b o e hx => ?_, I.base.tups, I.base.frzs, I.base.tbls⟩, ⟨_, hn', fun j y v' e1 e2 e3 => ?_⟩, fun y c e => ?_, I.free, I.freeC, fun p hp => ?_, tracked ⟨oL, hoL, I.free⟩ hs, by simpa using I.len⟩ ⟨_, hs, .inl rfl⟩
    · exact (hs.2 b (Nat.ne_of_lt (Nat.lt_of_lt_of_le (Heap.lt_size e) I.ok.above))).trans (I.base.keep b o e n hb hx)
    · obtain ⟨sl, e1⟩ := I.base.slot b o e n hb hx
      exact ⟨sl, (hs.2 b (Nat.ne_of_lt (Nat.lt_of_lt_of_le (Heap.lt_size e) I.ok.above))).trans e1⟩
    · obtain ⟨o', e1⟩ := I.base.there b o e hx
      exact ⟨o', (hs.2 b (Nat.ne_of_lt (Nat.lt_of_lt_of_le (Heap.lt_size e) I.ok.above))).trans e1⟩
    · by_cases hj : j = i
      · subst hj
        rw [hi] at e1; cases e1
        rw [List.getElem?_set_self hiσ] at e2
        cases e2
        exact ⟨u, r, .inl ⟨hk, by simp⟩⟩
      · rw [List.getElem?_set_ne (Ne.symm hj)] at e2
        obtain ⟨u', r', q⟩ := hl j y v' e1 e2 e3
        refine ⟨u', r', ?_⟩
        rcases q with ⟨k, e⟩ | ⟨k, c, e, z⟩
        · refine .inl ⟨k, ?_⟩
          have : y ≠ x := fun e => hj (nodup_ix hN e1 (e ▸ hi))
          simp [this, e]
        · exact .inr ⟨k, c, e, z.sameBut hs (cne y c e)⟩
    · obtain ⟨w', z⟩ := I.cell y c e
      exact ⟨w', z.sameBut hs (cne y c e)⟩
    · obtain ⟨e, n, ne, nf, d⟩ := I.pin p hp
      exact ⟨(hs.2 p.1 ne).trans e, n, ne, nf, d⟩
  · have hfn : X.fn x = true := by
      rcases hf with z | z
      · exact z
      · rw [z] at hk; cases hk
    obtain ⟨c, hc⟩ := I.ok.has x (.inl hk)
    obtain ⟨w', z⟩ := I.cell x c hc
    refine wpAny_storeName_cell I.ok.kind hk hc z (fun h' hc' hs => ?_)
    obtain ⟨oc, hoc, hocd⟩ := id z
    refine h { s with heap := h' } ⟨I.ok, I.os, I.bare, ⟨fun b o e n hb hx => ?_, fun b o e n hb hx => ?_, I.base.free, fun b o e hx => ?_, I.base.tups, I.base.frzs, I.base.tbls⟩, ⟨m, hn.sameBut hs (Ne.symm (cne x c hc)), fun j y v' e1 e2 e3 => ?_⟩, fun y c' e => ?_, I.free, I.freeC, fun p hp => ?_, tracked ⟨oc, hoc, I.freeC x c hc⟩ hs, by simpa using I.len⟩ ⟨c, hs, .inr hc⟩
    · exact (hs.2 b (Nat.ne_of_lt (Nat.lt_of_lt_of_le (Heap.lt_size e) (I.ok.cab x c hfn hc)))).trans (I.base.keep b o e n hb hx)
    · obtain ⟨sl, e1⟩ := I.base.slot b o e n hb hx
      exact ⟨sl, (hs.2 b (Nat.ne_of_lt (Nat.lt_of_lt_of_le (Heap.lt_size e) (I.ok.cab x c hfn hc)))).trans e1⟩
    · obtain ⟨o', e1⟩ := I.base.there b o e hx
      exact ⟨o', (hs.2 b (Nat.ne_of_lt (Nat.lt_of_lt_of_le (Heap.lt_size e) (I.ok.cab x c hfn hc)))).trans e1⟩
    · by_cases hj : j = i
      · subst hj
        rw [hi] at e1; cases e1
        rw [List.getElem?_set_self hiσ] at e2
        cases e2
        exact ⟨u, r, .inr ⟨.inl hk, c, hc, hc'⟩⟩
      · rw [List.getElem?_set_ne (Ne.symm hj)] at e2
        obtain ⟨u', r', q⟩ := hl j y v' e1 e2 e3
        refine ⟨u', r', ?_⟩
        rcases q with q | ⟨k, c', e, z'⟩
        · exact .inl q
        · refine .inr ⟨k, c', e, z'.sameBut hs ?_⟩
          rintro rfl
          exact hj (nodup_ix hN e1 (I.ok.inj _ _ _ e hc ▸ hi))
    · by_cases hcc : c' = c
      · subst hcc; exact ⟨_, hc'⟩
      · obtain ⟨w2, z2⟩ := I.cell y c' e
        exact ⟨w2, z2.sameBut hs hcc⟩
    · obtain ⟨e, n, ne, nf, d⟩ := I.pin p hp
      refine ⟨(hs.2 p.1 ?_).trans e, n, ne, nf, d⟩
      intro q
      rw [q, hoc] at e
      have q' : oc = p.2 := Option.some.inj e
      exact d w' (by rw [← q']; exact hocd)
theorem store_ok {M : Model} {A : Around} {E : Value → Shared → Prop} {i : Nat} {x : Str} {v : V} {u : Value} {Q : Unit → Shared → Prop} (I : Inv X pins σ H s) (hN : X.N.Nodup) (hi : X.N[i]? = some x) (hx : Loc X.env.scope x) (r : RelV v u)
    (h : ∀ s', Inv X pins (σ.set i (some v)) H s' → Q () s') (hf : X.fn x = true ∨ X.env.scope.names.lookup x = some .local := by first | exact .inl rfl | exact .inr rfl | assumption) : wpAny M A (storeName X.env x u) Q E s :=
  store_ok2 I hN hi hx r (fun s' I' _ => h s' I') hf
/-- behind a call or a block, the state as it is -/
theorem Inv.call' {s' : Shared} {ch : List Addr} (I : Inv X pins σ H s) (ho : s'.os = s.os) (u : Un (frs X.stack) ch H H' s.heap s'.heap) (hok : HOk X.prog X.w H' s'.heap) (hg : AllBare s'.gens)
    (hch : ∀ b ∈ ch, (b ∈ X.ex ∨ X.s₀.heap.get? b = none) ∧ b ≠ X.env.locals ∧ (∀ x c, X.env.cells.lookup x = some c → c ≠ b) ∧ ∀ p ∈ X.pn ++ pins, p.1 ≠ b) : Inv X pins σ H' s' := by
  obtain ⟨h', g', d', t', o'⟩ := s'
  have e : o' = s.os := ho
  subst e
  exact I.call (g' := g') (t' := t') (d' := d') u hok hg hch
end

/-! ### the judgements -/
/-- an exception: its class, its own dict's address (where it has one), the abstract heap behind it -/
abbrev XK := Value → Option Addr × Bool → Hp → Prop
abbrev St := List (Option V)
abbrev VK := V → Hp → Prop
/-- an expression's reading; a test's; an argument list's -/
abbrev TE := St → Hp → VK → Prop
abbrev TT := St → Hp → (Bool → Hp → Prop) → Prop
abbrev TA := St → Hp → (List V → Hp → Prop) → Prop
/-- what is wanted behind a statement -/
structure Ends where
  nx : St → Hp → Prop
  rt : VK
  bk : St → Hp → Prop := fun _ _ => False
  ct : St → Hp → Prop := fun _ _ => False
abbrev TS := Ends → St → Hp → Prop

def EP (X : Cx) (pins : List (Addr × Obj)) (σ : St) (Q : VK) (u : Value) (s' : Shared) : Prop := ∃ v H', Inv X pins σ H' s' ∧ RelV v u ∧ Q v H'
def TP (X : Cx) (pins : List (Addr × Obj)) (σ : St) (Q : Bool → Hp → Prop) (b : Bool) (s' : Shared) : Prop := ∃ H', Inv X pins σ H' s' ∧ Q b H'
def AP (X : Cx) (pins : List (Addr × Obj)) (σ : St) (Q : List V → Hp → Prop) (us : List Value) (s' : Shared) : Prop := ∃ vs H', Inv X pins σ H' s' ∧ Vals vs us ∧ Q vs H'
def SP (X : Cx) (pins : List (Addr × Obj)) (D : Ends) (f : Flow) (s' : Shared) : Prop :=
  match f with
  | .next => ∃ σ' H', Inv X pins σ' H' s' ∧ D.nx σ' H'
  | .brk => ∃ σ' H', Inv X pins σ' H' s' ∧ D.bk σ' H'
  | .cont => ∃ σ' H', Inv X pins σ' H' s' ∧ D.ct σ' H'
  | .ret u => ∃ v σ' H', Inv X pins σ' H' s' ∧ RelV v u ∧ D.rt v H'

def PE (X : Cx) (e : Expr) (t : TE) : Prop :=
  ∀ (pins : List (Addr × Obj)) (s : Shared) (σ : St) (H : Hp) (Q : VK), Inv X pins σ H s → t σ H Q → wpAny (model X.prog X.w) X.A (eval e X.env) (EP X pins σ Q) X.xe s
def PT (X : Cx) (e : Expr) (t : TT) : Prop :=
  ∀ (pins : List (Addr × Obj)) (s : Shared) (σ : St) (H : Hp) (Q : Bool → Hp → Prop), Inv X pins σ H s → t σ H Q → wpAny (model X.prog X.w) X.A (isTrue e X.env (eval e X.env)) (TP X pins σ Q) X.xe s
/-- a test whatever its 'whole' is (and, or) -/
def PW (X : Cx) (e : Expr) (t : TT) : Prop :=
  ∀ (whole : Sem Value) (pins : List (Addr × Obj)) (s : Shared) (σ : St) (H : Hp) (Q : Bool → Hp → Prop), Inv X pins σ H s → t σ H Q → wpAny (model X.prog X.w) X.A (isTrue e X.env whole) (TP X pins σ Q) X.xe s
theorem PW.pt {X : Cx} {e : Expr} {t : TT} (h : PW X e t) : PT X e t := h _
/-- an argument list (no star), from the left -/
def PA (X : Cx) (es : List Expr) (t : TA) : Prop :=
  ∀ (pos : Pos) (pins : List (Addr × Obj)) (s : Shared) (σ : St) (H : Hp) (Q : List V → Hp → Prop), Inv X pins σ H s → t σ H Q → wpAny (model X.prog X.w) X.A (spliced (backTo pos (starEach es X.env))) (AP X pins σ Q) X.xe s
def PS (X : Cx) (st : Stmt) (t : TS) : Prop :=
  ∀ (pins : List (Addr × Obj)) (s : Shared) (σ : St) (H : Hp) (D : Ends), Inv X pins σ H s → t D σ H → wpAny (model X.prog X.w) X.A (exec st X.env) (SP X pins D) X.xe s
def PSs (X : Cx) (st : List Stmt) (t : TS) : Prop :=
  ∀ (pins : List (Addr × Obj)) (s : Shared) (σ : St) (H : Hp) (D : Ends), Inv X pins σ H s → t D σ H → wpAny (model X.prog X.w) X.A (execs st X.env) (SP X pins D) X.xe s
/-- weaken the end -/
theorem thn {α : Type} {t : Sem α} {Q Q' : α → Shared → Prop} {M : Model} {A : Around} {E : Value → Shared → Prop} {s : Shared} (h : wpAny M A t Q E s) (hQ : ∀ a s, Q a s → Q' a s) : wpAny M A t Q' E s := wpAny_mono h hQ fun _ _ x => x
end L2

namespace L2
open PySem PySem.Spec PyProof.Rows
section
variable {X : Cx}

/-! ### names and constants -/
def tVar (i : Nat) : TE := fun σ H Q => ∃ v, σ[i]? = some (some v) ∧ Q v H
def tC (v : V) : TE := fun _ H Q => Q v H
theorem pe_var {i : Nat} {x : Str} {pos : Pos} (hN : X.N[i]? = some x) (hv : Vis X.env.scope x) (hd : (x == ("__debug__" : Str)) = false := by decide) (hcd : (x == ("__classdict__" : Str)) = false := by decide) : PE X (.Name x pos) (tVar i) := by
  intro pins s σ H Q I h
  obtain ⟨v, e, h⟩ := h
  obtain ⟨m, hn, hl⟩ := I.loc
  obtain ⟨u, r, l⟩ := hl i x v hN e hv
  have fin : EP X pins σ Q u s := ⟨v, H, I, r, h⟩
  rcases l with ⟨hk, hm⟩ | ⟨hk, c, hc, hcell⟩
  · exact wpAny_Name (wpAny_loadName_local I.ok.kind hk hn hm fin) hd
  · rcases hk with hk | hk
    · exact wpAny_Name (wpAny_loadName_cell I.ok.kind hk hc hcell fin) hd
    · exact wpAny_Name (wpAny_loadName_free I.ok.kind hk hc hcell fin hcd) hd
theorem pe_int {i j pos} : PE X (.Constant (.int i) j pos) (tC (.int i)) := fun _ _ _ H _ I h => wpAny_Constant_int ⟨.int i, H, I.tok _, ⟨_, rfl⟩, h⟩
theorem pe_non {j pos} : PE X (.Constant .none j pos) (tC .non) := fun _ _ _ H _ I h => Constant_none ⟨.non, H, I, rfl, h⟩
theorem pe_str {x j pos} : PE X (.Constant (.str x) j pos) (tC (.str x)) := fun _ _ _ H _ I h => Calls.Constant_str ⟨.str x, H, I.tok _, ⟨_, rfl⟩, h⟩

/-- a global name of the def -/
def Gl (X : Cx) (x : Str) : Prop := X.env.kindOf x = some .globalImplicit
theorem ld_glob {E : Value → Shared → Prop} {pins : List (Addr × Obj)} {s : Shared} {σ : St} {H : Hp} {x : Str} {u : Value} {pos : Pos} {Q : Value → Shared → Prop} (I : Inv X pins σ H s) (hg : Gl X x) (hm : X.mg x = some u) (h : Q u s)
    (hd : (x == ("__debug__" : Str)) = false := by decide) : wpAny (model X.prog X.w) X.A (eval (.Name x pos) X.env) Q E s :=
  Calls.Name_function_global I.ok.kind hg (Calls.loadGlobal_global (by rw [I.ok.glob]; exact I.mod.glob.keeps I.bk) hm h) hd
theorem ld_blt {E : Value → Shared → Prop} {pins : List (Addr × Obj)} {s : Shared} {σ : St} {H : Hp} {x : Str} {u : Value} {pos : Pos} {Q : Value → Shared → Prop} (I : Inv X pins σ H s) (hg : Gl X x) (hm : X.mg x = none) (hv : bootBuiltins x = some u) (h : Q u s)
    (hn : x ≠ "__name__" := by decide) (hd : (x == ("__debug__" : Str)) = false := by decide) : wpAny (model X.prog X.w) X.A (eval (.Name x pos) X.env) Q E s := by
  obtain ⟨mb, h1, h2⟩ := I.mod.blt
  exact Calls.Name_function_global I.ok.kind hg (Calls.loadGlobal_builtin (by rw [I.ok.glob]; exact I.mod.glob.keeps I.bk) hm (by rw [I.ok.blt]; exact h1.keeps I.bk) ((h2 x hn).trans hv) h) hd
/-- a module's constant, a class, a function, as a value -/
theorem pe_glob {x : Str} {v : V} {u : Value} {pos : Pos} (hg : Gl X x) (hm : X.mg x = some u) (r : RelV v u) (hd : (x == ("__debug__" : Str)) = false := by decide) : PE X (.Name x pos) (tC v) :=
  fun _ _ _ H _ I h => ld_glob I hg hm ⟨v, H, I, r, h⟩ hd
theorem pe_bltn {x : Str} {v : V} {u : Value} {pos : Pos} (hg : Gl X x) (hm : X.mg x = none) (hv : bootBuiltins x = some u) (r : RelV v u) (hn : x ≠ "__name__" := by decide) (hd : (x == ("__debug__" : Str)) = false := by decide) : PE X (.Name x pos) (tC v) :=
  fun _ _ _ H _ I h => ld_blt I hg hm hv ⟨v, H, I, r, h⟩ hn hd

/-! ### arithmetic -/
/-- two ints -/
def t2I (ta tb : TE) (k : Int → Int → Hp → Prop) : St → Hp → Prop := fun σ H => ta σ H fun x H1 => tb σ H1 fun y H2 => ∃ i j, x = .int i ∧ y = .int j ∧ k i j H2
def tAdd (ta tb : TE) : TE := fun σ H Q => t2I ta tb (fun i j H2 => Q (.int (i + j)) H2) σ H
def tSub (ta tb : TE) : TE := fun σ H Q => t2I ta tb (fun i j H2 => Q (.int (i - j)) H2) σ H
/-- the left factor below 2^64 -/
def tMul (ta tb : TE) : TE := fun σ H Q => t2I ta tb (fun i j H2 => (-(2 ^ 64) < i ∧ i < 2 ^ 64) ∧ Q (.int (i * j)) H2) σ H
variable {a b : Expr} {ta tb : TE} {pos : Pos}
/-! ### comparisons -/
def PC (X : Cx) (op : CmpOp) (a b : Expr) (t : TE) : Prop :=
  ∀ (pins : List (Addr × Obj)) (s : Shared) (σ : St) (H : Hp) (Q : VK), Inv X pins σ H s → t σ H Q →
    wpAny (model X.prog X.w) X.A (eval a X.env) (fun v s₁ => wpAny (model X.prog X.w) X.A (eval b X.env) (fun u s₂ => wpAny (model X.prog X.w) X.A (compareOp op v u) (EP X pins σ Q) X.xe s₂) X.xe s₁) X.xe s
def tCmp (p : Int → Int → Bool) (ta tb : TE) : TE := fun σ H Q => t2I ta tb (fun i j H2 => Q (.bl (p i j)) H2) σ H
abbrev tLt : TE → TE → TE := tCmp fun i j => decide (i < j)
abbrev tLe : TE → TE → TE := tCmp fun i j => decide (i ≤ j)
abbrev tGt : TE → TE → TE := tCmp fun i j => decide (j < i)
abbrev tGe : TE → TE → TE := tCmp fun i j => decide (j ≤ i)
abbrev tEqI : TE → TE → TE := tCmp fun i j => decide (i = j)
abbrev tNeI : TE → TE → TE := tCmp fun i j => !decide (i = j)
/-- is None -/
def tIsN (ta : TE) : TE := fun σ H Q => ta σ H fun x H1 => Q (.bl (decide (x = .non))) H1
def tNotN (ta : TE) : TE := fun σ H Q => ta σ H fun x H1 => Q (.bl (!decide (x = .non))) H1
/-- a comparison as a value, as a test -/
def tB (t : TE) : TT := fun σ H Q => t σ H fun x H1 => ∃ c, x = .bl c ∧ Q c H1
/-! ### and, or, not -/
variable {tA tB' : TT} {rest : List Expr}
def tAnd (t u : TT) : TT := fun σ H Q => t σ H fun c H1 => if c = true then u σ H1 Q else Q false H1
def tOr (t u : TT) : TT := fun σ H Q => t σ H fun c H1 => if c = true then Q true H1 else u σ H1 Q
def tNot (t : TT) : TT := fun σ H Q => t σ H fun c H1 => Q (!c) H1
theorem pw_and1 (ha : PT X a tA) : PW X (.BoolOp .And [a] pos) tA := by
  intro wh pins s σ H Q I h
  refine isTrue_and (thn (ha pins s σ H Q I h) fun c s1 e => ?_)
  cases c with
  | true => exact isTrue_and_nil e
  | false => exact e
theorem pw_or1 (ha : PT X a tA) : PW X (.BoolOp .Or [a] pos) tA := by
  intro wh pins s σ H Q I h
  refine isTrue_or (thn (ha pins s σ H Q I h) fun c s1 e => ?_)
  cases c with
  | false => exact isTrue_or_nil e
  | true => exact e
theorem pw_and (ha : PT X a tA) (hb : PW X (.BoolOp .And (b :: rest) pos) tB') : PW X (.BoolOp .And (a :: b :: rest) pos) (tAnd tA tB') := by
  intro wh pins s σ H Q I h
  refine isTrue_and (thn (ha pins s σ H _ I h) fun c s1 ⟨H1, I1, q1⟩ => ?_)
  cases c with
  | true => exact hb wh pins s1 σ H1 Q I1 q1
  | false => exact ⟨H1, I1, q1⟩
theorem pw_or (ha : PT X a tA) (hb : PW X (.BoolOp .Or (b :: rest) pos) tB') : PW X (.BoolOp .Or (a :: b :: rest) pos) (tOr tA tB') := by
  intro wh pins s σ H Q I h
  refine isTrue_or (thn (ha pins s σ H _ I h) fun c s1 ⟨H1, I1, q1⟩ => ?_)
  cases c with
  | true => exact ⟨H1, I1, q1⟩
  | false => exact hb wh pins s1 σ H1 Q I1 q1
/-- .. as values (bools) -/
def tAndV (ta tb : TE) : TE := fun σ H Q => ta σ H fun x H1 => ∃ c, x = .bl c ∧ if c = true then tb σ H1 Q else Q (.bl false) H1
def tOrV (ta tb : TE) : TE := fun σ H Q => ta σ H fun x H1 => ∃ c, x = .bl c ∧ if c = true then Q (.bl true) H1 else tb σ H1 Q
def tNotV (ta : TE) : TE := fun σ H Q => ta σ H fun x H1 => ∃ c, x = .bl c ∧ Q (.bl (!c)) H1
theorem pe_one {op} {t : TE} (h : PE X a t) : PE X (.BoolOp op [a] pos) t := fun pins s σ H Q I hw => BoolOp_one (h pins s σ H Q I hw)
theorem pe_and (ha : PE X a ta) (hb : PE X (.BoolOp .And (b :: rest) pos) tb) : PE X (.BoolOp .And (a :: b :: rest) pos) (tAndV ta tb) := by
  intro pins s σ H Q I h
  refine BoolOp_and (thn (ha pins s σ H _ I h) fun v s1 ⟨x, H1, I1, r1, q1⟩ => ?_)
  obtain ⟨c, rfl, q1⟩ := q1
  cases r1
  refine wpAny_truthy_bool ?_
  cases c with
  | true => exact hb pins s1 σ H1 Q I1 q1
  | false => exact ⟨.bl false, H1, I1, rfl, q1⟩
theorem pe_or (ha : PE X a ta) (hb : PE X (.BoolOp .Or (b :: rest) pos) tb) : PE X (.BoolOp .Or (a :: b :: rest) pos) (tOrV ta tb) := by
  intro pins s σ H Q I h
  refine BoolOp_or (thn (ha pins s σ H _ I h) fun v s1 ⟨x, H1, I1, r1, q1⟩ => ?_)
  obtain ⟨c, rfl, q1⟩ := q1
  cases r1
  refine wpAny_truthy_bool ?_
  cases c with
  | false => exact hb pins s1 σ H1 Q I1 q1
  | true => exact ⟨.bl true, H1, I1, rfl, q1⟩
theorem pe_not (ha : PE X a ta) : PE X (.UnaryOp .Not a pos) (tNotV ta) := by
  intro pins s σ H Q I h
  refine UnaryOp_ (thn (ha pins s σ H _ I h) fun v s1 ⟨x, H1, I1, r1, q1⟩ => ?_)
  obtain ⟨c, rfl, q1⟩ := q1
  cases r1
  exact not_of (wpAny_truthy_bool ⟨.bl (!c), H1, I1, rfl, q1⟩)
/-- a if t else b -/
def tIf (t : TT) (ta tb : TE) : TE := fun σ H Q => t σ H fun c H1 => if c = true then ta σ H1 Q else tb σ H1 Q
theorem pe_ifExp {c : Expr} (hc : PT X c tA) (ha : PE X a ta) (hb : PE X b tb) : PE X (.IfExp c a b pos) (tIf tA ta tb) := by
  intro pins s σ H Q I h
  refine wpAny_IfExp (thn (hc pins s σ H _ I h) fun d s1 ⟨H1, I1, q1⟩ => ?_)
  cases d with
  | true => exact ha pins s1 σ H1 Q I1 q1
  | false => exact hb pins s1 σ H1 Q I1 q1
end
end L2

namespace L2
open PySem PySem.Spec PyProof.Rows

/-! ### a list, a tuple that is read: tracked, frozen, or an object of the module -/
def SqL (K : PySem.W.Frag) (H : Hp) (a : Addr) (xs : List V) : Prop :=
  Rd H a (.lst xs) ∨
    ∃ (o : Obj) (its : Array Value) (n : Nat), K.lookup a = some o ∧ o.cls = .type "list" ∧ o.dict = none ∧ o.data = .seq its n ∧ its.size ≤ sizeLine ∧ Vals xs its.toList
def SqT (K : PySem.W.Frag) (H : Hp) (a : Addr) (xs : List V) : Prop :=
  Rd H a (.tup xs) ∨
    ∃ (o : Obj) (its : Array Value) (n : Nat), K.lookup a = some o ∧ o.cls = .type "tuple" ∧ o.data = .seq its n ∧ its.size ≤ sizeLine ∧ Vals xs its.toList
def absV : Value → Option V
  | .none => some .non
  | .bool b => some (.bl b)
  | .int i _ => some (.int i)
  | .str x _ => some (.str x)
  | .bytes b _ => some (.byt b)
  | .float b _ => some (.flt b)
  | .ref a => some (.ref a)
  | .type n => some (.ty n)
  | _ => none
theorem RelV.abs {x : V} {u : Value} (r : RelV x u) : absV u = some x := by
  cases x with
  | non => cases r; rfl
  | bl _ => cases r; rfl
  | int _ => obtain ⟨t, rfl⟩ := r; rfl
  | str _ => obtain ⟨t, rfl⟩ := r; rfl
  | byt _ => obtain ⟨t, rfl⟩ := r; rfl
  | flt _ => obtain ⟨t, rfl⟩ := r; rfl
  | ref _ => cases r; rfl
  | ty _ => cases r; rfl
theorem RelV.inj {x y : V} {u : Value} (r : RelV x u) (q : RelV y u) : x = y := Option.some.inj (r.abs.symm.trans q.abs)
theorem Vals.inj : ∀ {xs ys : List V} {us : List Value}, Vals xs us → Vals ys us → xs = ys
  | _, _, _, .nil, .nil => rfl
  | _, _, _, .cons r t, .cons r' t' => by rw [r.inj r', Vals.inj t t']
section
variable {X : Cx} {pins : List (Addr × Obj)} {σ : St} {H : Hp} {s : Shared} {a : Addr} {xs ys : List V}
theorem SqL.of {K : PySem.W.Frag} (h : H a = some (.lst xs)) : SqL K H a xs := .inl (.inl h)
theorem SqT.of {K : PySem.W.Frag} (h : H a = some (.tup xs)) : SqT K H a xs := .inl (.inl h)
theorem Inv.list (I : Inv X pins σ H s) (h : SqL X.K H a xs) : ∃ its : List Value, Vals xs its ∧ PlainL s.heap a its.toArray ∧ xs.length ≤ sizeLine := by
  rcases h with h | ⟨o, its, n, hk, hc, hd, hs, hz, r⟩
  · obtain ⟨z, its, n, r, e⟩ := h.ok I.hok
    exact ⟨its, r, ⟨_, n, e, rfl, rfl, rfl⟩, z⟩
  · refine ⟨its.toList, r, ⟨o, n, I.kIn a o hk, hc, hd, by simpa using hs⟩, ?_⟩
    have e := r.length
    simp only [Array.length_toList] at e
    omega
theorem Inv.tuple (I : Inv X pins σ H s) (h : SqT X.K H a xs) : ∃ its : List Value, Vals xs its ∧ IsTup s.heap a its.toArray ∧ xs.length ≤ sizeLine := by
  rcases h with h | ⟨o, its, n, hk, hc, hs, hz, r⟩
  · obtain ⟨z, its, r, p⟩ := h.ok I.hok
    exact ⟨its, r, p, z⟩
  · refine ⟨its.toList, r, ⟨o, I.kIn a o hk, hc, n, by simpa using hs⟩, ?_⟩
    have e := r.length
    simp only [Array.length_toList] at e
    omega
theorem Inv.list_inj (I : Inv X pins σ H s) (h : SqL X.K H a xs) (h' : SqL X.K H a ys) : xs = ys := by
  obtain ⟨its, r, ⟨o, n, e, _, _, d⟩, _⟩ := I.list h
  obtain ⟨its', r', ⟨o', n', e', _, _, d'⟩, _⟩ := I.list h'
  rw [e] at e'; cases e'
  rw [d] at d'
  injection d' with d1 _
  have : its = its' := by simpa using congrArg Array.toList d1
  subst this
  exact r.inj r'
end

/-! ### another wish about exceptions -/
abbrev Cx.wish (X : Cx) (E : Value → Shared → Prop) : Cx := { X with xe := E }
/-- no exception leaves -/
abbrev Cx.nox (X : Cx) : Cx := X.wish fun _ _ => False
section
variable {X : Cx} {pins : List (Addr × Obj)} {σ : St} {H : Hp} {s : Shared} {E : Value → Shared → Prop}
end

/-! ### blocks and small statements -/
section
variable {X : Cx} {st : Stmt} {rest : List Stmt} {t u : TS} {e : Expr} {te : TE} {pos : Pos}
def tNext : TS := fun D σ H => D.nx σ H
def tSeq (t u : TS) : TS := fun D σ H => t { D with nx := u D } σ H
theorem pss_nil : PSs X [] tNext := fun _ _ σ H _ I h => wpAny_execs_nil ⟨σ, H, I, h⟩
theorem pss_cons (h1 : PS X st t) (h2 : PSs X rest u) : PSs X (st :: rest) (tSeq t u) := by
  intro pins s σ H D I h
  refine wpAny_execs_cons (thn (h1 pins s σ H { D with nx := u D } I h) fun f s1 q => ?_)
  cases f with
  | next =>
    obtain ⟨σ', H', I', q⟩ := q
    exact h2 pins s1 σ' H' D I' q
  | ret v => exact q
  | brk => exact q
  | cont => exact q
theorem pss_one (h1 : PS X st t) : PSs X [st] t := by
  intro pins s σ H D I h
  refine wpAny_execs_cons (thn (h1 pins s σ H D I h) fun f s1 q => ?_)
  cases f with
  | next => exact wpAny_execs_nil q
  | ret v => exact q
  | brk => exact q
  | cont => exact q
def tBreak : TS := fun D σ H => D.bk σ H
def tCont : TS := fun D σ H => D.ct σ H
/-- in a def's body nothing is shown -/
theorem Inv.quiet {pins : List (Addr × Obj)} {σ : St} {H : Hp} {s : Shared} (I : Inv X pins σ H s) : interactive X.env = false := by simp [interactive, I.ok.kind]
/-- an expression whose value is dropped -/
def tDrop (te : TE) : TS := fun D σ H => te σ H fun _ H1 => D.nx σ H1
theorem ps_expr (he : PE X e te) (hs : swapsWith e none pos.line X.env = pure false := by rfl) : PS X (.Expr e pos) (tDrop te) := by
  intro pins s σ H D I h
  exact wpAny_Expr_any (thn (he pins s σ H _ I h) fun v s1 ⟨x, H1, I1, r1, q1⟩ => ⟨σ, H1, I1, q1⟩) I.quiet hs
def tRet (te : TE) : TS := fun D σ H => te σ H D.rt
theorem ps_ret (he : PE X e te) : PS X (.Return (some e) pos) (tRet te) := by
  intro pins s σ H D I h
  exact wpAny_Return_some (thn (he pins s σ H _ I h) fun v s1 ⟨x, H1, I1, r1, q1⟩ => ⟨x, σ, H1, I1, r1, q1⟩)
def tRetN : TS := fun D _ H => D.rt .non H
def tIfS (c : TT) (t u : TS) : TS := fun D σ H => c σ H fun b H1 => if b = true then t D σ H1 else u D σ H1
theorem ps_if {c : Expr} {a b : List Stmt} {tc : TT} (hc : PT X c tc) (ha : PSs X a t) (hb : PSs X b u) : PS X (.If c a b pos) (tIfS tc t u) := by
  intro pins s σ H D I h
  refine wpAny_If (thn (hc pins s σ H _ I h) fun d s1 ⟨H1, I1, q1⟩ => ?_)
  cases d with
  | true => exact ha pins s1 σ H1 D I1 q1
  | false => exact hb pins s1 σ H1 D I1 q1
/-- code that the proof never comes to -/
def tNever : TS := fun _ _ _ => False
end

/-! ### targets -/
abbrev TG := V → St → Hp → (St → Hp → Prop) → Prop
abbrev TGs := List V → St → Hp → (St → Hp → Prop) → Prop
def PG (X : Cx) (target : Expr) (t : TG) : Prop :=
  ∀ (pins : List (Addr × Obj)) (s : Shared) (σ : St) (H : Hp) (v : V) (u : Value) (Q : St → Hp → Prop), Inv X pins σ H s → RelV v u → t v σ H Q →
    wpAny (model X.prog X.w) X.A (assign target X.env u) (fun _ s' => ∃ σ' H', Inv X pins σ' H' s' ∧ Q σ' H') X.xe s
/-- several targets, one after another -/
def PGs (X : Cx) (ts : List Expr) (t : TGs) : Prop :=
  ∀ (pins : List (Addr × Obj)) (s : Shared) (σ : St) (H : Hp) (vs : List V) (us : List Value) (Q : St → Hp → Prop), Inv X pins σ H s → Vals vs us → t vs σ H Q →
    wpAny (model X.prog X.w) X.A (assignInOrder ((assignEach ts X.env).map (·.2)) us) (fun _ s' => ∃ σ' H', Inv X pins σ' H' s' ∧ Q σ' H') X.xe s
/-- o[i] = v, by values -/
abbrev TSet := V → V → V → Hp → (Hp → Prop) → Prop
def PSet (X : Cx) (t : TSet) : Prop :=
  ∀ (pins : List (Addr × Obj)) (s : Shared) (σ : St) (H : Hp) (o i v : V) (ov iv u : Value) (Q : Hp → Prop), Inv X pins σ H s → RelV o ov → RelV i iv → RelV v u → t o i v H Q →
    wpAny (model X.prog X.w) X.A (setItem ov iv u) (fun _ s' => ∃ H', Inv X pins σ H' s' ∧ Q H') X.xe s
/-- a op= b, by values -/
abbrev TIp := V → V → Hp → VK → Prop
def PIp (X : Cx) (op : Operator) (t : TIp) : Prop :=
  ∀ (pins : List (Addr × Obj)) (s : Shared) (σ : St) (H : Hp) (x y : V) (v u : Value) (Q : VK), Inv X pins σ H s → RelV x v → RelV y u → t x y H Q →
    wpAny (model X.prog X.w) X.A (inplaceOp op v u) (EP X pins σ Q) X.xe s
section
variable {X : Cx} {pos : Pos}
def gName (i : Nat) : TG := fun v σ H Q => Q (σ.set i (some v)) H
theorem pg_name {i : Nat} {x : Str} (hN : X.N.Nodup) (hi : X.N[i]? = some x) (hx : Loc X.env.scope x) (hf : X.fn x = true ∨ X.env.scope.names.lookup x = some .local := by first | exact .inl rfl | exact .inr rfl | assumption) : PG X (.Name x pos) (gName i) := by
  intro pins s σ H v u Q I r h
  exact wpAny_assign_Name (store_ok I hN hi hx r (fun s' I' => ⟨_, H, I', h⟩) hf)
def gNil : TGs := fun vs σ H Q => vs = [] ∧ Q σ H
def gCons (t : TG) (u : TGs) : TGs := fun vs σ H Q => ∃ v r, vs = v :: r ∧ t v σ H fun σ' H' => u r σ' H' Q
theorem pgs_nil : PGs X [] gNil := by
  intro pins s σ H vs us Q I r h
  obtain ⟨e, h⟩ := h
  subst e
  cases r
  exact assignInOrder_nil ⟨σ, H, I, h⟩
theorem pgs_cons {e : Expr} {es : List Expr} {t : TG} {u : TGs} (h1 : PG X e t) (h2 : PGs X es u)
    (hs : (assignEach (e :: es) X.env).map (·.2) = assign e X.env :: (assignEach es X.env).map (·.2) := by rfl) : PGs X (e :: es) (gCons t u) := by
  intro pins s σ H vs us Q I r h
  obtain ⟨v, vr, e1, h⟩ := h
  subst e1
  cases r with
  | cons r rr =>
    rw [hs]
    refine assignInOrder_cons (thn (h1 pins s σ H _ _ _ I r h) fun _ s1 ⟨σ1, H1, I1, q1⟩ => ?_)
    exact h2 pins s1 σ1 H1 _ _ Q I1 rr q1
/-- (a, b, ..) = a tuple of that length -/
def gTup (K : PySem.W.Frag) (n : Nat) (t : TGs) : TG := fun v σ H Q => ∃ a xs, v = .ref a ∧ SqT K H a xs ∧ xs.length = n ∧ t xs σ H Q
theorem pg_tup {es : List Expr} {k : Nat} {t : TGs} {n : Nat} (hc : X.calm = true) (h : PGs X es t)
    (hn : (assignEach es X.env).length = n := by rfl) (hst : (assignEach es X.env).findIdx? (·.1) = none := by rfl) : PG X (.Tuple es k pos) (gTup X.K n t) := by
  intro pins s σ H v u Q I r hw
  obtain ⟨a, xs, e1, hq, hl, hw⟩ := hw
  subst e1
  cases r
  obtain ⟨its, rv, ht, hz⟩ := I.tuple hq
  refine assign_Tuple_tuple (I.ok.hd hc) ht (by simp [hn, ← hl, rv.length]) hst fun h' hx => ?_
  have I1 : Inv X pins σ H { s with heap := h' } := I.kept (t' := s.toks) fun b o e => hx b o (Nat.ne_of_lt (Heap.lt_size e)) e
  exact h pins _ σ H xs _ Q I1 (by simpa using rv) hw
/-- o[i] = .. -/
def gSub (to ti : TE) (t : TSet) : TG := fun v σ H Q => to σ H fun o H1 => ti σ H1 fun i H2 => t o i v H2 fun H3 => Q σ H3
/-- target = value -/
def tAsg (te : TE) (g : TG) : TS := fun D σ H => te σ H fun x H1 => g x σ H1 D.nx
/-- name = value -/
theorem ps_set {i : Nat} {x : Str} {e : Expr} {te : TE} {pos' : Pos} (hN : X.N.Nodup) (hi : X.N[i]? = some x) (hx : Loc X.env.scope x) (he : PE X e te) (hs : swapsWith e (some (.Name x pos')) pos.line X.env = pure false := by rfl) (hf : X.fn x = true ∨ X.env.scope.names.lookup x = some .local := by first | exact .inl rfl | exact .inr rfl | assumption) :
    PS X (.Assign [.Name x pos'] e pos) (tAsg te (gName i)) := by
  intro pins s σ H D I h
  refine wpAny_Assign_Name (thn (he pins s σ H _ I h) fun v s1 ⟨y, H1, I1, r1, q1⟩ => ?_) hs
  exact store_ok I1 hN hi hx r1 (fun s2 I2 => ⟨_, H1, I2, q1⟩) hf
/-- a, b = x, y with plain local names: stored from the right; the pair itself is not tracked (the opening rows as in PyProof/Rows/TupAssign.lean:23) -/
def tPar (i j : Nat) (ta : TA) : TS := fun D σ H => ta σ H fun vs H1 => ∃ v w, vs = [v, w] ∧ D.nx ((σ.set i (some v)).set j (some w)) H1
/-- name op= e -/
def tAug (i : Nat) (te : TE) (ti : TIp) : TS := fun D σ H => ∃ x, σ[i]? = some (some x) ∧ te σ H fun y H1 => ti x y H1 fun z H2 => D.nx (σ.set i (some z)) H2
/-- o[i] op= e -/
def tAugS (to ti te : TE) (tget : V → V → Hp → VK → Prop) (tip : TIp) (tset : TSet) : TS := fun D σ H => to σ H fun o H1 => ti σ H1 fun i H2 => tget o i H2 fun x H3 => te σ H3 fun y H4 => tip x y H4 fun z H5 => tset o i z H5 fun H6 => D.nx σ H6
/-- o[i], by values -/
def PGet (X : Cx) (t : V → V → Hp → VK → Prop) : Prop :=
  ∀ (pins : List (Addr × Obj)) (s : Shared) (σ : St) (H : Hp) (o i : V) (ov iv : Value) (Q : VK), Inv X pins σ H s → RelV o ov → RelV i iv → t o i H Q →
    wpAny (model X.prog X.w) X.A (getItem ov iv) (EP X pins σ Q) X.xe s
/-- ints -/
def ipI (f : Int → Int → Int) : TIp := fun x y H Q => ∃ i j, x = .int i ∧ y = .int j ∧ Q (.int (f i j)) H
end

/-! ### while -/
section
variable {X : Cx} {pos : Pos}
/-- the invariant W with its measure -/
def tWhile (c : TT) (tb : TS) : TS := fun D σ H => ∃ W : Nat → St → Hp → Prop, (∃ m, W m σ H) ∧ ∀ m σ H, W m σ H →
  c σ H fun b H1 => if b = true then ∃ N : St → Hp → Prop, (∀ σ' H', N σ' H' → ∃ m', m' < m ∧ W m' σ' H') ∧ tb { D with nx := N, ct := N, bk := D.nx } σ H1 else D.nx σ H1
theorem ps_while {c : Expr} {body : List Stmt} {tc : TT} {tb : TS} (hp : PassesOwn (model X.prog X.w) X.A X.env X.xe) (hc : PT X c tc) (hb : PSs X body tb) : PS X (.While c body [] pos) (tWhile tc tb) := by
  intro pins s σ H D I h
  obtain ⟨W, ⟨m0, w0⟩, turn⟩ := h
  refine wpAny_While (codeAny_whileLoop (fun n s' => ∃ σ' H', Inv X pins σ' H' s' ∧ W n σ' H') ?_ m0 ⟨σ, H, I, w0⟩)
  rintro n s1 ⟨σ1, H1, I1, w1⟩
  refine wpAny_passesOwn hp (thn (hc pins s1 σ1 H1 _ I1 (turn n σ1 H1 w1)) fun b s2 ⟨H2, I2, q2⟩ => ?_)
  cases b with
  | true =>
    obtain ⟨N, hN, q2⟩ := q2
    rw [if_pos rfl]
    refine wpAny_passesOwn hp (thn (hb pins s2 σ1 H2 _ I2 q2) fun f s3 q3 => ?_)
    cases f with
    | next =>
      obtain ⟨σ3, H3, I3, n3⟩ := q3
      obtain ⟨m', hm, w3⟩ := hN σ3 H3 n3
      exact ⟨m', hm, σ3, H3, I3, w3⟩
    | cont =>
      obtain ⟨σ3, H3, I3, n3⟩ := q3
      obtain ⟨m', hm, w3⟩ := hN σ3 H3 n3
      exact ⟨m', hm, σ3, H3, I3, w3⟩
    | brk => exact q3
    | ret v => exact q3
  | false =>
    rw [if_neg Bool.false_ne_true]
    exact wpAny_execs_nil ⟨σ1, H2, I2, q2⟩
end

/-! ### what a loop or a comprehension walks -/
/-- at turn i: it yields x (the heap may grow), or it stops -/
structure It where
  go : Nat → Hp → Prop
  yld : Nat → Hp → V → Hp → Prop
  stop : Nat → Hp → Prop
/-- the iterator's own objects may turn: they are not the frame's, not pinned, younger than the entry (or a comprehension's own) -/
def FpOk (X : Cx) (pins : List (Addr × Obj)) (H : Hp) (b : Addr) : Prop :=
  H b = none ∧ b ≠ X.env.locals ∧ b ∉ X.fs ∧ (b ∈ X.ex ∨ X.s₀.heap.get? b = none) ∧ (∀ x c, X.env.cells.lookup x = some c → c ≠ b) ∧ ∀ p ∈ X.pn ++ pins, p.1 ≠ b
theorem Inv.fpOk {X : Cx} {pins : List (Addr × Obj)} {σ : St} {H H' : Hp} {s : Shared} {b : Addr} (I : Inv X pins σ H s) (hb : s.heap.objs.size ≤ b) (hn : H' b = none) : FpOk X pins H' b := by
  refine ⟨hn, Nat.ne_of_gt (Nat.lt_of_lt_of_le I.lt hb), I.nofs hb, .inr (Heap.get?_none_of_le (Nat.le_trans I.sz hb)), fun x c e z => ?_, fun p hp z => ?_⟩
  · obtain ⟨v, q⟩ := I.cell x c e
    exact absurd (Nat.lt_of_lt_of_le q.lt (by rw [z]; exact hb)) (Nat.lt_irrefl _)
  · exact absurd (Nat.lt_of_lt_of_le (Heap.lt_size (I.pin p hp).1) (by rw [z]; exact hb)) (Nat.lt_irrefl _)
structure Turn (P : Program) (w : World) (K : PySem.W.Frag) (tg : Expr) (J : It) (fp : List Addr) (it : Addr) (tn : Nat → Heap → Prop) : Prop where
  mem : it ∈ fp
  obj : ∀ i h, tn i h → ∀ b ∈ fp, ∃ o, h.get? b = some o ∧ ∀ v, o.data ≠ .cell v
  keep : ∀ i h h', tn i h → (∀ b ∈ fp, ∀ o, h.get? b = some o → h'.get? b = some o) → tn i h'
  item : ∀ (X : Cx), X.prog = P → X.w = w → X.K = K → X.calm = true → ∀ (i : Nat) (pins : List (Addr × Obj)) (s : Shared) (σ : St) (H : Hp) (E : Value → Shared → Prop), Inv X pins σ H s → (∀ b ∈ fp, FpOk X pins H b) → tn i s.heap → J.go i H →
    wpAny (model P w) X.A (pyNext (.ref it)) (fun r s1 => ∃ u, r = some u ∧
      wpAny (model P w) X.A (letOwnedTupleGo tg (.ref it) u) (fun _ s2 => ∃ x H', Inv X pins σ H' s2 ∧ RelV x u ∧ J.yld i H x H' ∧ tn (i + 1) s2.heap ∧ ∀ b ∈ fp, H' b = none) E s1) E s
  done : ∀ (X : Cx), X.prog = P → X.w = w → X.K = K → X.calm = true → ∀ (i : Nat) (pins : List (Addr × Obj)) (s : Shared) (σ : St) (H : Hp) (E : Value → Shared → Prop), Inv X pins σ H s → (∀ b ∈ fp, FpOk X pins H b) → tn i s.heap → J.stop i H →
    wpAny (model P w) X.A (pyNext (.ref it)) (fun r s1 => r = none ∧ Inv X pins σ H s1) E s
  self : ∀ (A : Around) (i : Nat) (s : Shared) (Q : Value → Shared → Prop) (E : Value → Shared → Prop), tn i s.heap → Q (.ref it) s → wpAny (model P w) A (pyIter (.ref it)) Q E s
abbrev TI := St → Hp → (It → Hp → Prop) → Prop
/-- an iterator has come -/
def PIE (X : Cx) (pins : List (Addr × Obj)) (σ : St) (tg : Expr) (R : It → Hp → Prop) (itv : Value) (s2 : Shared) : Prop :=
  ∃ (it : Addr) (fp : List Addr) (tn : Nat → Heap → Prop) (J : It) (H' : Hp), itv = .ref it ∧ Inv X pins σ H' s2 ∧ Turn X.prog X.w X.K tg J fp it tn ∧ tn 0 s2.heap ∧ (∀ b ∈ fp, FpOk X pins H' b) ∧ R J H'
def PI (X : Cx) (tg iter : Expr) (wi : TI) : Prop :=
  ∀ (pins : List (Addr × Obj)) (s : Shared) (σ : St) (H : Hp) (R : It → Hp → Prop), Inv X pins σ H s → wi σ H R →
    wpAny (model X.prog X.w) X.A (eval iter X.env) (fun v s1 => wpAny (model X.prog X.w) X.A (pyIter v) (PIE X pins σ tg R) X.xe s1) X.xe s

/-- the step ahead of the store is nothing for an iterator that keeps no tuple -/
theorem go_of {M : Model} {A : Around} {E : Value → Shared → Prop} {s : Shared} {tg : Expr} {it : Addr} {u : Value} {o : Obj} {n : String} {vs : Array Value} {Q : Unit → Shared → Prop} (ho : s.heap.get? it = some o) (hc : o.cls = .type n) (hd : o.data = .fields vs)
    (hn : ["enumerate", "zip", "dict_itemiterator", "dict_reverseitemiterator", "odict_iterator", "itertools.zip_longest", "itertools.pairwise"].contains n = false) (hQ : Q () s) : wpAny M A (letOwnedTupleGo tg (.ref it) u) Q E s := by
  unfold letOwnedTupleGo
  cases tg <;> first
    | exact wpAny_pure hQ
    | (cases u <;> first
        | exact wpAny_pure hQ
        | (refine wpAny_bind (wpAny_load ho ?_)
           rw [hc, hd]
           show wpAny M A (if (["enumerate", "zip", "dict_itemiterator", "dict_reverseitemiterator", "odict_iterator", "itertools.zip_longest", "itertools.pairwise"].contains n && vs[0]? == some (rawInt _)) = true then _ else _) Q E s
           rw [if_neg (by intro h; rw [hn, Bool.false_and] at h; cases h)]
           exact wpAny_pure hQ))

/-- the list at a, as it stands at each turn (a loop may append to it) -/
def Itl (K : PySem.W.Frag) (a : Addr) : It :=
  ⟨fun i H => ∃ xs x, SqL K H a xs ∧ xs[i]? = some x, fun i H x H' => H' = H ∧ ∀ xs, SqL K H a xs → xs[i]? = some x, fun i H => ∃ xs, SqL K H a xs ∧ xs.length ≤ i⟩
def Itt (K : PySem.W.Frag) (a : Addr) : It :=
  ⟨fun i H => ∃ xs x, SqT K H a xs ∧ xs[i]? = some x, fun i H x H' => H' = H ∧ ∀ xs, SqT K H a xs → xs[i]? = some x, fun i H => ∃ xs, SqT K H a xs ∧ xs.length ≤ i⟩
/-- lo, lo + 1, .. (n of them) -/
def Itr (lo : Int) (n : Nat) : It := ⟨fun i _ => i < n, fun i H x H' => H' = H ∧ x = .int (lo + i), fun i _ => n ≤ i⟩
theorem turn_list {P : Program} {w : World} {K : PySem.W.Frag} {tg : Expr} (a it : Addr) : Turn P w K tg (Itl K a) [it] it (fun i h => h.IsListIter it a i) where
  mem := by simp
  obj := fun i h st b hb => by
    have e : b = it := by simpa using hb
    subst e
    obtain ⟨o, e, c, d⟩ := st
    exact ⟨o, e, fun v z => by rw [d] at z; cases z⟩
  keep := fun i h h' st k => st.at fun o e => k it (by simp) o e
  item := by
    intro X hP hw hK hc i pins s σ H E I hf st hg
    subst hP hw hK
    obtain ⟨xs, x, hq, hx⟩ := hg
    obtain ⟨its, rv, p, hz⟩ := I.list hq
    obtain ⟨u, hu, ru⟩ := rv.get hx
    obtain ⟨f0, f1, f2, f3, f4, f5⟩ := hf it (by simp)
    refine wpAny_pyNext_list_item st p.isList (x := u) (by simpa using hu) fun h' st' sb => ?_
    have I1 : Inv X pins σ H { s with heap := h' } := I.turned (t' := s.toks) (fun b o hb e => (sb.2 b hb).trans e) f0 f1 f3 f4 f5
    obtain ⟨o, e, c, d⟩ := id st'
    exact ⟨u, rfl, go_of (s := { s with heap := h' }) e c d (by decide) ⟨x, H, I1, ru, ⟨rfl, fun ys hy => by rw [I.list_inj hy hq]; exact hx⟩, st', fun b hb => (hf b hb).1⟩⟩
  done := by
    intro X hP hw hK hc i pins s σ H E I hf st hg
    subst hP hw hK
    obtain ⟨xs, hq, hx⟩ := hg
    obtain ⟨its, rv, p, hz⟩ := I.list hq
    obtain ⟨f0, f1, f2, f3, f4, f5⟩ := hf it (by simp)
    have hl := rv.length
    exact wpAny_pyNext_list_end (I.ok.hd hc) st p.isList (by simp; omega) fun h' eb => ⟨rfl, I.turned (t' := s.toks) (fun b o hb e => eb b o hb e) f0 f1 f3 f4 f5⟩
  self := fun _ _ _ _ _ st h => wpAny_pyIter_listiter st h
theorem turn_range {P : Program} {w : World} {K : PySem.W.Frag} {tg : Expr} (it : Addr) (lo : Int) (n : Nat) : Turn P w K tg (Itr lo n) [it] it (fun i h => IsRangeIter h it (lo + (i : Nat) * 1) ((n : Int) - (i : Nat)) 1) where
  mem := by simp
  obj := fun i h st b hb => by
    have e : b = it := by simpa using hb
    subst e
    exact ⟨_, st, fun v z => by
      have z' : Data.fields _ = Data.cell v := z
      cases z'⟩
  keep := fun i h h' st k => k it (by simp) _ st
  item := by
    intro X hP hw hK hc i pins s σ H E I hf st hg
    subst hP hw hK
    obtain ⟨f0, f1, f2, f3, f4, f5⟩ := hf it (by simp)
    have W := Walks.range (prog := X.prog) (w := X.w) (I.ok.hd hc) it lo 1 n
    refine W.item i s _ _ hg st fun v h' tk hv st' kk => ?_
    obtain ⟨t, rfl⟩ := hv
    have I1 : Inv X pins σ H { s with heap := h', toks := tk } := I.turned (fun b o hb e => kk b o (by simpa using hb) e) f0 f1 f3 f4 f5
    refine ⟨_, rfl, go_of (s := { s with heap := h', toks := tk }) (n := "range_iterator") st' rfl rfl (by decide) ⟨.int (lo + i), H, I1, ⟨t, ?_⟩, ⟨rfl, rfl⟩, st', fun b hb => (hf b hb).1⟩⟩
    rw [Int.mul_one]
  done := by
    intro X hP hw hK hc i pins s σ H E I hf st hg
    subst hP hw hK
    obtain ⟨f0, f1, f2, f3, f4, f5⟩ := hf it (by simp)
    exact wpAny_pyNext_range_end (I.ok.hd hc) st (by have : n ≤ i := hg; omega) fun h' eb => ⟨rfl, I.turned (t' := s.toks) (fun b o hb e => eb b o hb e) f0 f1 f3 f4 f5⟩
  self := fun _ _ _ _ _ st h => wpAny_pyIter_rangeiter st h
end L2

namespace L2
open PySem PySem.Spec PyProof.Rows
section
variable {X : Cx} {tg : Expr}
def iList (K : PySem.W.Frag) (tl : TE) : TI := fun σ H R => tl σ H fun x H1 => ∃ a, x = .ref a ∧ (∃ xs, SqL K H1 a xs) ∧ R (Itl K a) H1
def iTup (K : PySem.W.Frag) (tl : TE) : TI := fun σ H R => tl σ H fun x H1 => ∃ a, x = .ref a ∧ (∃ xs, SqT K H1 a xs) ∧ R (Itt K a) H1
theorem pi_list {l : Expr} {tl : TE} (hl : PE X l tl) : PI X tg l (iList X.K tl) := by
  intro pins s σ H R I h
  refine thn (hl pins s σ H _ I h) fun v s1 ⟨x, H1, I1, r1, q1⟩ => ?_
  obtain ⟨a, e, ⟨xs, hq⟩, q⟩ := q1
  subst e
  cases r1
  obtain ⟨its, rv, p, hz⟩ := I1.list hq
  refine wpAny_pyIter_list p.isList ?_
  refine ⟨s1.heap.objs.size, [s1.heap.objs.size], _, _, H1, rfl, I1.kept (t' := s1.toks) fun b o e => Heap.get?_push_of_some _ e, turn_list a _, ⟨_, Heap.get?_push_size _ rfl, rfl, rfl⟩, fun b hb => ?_, q⟩
  have e : b = s1.heap.objs.size := by simpa using hb
  subst e
  exact I1.fpOk (Nat.le_refl _) (I1.hok.fresh (Nat.le_refl _))
/-- a range object just made, walked -/
theorem range_it {pins : List (Addr × Obj)} {σ : St} {H : Hp} {s : Shared} {R : It → Hp → Prop} {E : Value → Shared → Prop} {lo hi : Int} {t u v : Tok} {tk : Nat} (I : Inv X pins σ H s) (h1 : -(2 ^ 62) ≤ lo) (h2 : lo < 2 ^ 62) (h3 : -(2 ^ 62) ≤ hi) (h4 : hi < 2 ^ 62)
    (q : R (Itr lo (hi - lo).toNat) H) : wpAny (model X.prog X.w) X.A (pyIter (.ref s.heap.objs.size)) (PIE X pins σ tg R) E { s with heap := s.heap.push { cls := .type "range", data := .fields #[.int lo t, .int hi u, .int 1 v] }, toks := tk } := by
  refine wpAny_pyIter_range (IsRange.new ..) (small_one h1 h2 h3 h4) ?_
  have I1 : Inv X pins σ H { s with heap := s.heap.push { cls := .type "range", data := .fields #[.int lo t, .int hi u, .int 1 v] }, toks := tk } := I.kept fun b o e => Heap.get?_push_of_some _ e
  refine ⟨(s.heap.push { cls := .type "range", data := .fields #[.int lo t, .int hi u, .int 1 v] }).objs.size, [(s.heap.push { cls := .type "range", data := .fields #[.int lo t, .int hi u, .int 1 v] }).objs.size], _, _, H, rfl,
    I1.kept (t' := tk) fun b o e => Heap.get?_push_of_some _ e, turn_range _ lo (hi - lo).toNat, ?_, fun b hb => ?_, q⟩
  · have e1 : lo + ((0 : Nat) : Int) * 1 = lo := by simp
    have e2 : (((hi - lo).toNat : Nat) : Int) - ((0 : Nat) : Int) = Builtin.Range.rangeSize lo hi 1 := by rw [rangeSize_one]; split <;> omega
    show IsRangeIter _ _ (lo + ((0 : Nat) : Int) * 1) ((((hi - lo).toNat : Nat) : Int) - ((0 : Nat) : Int)) 1
    rw [e1, e2]
    exact Heap.get?_push_size _ rfl
  · have e : b = (s.heap.push { cls := .type "range", data := .fields #[.int lo t, .int hi u, .int 1 v] }).objs.size := by simpa using hb
    subst e
    exact I1.fpOk (Nat.le_refl _) (I1.hok.fresh (Nat.le_refl _))
def iRng1 (ta : TA) : TI := fun σ H R => ta σ H fun vs H1 => ∃ j : Int, vs = [.int j] ∧ -(2 ^ 62) ≤ j ∧ j < 2 ^ 62 ∧ R (Itr 0 j.toNat) H1
def iRng2 (ta : TA) : TI := fun σ H R => ta σ H fun vs H1 => ∃ i j : Int, vs = [.int i, .int j] ∧ (-(2 ^ 62) ≤ i ∧ i < 2 ^ 62 ∧ -(2 ^ 62) ≤ j ∧ j < 2 ^ 62) ∧ R (Itr i (j - i).toNat) H1
theorem pi_range1 {a : Expr} {ta : TA} {p pos : Pos} (hg : Gl X "range") (hm : X.mg "range" = none) (ha : PA X [a] ta) (hs : starEach [a] X.env = [(false, eval a X.env)] := by rfl) : PI X tg (.Call (.Name "range" p) [a] [] pos) (iRng1 ta) := by
  intro pins s σ H R I h
  refine Call_ (ld_blt I hg hm boot_range (PyProof.Rows.callWith_type1 (thn (ha pos pins s σ H _ I h) fun us s1 ⟨vs, H1, I1, r1, q1⟩ => ?_) hs rfl))
  obtain ⟨j, e, q1, q2, q⟩ := q1
  subst e
  cases r1 with
  | cons r rr =>
    cases rr
    obtain ⟨t, rfl⟩ := r
    exact call_range_1 (range_it I1 (by omega) (by omega) q1 q2 (by simpa using q))
/-! ### for -/
/-- W: the invariant by the turn and a measure; N: what the body is to reach -/
def tFor (wi : TI) (g : TG) (tb : TS) : TS := fun D σ H => wi σ H fun J H1 => ∃ W : Nat → Nat → St → Hp → Prop, (∃ m, W 0 m σ H1) ∧ ∀ i m σ H, W i m σ H →
  (J.stop i H ∧ D.nx σ H) ∨ (J.go i H ∧ ∃ N : St → Hp → Prop, (∀ σ' H', N σ' H' → ∃ m', m' < m ∧ W (i + 1) m' σ' H') ∧ ∀ x H', J.yld i H x H' → g x σ H' fun σ2 H2 => tb { D with nx := N, ct := N, bk := D.nx } σ2 H2)
/-- the records at fp as they stand -/
def pinsAt (fp : List Addr) (h : Heap) : List (Addr × Obj) := fp.filterMap fun b => (h.get? b).map fun o => (b, o)
theorem mem_pinsAt {fp : List Addr} {h : Heap} {b : Addr} {o : Obj} (hb : b ∈ fp) (e : h.get? b = some o) : (b, o) ∈ pinsAt fp h := List.mem_filterMap.mpr ⟨b, hb, by rw [e]; rfl⟩
theorem of_pinsAt {fp : List Addr} {h : Heap} {p : Addr × Obj} (hp : p ∈ pinsAt fp h) : p.1 ∈ fp ∧ h.get? p.1 = some p.2 := by
  obtain ⟨b, hb, e⟩ := List.mem_filterMap.mp hp
  cases q : h.get? b with
  | none => rw [q] at e; cases e
  | some o =>
    rw [q] at e
    have e' : (b, o) = p := Option.some.inj e
    subst e'
    exact ⟨hb, q⟩
theorem Inv.pinned {pins : List (Addr × Obj)} {σ : St} {H : Hp} {s : Shared} {fp : List Addr} (I : Inv X pins σ H s) (hf : ∀ b ∈ fp, FpOk X pins H b) (ho : ∀ b ∈ fp, ∃ o, s.heap.get? b = some o ∧ ∀ v, o.data ≠ .cell v) : Inv X (pins ++ pinsAt fp s.heap) σ H s :=
  I.pins_of fun p hp => (List.mem_append.mp hp).elim (fun z => I.pin p (List.mem_append_right _ z)) fun z => by
    obtain ⟨hb, e⟩ := of_pinsAt z
    obtain ⟨f0, f1, f2, _⟩ := hf p.1 hb
    obtain ⟨o, e', d⟩ := ho p.1 hb
    rw [e] at e'; cases e'
    exact ⟨e, f0, f1, f2, d⟩
theorem Inv.unpinned {pins pl : List (Addr × Obj)} {σ : St} {H : Hp} {s : Shared} (I : Inv X (pins ++ pl) σ H s) : Inv X pins σ H s := I.pins_of fun p hp => I.pin p (List.mem_append_right _ (List.mem_append_left _ hp))
theorem ps_for {iter : Expr} {body : List Stmt} {wi : TI} {g : TG} {tb : TS} {pos : Pos} (hp : PassesOwn (model X.prog X.w) X.A X.env X.xe) (hc : X.calm = true) (hi : PI X tg iter wi) (hg : PG X tg g) (hb : PSs X body tb)
    (hs : ∀ x, foldedSetIterable iter X.env x = pure x := by intro _; rfl) : PS X (.For tg iter body [] pos) (tFor wi g tb) := by
  intro pins s σ H D I h
  refine wpAny_For (thn (hi pins s σ H _ I h) fun v s1 h1 => thn h1 fun itv s2 h2 => ?_) hs
  obtain ⟨it, fp, tn, J, H2, e, I2, T, st2, f2, W, ⟨m0, w0⟩, turn⟩ := h2
  subst e
  -- what stays true of the iterator's objects through the loop
  have stat : ∀ {H' : Hp}, (∀ b ∈ fp, H' b = none) → ∀ b ∈ fp, FpOk X pins H' b := fun hn b hb => ⟨hn b hb, (f2 b hb).2⟩
  refine codeAny_forLoop_any (fun n s' => ∃ i σ' H', Inv X pins σ' H' s' ∧ tn i s'.heap ∧ (∀ b ∈ fp, H' b = none) ∧ W i n σ' H') ?_ m0 ⟨0, σ, H2, I2, st2, fun b hb => (f2 b hb).1, w0⟩
  rintro n s3 ⟨i, σ3, H3, I3, st3, fr3, w3⟩
  rcases turn i n σ3 H3 w3 with ⟨stop, qn⟩ | ⟨go, N, hN, step⟩
  · refine wpAny_passesOwn hp (thn (T.done X rfl rfl rfl hc i pins s3 σ3 H3 X.xe I3 (stat fr3) st3 stop) fun r s4 ⟨hr, I4⟩ => ?_)
    subst hr
    exact wpAny_execs_nil ⟨σ3, H3, I4, qn⟩
  · refine wpAny_passesOwn hp (thn (T.item X rfl rfl rfl hc i pins s3 σ3 H3 X.xe I3 (stat fr3) st3 go) fun r s4 ⟨u, hr, h4⟩ => ?_)
    subst hr
    refine wpAny_passesOwn hp (thn h4 fun _ s5 ⟨x, H5, I5, r5, y5, st5, fr5⟩ => ?_)
    have I5' := I5.pinned (stat fr5) (T.obj _ _ st5)
    refine wpAny_passesOwn hp (thn (hg _ s5 σ3 H5 x u _ I5' r5 (step x H5 y5)) fun _ s6 ⟨σ6, H6, I6, q6⟩ => ?_)
    refine wpAny_passesOwn hp (thn (hb _ s6 σ6 H6 _ I6 q6) fun f s7 q7 => ?_)
    have again : ∀ {σ7 : St} {H7 : Hp}, Inv X (pins ++ pinsAt fp s5.heap) σ7 H7 s7 → N σ7 H7 → ∃ m, m < n ∧ ∃ i σ' H', Inv X pins σ' H' s7 ∧ tn i s7.heap ∧ (∀ b ∈ fp, H' b = none) ∧ W i m σ' H' := fun {σ7 H7} I7 n7 => by
      obtain ⟨m', hm, w7⟩ := hN σ7 H7 n7
      refine ⟨m', hm, i + 1, σ7, H7, I7.unpinned, T.keep _ _ _ st5 fun b hb o e => (I7.pin (b, o) (List.mem_append_right _ (List.mem_append_right _ (mem_pinsAt hb e)))).1, fun b hb => ?_, w7⟩
      obtain ⟨o, e, d⟩ := T.obj _ _ st5 b hb
      exact (I7.pin (b, o) (List.mem_append_right _ (List.mem_append_right _ (mem_pinsAt hb e)))).2.1
    cases f with
    | next => obtain ⟨σ7, H7, I7, n7⟩ := q7; exact again I7 n7
    | cont => obtain ⟨σ7, H7, I7, n7⟩ := q7; exact again I7 n7
    | brk => obtain ⟨σ7, H7, I7, q7⟩ := q7; exact ⟨σ7, H7, I7.unpinned, q7⟩
    | ret v => obtain ⟨x7, σ7, H7, I7, r7, q7⟩ := q7; exact ⟨x7, σ7, H7, I7.unpinned, r7, q7⟩
end

/-! ### the forms one uses -/
theorem for_range {lo : Int} {n : Nat} {g : TG} {tb : TS} {D : Ends} {σ : St} {H : Hp} (Pv : Nat → St → Hp → Prop) (h0 : Pv 0 σ H)
    (hs : ∀ i σ H, i < n → Pv i σ H → g (.int (lo + i)) σ H fun σ2 H2 => tb { D with nx := Pv (i + 1), ct := Pv (i + 1), bk := D.nx } σ2 H2) (hd : ∀ σ H, Pv n σ H → D.nx σ H) :
    ∃ W : Nat → Nat → St → Hp → Prop, (∃ m, W 0 m σ H) ∧ ∀ i m σ H, W i m σ H →
      ((Itr lo n).stop i H ∧ D.nx σ H) ∨ ((Itr lo n).go i H ∧ ∃ N : St → Hp → Prop, (∀ σ' H', N σ' H' → ∃ m', m' < m ∧ W (i + 1) m' σ' H') ∧ ∀ x H', (Itr lo n).yld i H x H' → g x σ H' fun σ2 H2 => tb { D with nx := N, ct := N, bk := D.nx } σ2 H2) := by
  refine ⟨fun i m σ H => m = n - i ∧ i ≤ n ∧ Pv i σ H, ⟨n, by simp, Nat.zero_le _, h0⟩, ?_⟩
  rintro i m σ H ⟨rfl, hi, p⟩
  by_cases hlt : i < n
  · refine .inr ⟨hlt, Pv (i + 1), fun σ' H' p' => ⟨n - (i + 1), by omega, rfl, hlt, p'⟩, fun x H' y => ?_⟩
    obtain ⟨e, y⟩ := y
    subst e y
    exact hs i σ _ hlt p
  · have e : i = n := by omega
    subst e
    exact .inl ⟨Nat.le_refl _, hd σ H p⟩
end L2

namespace L2
open PySem PySem.Spec PyProof.Rows

abbrev R2 := V → V → Hp → VK → Prop
/-- a two-place operation on values: f is binaryOp op, inplaceOp op or compareOp op -/
def OpR (X : Cx) (f : Value → Value → Sem Value) (r : R2) : Prop :=
  ∀ (pins : List (Addr × Obj)) (s : Shared) (σ : St) (H : Hp) (x y : V) (v u : Value) (Q : VK), Inv X pins σ H s → RelV x v → RelV y u → r x y H Q →
    wpAny (model X.prog X.w) X.A (f v u) (EP X pins σ Q) X.xe s
/-- a one-place operation -/
def UnR (X : Cx) (f : Value → Sem Value) (r : V → Hp → VK → Prop) : Prop :=
  ∀ (pins : List (Addr × Obj)) (s : Shared) (σ : St) (H : Hp) (x : V) (v : Value) (Q : VK), Inv X pins σ H s → RelV x v → r x H Q →
    wpAny (model X.prog X.w) X.A (f v) (EP X pins σ Q) X.xe s
/-- a call of a value that is known (a builtin, a type) with values -/
def CallR (X : Cx) (f : Value) (r : List V → Hp → VK → Prop) : Prop :=
  ∀ (pins : List (Addr × Obj)) (s : Shared) (σ : St) (H : Hp) (xs : List V) (us : List Value) (Q : VK), Inv X pins σ H s → Vals xs us → r xs H Q →
    wpAny (model X.prog X.w) X.A (call f us) (EP X pins σ Q) X.xe s
/-- a value's truth -/
def TruR (X : Cx) (r : V → Hp → (Bool → Hp → Prop) → Prop) : Prop :=
  ∀ (pins : List (Addr × Obj)) (s : Shared) (σ : St) (H : Hp) (x : V) (v : Value) (Q : Bool → Hp → Prop), Inv X pins σ H s → RelV x v → r x H Q →
    wpAny (model X.prog X.w) X.A (truthy v) (TP X pins σ Q) X.xe s

def tOp (r : R2) (ta tb : TE) : TE := fun σ H Q => ta σ H fun x H1 => tb σ H1 fun y H2 => r x y H2 Q
def tUn (r : V → Hp → VK → Prop) (ta : TE) : TE := fun σ H Q => ta σ H fun x H1 => r x H1 Q
/-- ints in, under C, and a value out -/
def rI (C : Int → Int → Prop) (g : Int → Int → V) : R2 := fun x y H Q => ∃ i j, x = .int i ∧ y = .int j ∧ C i j ∧ Q (g i j) H
def rI0 (g : Int → Int → V) : R2 := fun x y H Q => ∃ i j, x = .int i ∧ y = .int j ∧ Q (g i j) H
def rU (g : Int → V) : V → Hp → VK → Prop := fun x H Q => ∃ i, x = .int i ∧ Q (g i) H

section
variable {X : Cx} {a b c : Expr} {ta tb tc : TE} {pos : Pos}

theorem binT (ha : PE X a ta) (hb : PE X b tb) {pins : List (Addr × Obj)} {s : Shared} {σ : St} {H : Hp} {R : V → V → Hp → Prop} (I : Inv X pins σ H s)
    (h : ta σ H fun x H1 => tb σ H1 fun y H2 => R x y H2) {Q : Value → Shared → Prop} {f : Value → Value → Sem Value}
    (hf : ∀ v u s2 x y H2, Inv X pins σ H2 s2 → RelV x v → RelV y u → R x y H2 → wpAny (model X.prog X.w) X.A (f v u) Q X.xe s2) :
    wpAny (model X.prog X.w) X.A (eval a X.env) (fun v s₁ => wpAny (model X.prog X.w) X.A (eval b X.env) (fun u s₂ => wpAny (model X.prog X.w) X.A (f v u) Q X.xe s₂) X.xe s₁) X.xe s := by
  refine thn (ha pins s σ H _ I h) fun v s1 ⟨x, H1, I1, r1, q1⟩ => ?_
  refine thn (hb pins s1 σ H1 _ I1 q1) fun u s2 ⟨y, H2, I2, r2, q2⟩ => ?_
  exact hf v u s2 x y H2 I2 r1 r2 q2

theorem pe_op {op : Operator} {r : R2} (ho : OpR X (binaryOp op) r) (ha : PE X a ta) (hb : PE X b tb) : PE X (.BinOp a op b pos) (tOp r ta tb) := by
  intro pins s σ H Q I h
  exact wpAny_BinOp (binT ha hb I h fun v u s2 x y H2 I2 rx ry q => ho pins s2 σ H2 x y v u Q I2 rx ry q)
theorem pe_un {op : UnaryOp} {r : V → Hp → VK → Prop} (ho : UnR X (unaryOp op) r) (ha : PE X a ta) : PE X (.UnaryOp op a pos) (tUn r ta) := by
  intro pins s σ H Q I h
  exact UnaryOp_ (thn (ha pins s σ H _ I h) fun v s1 ⟨x, H1, I1, r1, q1⟩ => ho pins s1 σ H1 x v Q I1 r1 q1)
/-! ### ints -/
theorem opI {f : Value → Value → Sem Value} {C : Int → Int → Prop} {g : Int → Int → Int}
    (rule : ∀ (i j : Int) (t u : Tok) (s : Shared) (Q : Value → Shared → Prop) (E : Value → Shared → Prop), C i j → Q (.int (g i j) s.toks) { s with toks := s.toks + 1 } → wpAny (model X.prog X.w) X.A (f (.int i t) (.int j u)) Q E s) :
    OpR X f (rI C fun i j => .int (g i j)) := by
  intro pins s σ H x y v u Q I rx ry h
  obtain ⟨i, j, rfl, rfl, hc, q⟩ := h
  obtain ⟨t, rfl⟩ := rx
  obtain ⟨t', rfl⟩ := ry
  exact rule i j t t' s _ _ hc ⟨.int (g i j), H, I.tok _, ⟨_, rfl⟩, q⟩
theorem opI0 {f : Value → Value → Sem Value} {g : Int → Int → Int}
    (rule : ∀ (i j : Int) (t u : Tok) (s : Shared) (Q : Value → Shared → Prop) (E : Value → Shared → Prop), Q (.int (g i j) s.toks) { s with toks := s.toks + 1 } → wpAny (model X.prog X.w) X.A (f (.int i t) (.int j u)) Q E s) :
    OpR X f (rI0 fun i j => .int (g i j)) := by
  intro pins s σ H x y v u Q I rx ry h
  obtain ⟨i, j, rfl, rfl, q⟩ := h
  obtain ⟨t, rfl⟩ := rx
  obtain ⟨t', rfl⟩ := ry
  exact rule i j t t' s _ _ ⟨.int (g i j), H, I.tok _, ⟨_, rfl⟩, q⟩
theorem opB0 {f : Value → Value → Sem Value} {g : Int → Int → Bool}
    (rule : ∀ (i j : Int) (t u : Tok) (s : Shared) (Q : Value → Shared → Prop) (E : Value → Shared → Prop), Q (.bool (g i j)) s → wpAny (model X.prog X.w) X.A (f (.int i t) (.int j u)) Q E s) :
    OpR X f (rI0 fun i j => .bl (g i j)) := by
  intro pins s σ H x y v u Q I rx ry h
  obtain ⟨i, j, rfl, rfl, q⟩ := h
  obtain ⟨t, rfl⟩ := rx
  obtain ⟨t', rfl⟩ := ry
  exact rule i j t t' s _ _ ⟨.bl (g i j), H, I, rfl, q⟩

def CDiv (i j : Int) : Prop := 0 < j ∧ j < 1073741824
def CDivN (i j : Int) : Prop := j ≠ 0 ∧ j.natAbs < 1073741824
def CPow (i j : Int) : Prop := 0 ≤ j ∧ j ≤ 1000000 ∧ i.natAbs < 2 ^ 64
def CMul (i j : Int) : Prop := (-(2 ^ 64) < i ∧ i < 2 ^ 64) ∨ (-(2 ^ 64) < j ∧ j < 2 ^ 64)
theorem CMul.ok {i j : Int} (h : CMul i j) : IntMulOk i j := by
  rcases h with ⟨h1, h2⟩ | ⟨h1, h2⟩
  · exact .of_left (intBits_le_64 h1 h2)
  · exact .of_right (intBits_le_64 h1 h2)
theorem op_add : OpR X (binaryOp .Add) (rI0 fun i j => .int (i + j)) := opI0 fun _ _ _ _ _ _ _ q => add_int q
theorem op_sub : OpR X (binaryOp .Sub) (rI0 fun i j => .int (i - j)) := opI0 fun _ _ _ _ _ _ _ q => sub_int q
theorem op_mul : OpR X (binaryOp .Mult) (rI CMul fun i j => .int (i * j)) := opI fun _ _ _ _ _ _ _ hc q => mul_int q hc.ok
/-- % by a positive divisor of any size -/
theorem op_mod : OpR X (binaryOp .Mod) (rI (fun _ j => 0 < j) fun i j => .int (i % j)) := opI fun i j _ _ _ _ _ hc q => by
  have h1 : (0 : Int) < j := hc
  exact mod_int' (by omega) (by rw [Int.fmod_eq_emod_of_nonneg i (by omega)]; exact q)
theorem op_pow : OpR X (binaryOp .Pow) (rI CPow fun i j => .int (i ^ j.toNat)) := opI fun _ _ _ _ _ _ _ hc q => pow_int_small hc.1 hc.2.1 hc.2.2 q
theorem unI {f : Value → Sem Value} {g : Int → Int}
    (rule : ∀ (i : Int) (t : Tok) (s : Shared) (Q : Value → Shared → Prop) (E : Value → Shared → Prop), Q (.int (g i) s.toks) { s with toks := s.toks + 1 } → wpAny (model X.prog X.w) X.A (f (.int i t)) Q E s) :
    UnR X f (rU fun i => .int (g i)) := by
  intro pins s σ H x v Q I rx h
  obtain ⟨i, rfl, q⟩ := h
  obtain ⟨t, rfl⟩ := rx
  exact rule i t s _ _ ⟨.int (g i), H, I.tok _, ⟨_, rfl⟩, q⟩
theorem un_neg : UnR X (unaryOp .USub) (rU fun i => .int (-i)) := unI fun _ _ _ _ _ q => neg_int q
/-! ### bools among ints: n += (a < b) -/
end

/-! ### comparisons -/
/-- the scalars that == tells apart as data does -/
def scal : V → V → Bool
  | .non, .non => true | .non, .int _ => true | .int _, .non => true | .non, .bl _ => true | .bl _, .non => true | .non, .str _ => true | .str _, .non => true
  | .int _, .int _ => true | .bl _, .bl _ => true | .str _, .str _ => true | .byt _, .byt _ => true
  | .int _, .str _ => true | .str _, .int _ => true | .bl _, .str _ => true | .str _, .bl _ => true
  | _, _ => false
def rEq : R2 := fun x y H Q => scal x y = true ∧ Q (.bl (decide (x = y))) H
def rNe : R2 := fun x y H Q => scal x y = true ∧ Q (.bl (!decide (x = y))) H

theorem dec_int {i j : Int} : decide (V.int i = V.int j) = (i == j) := by
  rw [Bool.eq_iff_iff]
  simp
theorem dec_bl {i j : Bool} : decide (V.bl i = V.bl j) = (i == j) := by
  rw [Bool.eq_iff_iff]
  simp
theorem dec_str {i j : Str} : decide (V.str i = V.str j) = (i == j) := by
  rw [Bool.eq_iff_iff]
  simp
theorem dec_byt {i j : Array UInt8} : decide (V.byt i = V.byt j) = (i.toList == j.toList) := by
  rw [Bool.eq_iff_iff]
  cases i
  cases j
  simp

section
variable {X : Cx} {a b c : Expr} {ta tb tc : TE} {pos : Pos}
theorem fin_bl {pins : List (Addr × Obj)} {σ : St} {H : Hp} {s : Shared} {Q : VK} {k k' : Bool} (I : Inv X pins σ H s) (q : Q (.bl k) H) (e : k = k') : EP X pins σ Q (.bool k') s := by
  subst e
  exact ⟨.bl k, H, I, rfl, q⟩
theorem op_eq : OpR X (compareOp .Eq) rEq := by
  intro pins s σ H x y v u Q I rx ry h
  obtain ⟨hs, q⟩ := h
  cases x with
  | non =>
    cases rx
    cases y with
    | non => cases ry; exact PySem.EqNone.eq_none_none (fin_bl I q (by simp))
    | bl j => cases ry; exact PySem.EqNone.eq_none_bool (fin_bl I q (by simp))
    | int j => obtain ⟨t', rfl⟩ := ry; exact PySem.EqNone.eq_none_int (fin_bl I q (by simp))
    | str j => obtain ⟨t', rfl⟩ := ry; exact PySem.EqNone.eq_none_str (fin_bl I q (by simp))
    | _ => exact absurd (show false = true from hs) Bool.false_ne_true
  | bl i =>
    cases rx
    cases y with
    | non => cases ry; exact PySem.EqNone.eq_bool_none (fin_bl I q (by simp))
    | bl j => cases ry; exact eq_bool (fin_bl I q dec_bl)
    | str j => obtain ⟨t', rfl⟩ := ry; exact PySem.EqMixed.eq_bool_str (fin_bl I q (by simp))
    | _ => exact absurd (show false = true from hs) Bool.false_ne_true
  | int i =>
    obtain ⟨t, rfl⟩ := rx
    cases y with
    | non => cases ry; exact PySem.EqNone.eq_int_none (fin_bl I q (by simp))
    | int j => obtain ⟨t', rfl⟩ := ry; exact eq_int (fin_bl I q dec_int)
    | str j => obtain ⟨t', rfl⟩ := ry; exact PySem.EqMixed.eq_int_str (fin_bl I q (by simp))
    | _ => exact absurd (show false = true from hs) Bool.false_ne_true
  | str i =>
    obtain ⟨t, rfl⟩ := rx
    cases y with
    | non => cases ry; exact PySem.EqNone.eq_str_none (fin_bl I q (by simp))
    | bl j => cases ry; exact PySem.EqMixed.eq_str_bool (fin_bl I q (by simp))
    | int j => obtain ⟨t', rfl⟩ := ry; exact PySem.EqMixed.eq_str_int (fin_bl I q (by simp))
    | str j => obtain ⟨t', rfl⟩ := ry; exact eq_str (fin_bl I q dec_str)
    | _ => exact absurd (show false = true from hs) Bool.false_ne_true
  | byt i =>
    obtain ⟨t, rfl⟩ := rx
    cases y with
    | byt j => obtain ⟨t', rfl⟩ := ry; exact PySem.W.eq_bytes (fin_bl I q dec_byt)
    | _ => exact absurd (show false = true from hs) Bool.false_ne_true
  | _ => cases y <;> exact absurd (show false = true from hs) Bool.false_ne_true
theorem op_ne : OpR X (compareOp .NotEq) rNe := by
  intro pins s σ H x y v u Q I rx ry h
  obtain ⟨hs, q⟩ := h
  cases x with
  | non =>
    cases rx
    cases y with
    | non => cases ry; exact PySem.EqNone.ne_none_none (fin_bl I q (by simp))
    | bl j => cases ry; exact PySem.EqNone.ne_none_bool (fin_bl I q (by simp))
    | int j => obtain ⟨t', rfl⟩ := ry; exact PySem.EqNone.ne_none_int (fin_bl I q (by simp))
    | str j => obtain ⟨t', rfl⟩ := ry; exact PySem.EqNone.ne_none_str (fin_bl I q (by simp))
    | _ => exact absurd (show false = true from hs) Bool.false_ne_true
  | bl i =>
    cases rx
    cases y with
    | non => cases ry; exact PySem.EqNone.ne_bool_none (fin_bl I q (by simp))
    | bl j => cases ry; exact ne_bool (fin_bl I q (congrArg not dec_bl))
    | str j => obtain ⟨t', rfl⟩ := ry; exact PySem.EqMixed.ne_bool_str (fin_bl I q (by simp))
    | _ => exact absurd (show false = true from hs) Bool.false_ne_true
  | int i =>
    obtain ⟨t, rfl⟩ := rx
    cases y with
    | non => cases ry; exact PySem.EqNone.ne_int_none (fin_bl I q (by simp))
    | int j => obtain ⟨t', rfl⟩ := ry; exact ne_int (fin_bl I q (congrArg not dec_int))
    | str j => obtain ⟨t', rfl⟩ := ry; exact PySem.EqMixed.ne_int_str (fin_bl I q (by simp))
    | _ => exact absurd (show false = true from hs) Bool.false_ne_true
  | str i =>
    obtain ⟨t, rfl⟩ := rx
    cases y with
    | non => cases ry; exact PySem.EqNone.ne_str_none (fin_bl I q (by simp))
    | bl j => cases ry; exact PySem.EqMixed.ne_str_bool (fin_bl I q (by simp))
    | int j => obtain ⟨t', rfl⟩ := ry; exact PySem.EqMixed.ne_str_int (fin_bl I q (by simp))
    | str j => obtain ⟨t', rfl⟩ := ry; exact ne_str (fin_bl I q (congrArg not dec_str))
    | _ => exact absurd (show false = true from hs) Bool.false_ne_true
  | byt i =>
    obtain ⟨t, rfl⟩ := rx
    cases y with
    | byt j => obtain ⟨t', rfl⟩ := ry; exact PySem.W.ne_bytes (fin_bl I q (congrArg not dec_byt))
    | _ => exact absurd (show false = true from hs) Bool.false_ne_true
  | _ => cases y <;> exact absurd (show false = true from hs) Bool.false_ne_true

theorem op_lt : OpR X (compareOp .Lt) (rI0 fun i j => .bl (decide (i < j))) := opB0 fun _ _ _ _ _ _ _ q => lt_int q
theorem op_le : OpR X (compareOp .LtE) (rI0 fun i j => .bl (decide (i ≤ j))) := opB0 fun _ _ _ _ _ _ _ q => le_int q
theorem op_gt : OpR X (compareOp .Gt) (rI0 fun i j => .bl (decide (j < i))) := opB0 fun _ _ _ _ _ _ _ q => gt_int q
theorem op_ge : OpR X (compareOp .GtE) (rI0 fun i j => .bl (decide (j ≤ i))) := opB0 fun _ _ _ _ _ _ _ q => ge_int q
/-- the one string within the other -/
theorem op_in_str : OpR X (compareOp .In) (fun x y H Q => ∃ i j, x = .str i ∧ y = .str j ∧ Q (.bl (!(Builtin.Str.occurrences j i 0 j.length 1).isEmpty)) H) := by
  intro pins s σ H x y v u Q I rx ry h
  obtain ⟨i, j, rfl, rfl, q⟩ := h
  obtain ⟨t, rfl⟩ := rx
  obtain ⟨t', rfl⟩ := ry
  exact in_str (fin_bl I q rfl)

/-- is None, is not None: the right side a value none -/
theorem op_isN : OpR X (compareOp .Is) (fun x y H Q => y = .non ∧ Q (.bl (decide (x = .non))) H) := by
  intro pins s σ H x y v u Q I rx ry h
  obtain ⟨rfl, q⟩ := h
  cases ry
  refine is_none_gen (fin_bl I q ?_)
  cases x <;> first
    | (cases rx; rfl)
    | (obtain ⟨t, rfl⟩ := rx; rfl)
/-- is, is not of two objects that are tracked lists or instances -/
def isObj : HO → Bool
  | .lst _ => true
  | .ins _ _ _ => true
  | _ => false
theorem nomark (b : Expr) {op : CmpOp} (h : op ≠ .In := by decide) (h2 : op ≠ .NotIn := by decide) : behindInMarks op b = false := by
  have e1 : (op == CmpOp.In) = false := by cases op <;> first | rfl | exact absurd rfl h
  have e2 : (op == CmpOp.NotIn) = false := by cases op <;> first | rfl | exact absurd rfl h2
  cases b <;> simp [behindInMarks, e1, e2]
/-- a comparison as a value; hm: nomark b, or (for in, not in) by with_unfolding_all rfl -/
theorem pe_cmpR {op : CmpOp} {r : R2} (ho : OpR X (compareOp op) r) (ha : PE X a ta) (hb : PE X b tb) (hm : behindInMarks op b = false) : PE X (.Compare a [op] [b] pos) (tOp r ta tb) := by
  intro pins s σ H Q I h
  exact wpAny_Compare1 (binT ha hb I h fun v u s2 x y H2 I2 rx ry q => ho pins s2 σ H2 x y v u Q I2 rx ry q) hm
/-- a reading of a value as a test -/
def tTest (t : TE) : TT := fun σ H Q => t σ H fun x H' => ∃ k, x = .bl k ∧ Q k H'
theorem pt_cmpR {op : CmpOp} {r : R2} (ho : OpR X (compareOp op) r) (ha : PE X a ta) (hb : PE X b tb) (hm : behindInMarks op b = false) : PT X (.Compare a [op] [b] pos) (tTest (tOp r ta tb)) := by
  intro pins s σ H Q I h
  refine wpAny_isTrue_Compare1 (thn (ha pins s σ H _ I h) fun v s1 ⟨x, H1, I1, r1, q1⟩ => thn (hb pins s1 σ H1 _ I1 q1) fun u s2 ⟨y, H2, I2, r2, q2⟩ =>
    thn (ho pins s2 σ H2 x y v u _ I2 r1 r2 q2) fun c s3 ⟨z, H3, I3, r3, k, e, q3⟩ => ?_) hm
  subst e
  cases r3
  exact wpAny_truthy_bool ⟨H3, I3, q3⟩
/-- a op1 b op2 c -/
def tChain (r r' : R2) (ta tb tc : TE) : TE := fun σ H Q => ta σ H fun x H1 => tb σ H1 fun y H2 => r x y H2 fun z H3 => ∃ k, z = .bl k ∧
  (if k = true then tc σ H3 fun w' H4 => r' y w' H4 Q else Q (.bl false) H3)
/-! ### truth -/
/-- a value's truth by the abstract heap -/
def TruV (K : PySem.W.Frag) (x : V) (H : Hp) (k : Bool) : Prop :=
  match x with
  | .non => k = false
  | .bl b => k = b
  | .int i => k = (i != 0)
  | .str y => y.length ≤ sizeLine ∧ k = ((y.length : Int) != 0)
  | .byt y => y.size ≤ sizeLine ∧ k = ((y.size : Int) != 0)
  | .ref p => (∃ xs, SqL K H p xs ∧ k = !xs.isEmpty) ∨ (∃ xs, SqT K H p xs ∧ k = !xs.isEmpty) ∨ ∃ kvs, H p = some (.dK kvs) ∧ k = !kvs.isEmpty
  | _ => False
theorem isEmpty_kv {κ : Type} {kvs : List (κ × V)} {vs : List (κ × Value)} (r : KV kvs vs) : (!vs.isEmpty) = !kvs.isEmpty := by
  cases r <;> rfl
theorem isEmpty_of {xs : List V} {its : List Value} (r : Vals xs its) : (!its.toArray.isEmpty) = !xs.isEmpty := by
  cases r <;> simp
theorem line63 : (sizeLine : Nat) < 2 ^ 63 := by rw [sizeLine_eq]; decide
theorem tru_ok : TruR X (fun x H Q => ∃ k, TruV X.K x H k ∧ Q k H) := by
  intro pins s σ H x v Q I rx h
  obtain ⟨k, e, q⟩ := h
  have hl := line63
  have hs : sizeLine = 16777216 := sizeLine_eq
  cases x with
  | non =>
    cases rx
    have e' : k = false := e
    subst e'
    exact truthy_none ⟨H, I, q⟩
  | bl b =>
    cases rx
    have e' : k = b := e
    subst e'
    exact wpAny_truthy_bool ⟨H, I, q⟩
  | int i =>
    obtain ⟨t, rfl⟩ := rx
    have e' : k = (i != 0) := e
    subst e'
    exact PySem.P.truthy_int ⟨H, I, q⟩
  | str y =>
    obtain ⟨t, rfl⟩ := rx
    obtain ⟨hy, e'⟩ : y.length ≤ sizeLine ∧ k = ((y.length : Int) != 0) := e
    subst e'
    exact PySem.P.truthy_str (by omega) ⟨H, I.tok _, q⟩
  | byt y =>
    obtain ⟨t, rfl⟩ := rx
    obtain ⟨hy, e'⟩ : y.size ≤ sizeLine ∧ k = ((y.size : Int) != 0) := e
    subst e'
    exact PySem.W.truthy_bytes (by omega) ⟨H, I.tok _, q⟩
  | ref p =>
    cases rx
    have e' : (∃ xs, SqL X.K H p xs ∧ k = !xs.isEmpty) ∨ (∃ xs, SqT X.K H p xs ∧ k = !xs.isEmpty) ∨ ∃ kvs, H p = some (.dK kvs) ∧ k = !kvs.isEmpty := e
    rcases e' with ⟨xs, hx, e'⟩ | ⟨xs, hx, e'⟩ | ⟨kvs, hx, e'⟩
    · subst e'
      obtain ⟨its, r, pl, hz⟩ := I.list hx
      have hlen := r.length
      exact wpAny_truthy_list pl.isList (by simp only [List.size_toArray]; omega) ⟨H, I.tok _, by rw [isEmpty_of r]; exact q⟩
    · subst e'
      obtain ⟨its, r, pl, hz⟩ := I.tuple hx
      have hlen := r.length
      exact truthy_tuple pl (by simp only [List.size_toArray]; omega) ⟨H, I.tok _, by rw [isEmpty_of r]; exact q⟩
    · subst e'
      obtain ⟨hz, hS, vs, r, m⟩ : kvs.length ≤ sizeLine ∧ (p == sysModules) = false ∧ ∃ vs, KV kvs vs ∧ s.heap.DictOf (mixKind X.prog X.w) p vs := I.hok p _ hx
      have hlen : kvs.length = vs.length := Paired.length r
      exact wpAny_truthy_dict hS m (by omega) ⟨H, I.tok _, by rw [isEmpty_kv r]; exact q⟩
  | _ => exact (show False from e).elim
/-- any expression whose test is its value's truth (a name, a call, a subscript, a field ..: he by fun _ => rfl) -/
theorem pt_truth (ha : PE X a ta) (he : ∀ whole, isTrue a X.env whole = (do let v ← whole; standAt a.pos; holding [v] (truthy v))) :
    PT X a (fun σ H Q => ta σ H fun x H' => ∃ k, TruV X.K x H' k ∧ Q k H') := by
  intro pins s σ H Q I h
  exact isTrue_plain (thn (ha pins s σ H _ I h) fun v s1 ⟨x, H1, I1, r1, q1⟩ => tru_ok pins s1 σ H1 x v Q I1 r1 q1) (he _)

/-! ### strs and bytes -/
theorem op_add_str : OpR X (binaryOp .Add) (fun x y H Q => ∃ i j, x = .str i ∧ y = .str j ∧ i.length + j.length ≤ sizeLine ∧ Q (.str (i ++ j)) H) := by
  intro pins s σ H x y v u Q I rx ry h
  obtain ⟨i, j, rfl, rfl, hz, q⟩ := h
  obtain ⟨t, rfl⟩ := rx
  obtain ⟨t', rfl⟩ := ry
  exact add_str (fun t' tk => ⟨.str (i ++ j), H, I.tok _, ⟨_, rfl⟩, q⟩) hz
def PlainIxT (b : Expr) : Prop := ∀ o i, subscripted b false o i = operate [o, i] (getItem o i)
/-! ### scalar builtins, by CallR -/
theorem vals1 {x : V} {us : List Value} (r : Vals [x] us) : ∃ u, us = [u] ∧ RelV x u := by
  cases r with
  | cons r1 r2 => cases r2; exact ⟨_, rfl, r1⟩
theorem vals2 {x y : V} {us : List Value} (r : Vals [x, y] us) : ∃ u w', us = [u, w'] ∧ RelV x u ∧ RelV y w' := by
  cases r with
  | cons r1 r2 =>
    cases r2 with
    | cons r3 r4 => cases r4; exact ⟨_, _, rfl, r1, r3⟩
theorem call_max2 (hc : X.calm = true) : CallR X (.builtin "max") (fun xs H Q => ∃ i j, xs = [.int i, .int j] ∧ Q (.int (if j > i then j else i)) H) := by
  intro pins s σ H xs us Q I r h
  obtain ⟨i, j, rfl, q⟩ := h
  obtain ⟨u, w', rfl, ⟨t, rfl⟩, ⟨t', rfl⟩⟩ := vals2 r
  refine max_two_ints (I.ok.hd hc) fun h' tk k => ⟨_, H, I.kept k, ?_, q⟩
  by_cases hj : j > i
  · rw [if_pos hj, if_pos hj]; exact ⟨_, rfl⟩
  · rw [if_neg hj, if_neg hj]; exact ⟨_, rfl⟩
theorem call_str_int : CallR X (.type "str") (fun xs H Q => ∃ i, xs = [.int i] ∧ i.natAbs.log2 < 1920 ∧ Q (.str (toString i)) H) := by
  intro pins s σ H xs us Q I r h
  obtain ⟨i, rfl, hz, q⟩ := h
  obtain ⟨u, rfl, t, rfl⟩ := vals1 r
  exact PySem.P.str_of_int hz ⟨.str _, H, I.tok _, ⟨_, rfl⟩, q⟩
/-- len of a str, a bytes, a list, a tuple -/
def LenV (K : PySem.W.Frag) (x : V) (H : Hp) (n : Nat) : Prop :=
  match x with
  | .str y => y.length ≤ sizeLine ∧ n = y.length
  | .byt y => y.size ≤ sizeLine ∧ n = y.size
  | .ref p => (∃ xs, SqL K H p xs ∧ n = xs.length) ∨ ∃ xs, SqT K H p xs ∧ n = xs.length
  | _ => False
end
end L2

namespace L2
open PySem PySem.Spec PyProof.Rows

/-! ### an instance, its attributes a map -/
structure ObjM (h : Heap) (x dx C : Addr) (mA : Str → Option Value) : Prop where
  obj : h.get? x = some (PySem.W.instObj C dx)
  ns : h.Ns1 dx mA
  ne : dx ≠ x

theorem lookIn_ns {h : Heap} {dx : Addr} {mA : Str → Option Value} (n : h.Ns1 dx mA) : ∃ od, h.get? dx = some od ∧ ∀ name, PySem.W.lookIn name od = some (mA name) := by
  obtain ⟨o, es, ep, ho, hd, hk, _, hm⟩ := n
  refine ⟨o, ho, fun name => ?_⟩
  have e := hm name
  unfold nsFind findBy at e
  rw [← Array.find?_toList] at e
  unfold PySem.W.lookIn
  rw [hd]
  dsimp only
  split
  · rename_i y q
    rw [q] at e
    exact congrArg some e
  · rename_i q
    rw [q] at e
    have a : es.toList.any (·.refKey) = false := by
      rw [List.any_eq_false]
      intro y hy
      obtain ⟨z, t, hkey⟩ := hk y (Array.mem_toList_iff.mp hy)
      simp [DictEntry.refKey, hkey]
    have a' : ¬ es.toList.any (·.refKey) = true := by rw [a]; exact Bool.false_ne_true
    rw [if_neg a']
    exact congrArg some e

theorem ObjM.look {h : Heap} {x dx C : Addr} {mA : Str → Option Value} (I : ObjM h x dx C mA) : ∃ od, PySem.W.InstAt h x (PySem.W.instObj C dx) C (some od) ∧ ∀ name, PySem.W.lookIn name od = some (mA name) :=
  let ⟨od, ho, hl⟩ := lookIn_ns I.ns
  ⟨od, ⟨I.obj, rfl, rfl, ho⟩, hl⟩

section
variable {prog : Program} {w : World} {A : Around} {E : Value → Shared → Prop} {s : Shared} {K : PySem.W.Frag} {x dx C f : Addr} {mA : Str → Option Value} {name : Str} {v : Value}

theorem set_map {ns : List Str} {Q : Unit → Shared → Prop} (X : K.In s.heap) (I : ObjM s.heap x dx C mA)
    (hs : PySem.W.findIn K (.ref C) "__setattr__" = some (some (.builtin "object.__setattr__"))) (hp : PySem.W.plainOver K C = true) (ht : PySem.W.takerIn K C name = some none) (hh : PySem.W.hasDictIn K C = true)
    (hw : PySem.Within mA ns) (hsz : ns.length ≤ sizeLine)
    (h : ∀ h', ObjM h' x dx C (fun y => if y = name then some v else mA y) → Heap.SameBut dx s.heap h' → Q () { s with heap := h', toks := s.toks + 2 }) :
    wpAny (model prog w) A (setAttr (.ref x) name v) Q E s := by
  obtain ⟨od, J, hl⟩ := I.look
  refine PySem.W.set_plain X J hs (PySem.W.osa_open (s := { s with toks := s.toks + 1 }) (r := none) X J hp ht fun b => ?_)
  obtain ⟨cd, hc, hd'⟩ := PySem.W.any_some hh
  have hx : s.heap.get? x = some ⟨.ref C, some dx, .plain, #[]⟩ := I.obj
  refine wpAny_bind (wpAny_pure (wpAny_bind (wpAny_bind (wpAny_loadPart hx (wpAny_bind (PySem.W.Looks.here (s := { s with toks := s.toks + 1 }) (PySem.W.looks_clsIn X hc) ?_))))))
  rw [hd']
  refine wpAny_pure (a := some dx) (wpAny_bind (wpAny_pure (wpAny_bind ?_)))
  refine wpAny_nsSet1 (s := { s with toks := s.toks + 1 }) I.ns fun h' hn2 hs2 => ?_
  obtain ⟨oD, esD, epD, hoD, hdD, hcD⟩ := hn2.count (PySem.Within.cons name v hw)
  refine wpAny_bind (wpAny_lookBehind hoD (by rw [hdD]; exact pastItsLine_dict (Nat.le_trans hcD (by rw [List.length_cons]; omega))) ?_)
  exact wpAny_pure (h _ ⟨(hs2.2 _ (Ne.symm I.ne)).trans I.obj, hn2, I.ne⟩ hs2)

/-- C(..): the dict at the heap's end, the instance behind it; then its __init__ -/
theorem make_map {R : Result → Shared → Prop} {vs : List Value} {kw : List (Str × Value)} (X : K.In s.heap) (hm : PySem.W.makesIn K C = true)
    (hi : PySem.W.findIn K (.ref C) "__init__" = some (some (.ref f))) (hf : PySem.W.typeIn K (.ref f) = some (.type "function"))
    (h : codeAny (model prog w) (A.under (.builtin "type.__call__" ⟨.ref C :: vs, kw⟩)) (.call (.ref f) ⟨.ref (s.heap.objs.size + 1) :: vs, kw⟩) (PySem.W.InitBack (s.heap.objs.size + 1) R)
      { s with heap := (s.heap.push PySem.W.emptyDict).push (PySem.W.instObj C s.heap.objs.size) }) :
    codeAny (model prog w) A (.call (.ref C) ⟨vs, kw⟩) R s := by
  obtain ⟨hh, g, d, t, os⟩ := s
  exact PySem.W.make_core (PySem.W.makes_of X hm) (PySem.W.looks_findIn X hi) (fun self => PySem.W.bind_fn X self hf) (.inl rfl) h
end

/-! ### the attributes as a list of pairs -/
def putF (f : Str) (v : V) : List (Str × V) → List (Str × V)
  | [] => [(f, v)]
  | (g, x) :: r => if g = f then (g, v) :: r else (g, x) :: putF f v r
theorem lookup_putF (f g : Str) (v : V) : ∀ fs : List (Str × V), (putF f v fs).lookup g = if g = f then some v else fs.lookup g
  | [] => by
    show List.lookup g [(f, v)] = _
    by_cases h : g = f
    · have hb : (g == f) = true := beq_iff_eq.mpr h
      simp only [List.lookup, hb, if_pos h]
    · have hb : (g == f) = false := beq_eq_false_iff_ne.mpr h
      simp only [List.lookup, hb, if_neg h]
  | (k, x) :: r => by
    have ih := lookup_putF f g v r
    rw [show putF f v ((k, x) :: r) = (if k = f then (k, v) :: r else (k, x) :: putF f v r) from rfl]
    by_cases hk : k = f
    · rw [if_pos hk]
      by_cases h : g = k
      · have hb : (g == k) = true := beq_iff_eq.mpr h
        simp only [List.lookup, hb, if_pos (h.trans hk)]
      · have hb : (g == k) = false := beq_eq_false_iff_ne.mpr h
        simp only [List.lookup, hb, if_neg (fun e : g = f => h (e.trans hk.symm))]
    · rw [if_neg hk]
      by_cases h : g = k
      · have hb : (g == k) = true := beq_iff_eq.mpr h
        simp only [List.lookup, hb, if_neg (fun e : g = f => hk (h.symm.trans e))]
      · have hb : (g == k) = false := beq_eq_false_iff_ne.mpr h
        simp only [List.lookup, hb]
        exact ih
theorem keys_putF (f : Str) (v : V) : ∀ fs : List (Str × V), f ∈ (putF f v fs).map (·.1) ∧ ∀ g, g ∈ fs.map (·.1) → g ∈ (putF f v fs).map (·.1)
  | [] => ⟨by simp [putF], fun g h => by simp at h⟩
  | (k, x) :: r => by
    obtain ⟨i1, i2⟩ := keys_putF f v r
    rw [show putF f v ((k, x) :: r) = (if k = f then (k, v) :: r else (k, x) :: putF f v r) from rfl]
    by_cases hk : k = f
    · rw [if_pos hk]
      subst hk
      exact ⟨by simp, fun g h => by simpa using h⟩
    · rw [if_neg hk]
      refine ⟨?_, fun g h => ?_⟩
      · rw [List.map_cons]
        exact List.mem_cons_of_mem _ i1
      · rw [List.map_cons] at h ⊢
        rcases List.mem_cons.mp h with e | e
        · exact List.mem_cons.mpr (.inl e)
        · exact List.mem_cons_of_mem _ (i2 g e)
theorem length_putF (f : Str) (v : V) : ∀ fs : List (Str × V), (putF f v fs).length ≤ fs.length + 1
  | [] => by simp [putF]
  | (k, x) :: r => by
    have ih := length_putF f v r
    rw [show putF f v ((k, x) :: r) = (if k = f then (k, v) :: r else (k, x) :: putF f v r) from rfl]
    by_cases hk : k = f
    · rw [if_pos hk, List.length_cons, List.length_cons]; omega
    · rw [if_neg hk, List.length_cons, List.length_cons]; omega

section
variable {P : Program} {w : World} {H H' : Hp} {h h' : Heap} {a C dx : Addr} {fs fs' : List (Str × V)}
theorem ins_get (hok : HOk P w H h) (e : H a = some (.ins C dx fs)) : ∃ mA, ObjM h a dx C mA ∧ (∀ f, RelO (fs.lookup f) (mA f)) ∧ PySem.Within mA (fs.map (·.1)) ∧ fs.length ≤ 1000 ∧ H dx = some (.own a) := by
  obtain ⟨d, z, ne, ob, mA, n, r, q⟩ := (show ObjOk P w H h a (.ins C dx fs) from hok a _ e)
  exact ⟨mA, ⟨ob, n, ne⟩, r, q, z, d⟩
end

/-! ### what of the text a class must have -/
structure Cls (K : PySem.W.Frag) (C : Addr) : Prop where
  pg : PySem.W.plainGet K C Str.empty = true
  hd : PySem.W.hasDictIn K C = true
  po : PySem.W.plainOver K C = true
  sa : PySem.W.findIn K (.ref C) "__setattr__" = some (some (.builtin "object.__setattr__"))
theorem Cls.get {K : PySem.W.Frag} {C : Addr} (c : Cls K C) (f : Str) : PySem.W.plainGet K C f = true := c.pg
/-- no class of it has the name -/
def NoAttr (K : PySem.W.Frag) (C : Addr) (f : Str) : Prop := PySem.W.findIn K (.ref C) f = some none
theorem NoAttr.taker {K : PySem.W.Frag} {C : Addr} {f : Str} (n : NoAttr K C f) : PySem.W.takerIn K C f = some none := by
  unfold PySem.W.takerIn
  rw [show PySem.W.findIn K (.ref C) f = some none from n]
  rfl
/-- a constant of the class -/
structure Con (K : PySem.W.Frag) (C : Addr) (f : Str) (v : V) (u : Value) : Prop where
  at_ : PySem.W.findIn K (.ref C) f = some (some u)
  rel : RelV v u
  get : PySem.W.specialIn K u "__get__" = some none
  cp : PySem.W.copiedNames.contains f = false
/-- a method: a plain def of the class or of one above it -/
structure Meth (K : PySem.W.Frag) (C : Addr) (m : Str) (f : Addr) : Prop where
  at_ : PySem.W.findIn K (.ref C) m = some (some (.ref f))
  fn : PySem.W.isFn K (.ref f) = true
  kp : PySem.W.keepIn K (.ref f) = true

section
variable {X : Cx} {pins : List (Addr × Obj)} {σ : St} {H : Hp} {s : Shared} {a C dx : Addr} {fs : List (Str × V)} {f : Str} {v : V} {A : Around} {E : Value → Shared → Prop}

theorem setattr_ok {y : V} {u : Value} {Q : Unit → Shared → Prop} (I : Inv X pins σ H s) (e : H a = some (.ins C dx fs)) (c : Cls X.K C) (n : NoAttr X.K C f) (hl : fs.length < 1000) (ry : RelV y u)
    (h : ∀ s', Inv X pins σ (upd H a (.ins C dx (putF f y fs))) s' → Q () s') : wpAny (model X.prog X.w) A (setAttr (.ref a) f u) Q E s := by
  obtain ⟨mA, O, r, wi, _, ho⟩ := ins_get I.hok e
  have hz : (fs.map (·.1)).length ≤ sizeLine := by rw [List.length_map, sizeLine_eq]; omega
  refine set_map I.kIn O c.sa c.po n.taker c.hd wi hz fun h' O' sb => h _ ?_
  have hd : ∃ o, h'.get? dx = some o := let ⟨o, _, _, e', _⟩ := O'.ns; ⟨o, e'⟩
  refine I.write (x := a) (e := dx) (by rw [e]; exact True.intro) (.inr ho) (fun b q hb z => (sb.2 b hb).trans z) hd ?_
  refine ⟨by rw [upd_ne O.ne]; exact ho, ?_, O.ne, O'.obj, _, O'.ns, fun g => ?_, fun g hg => ?_⟩
  · have := length_putF f y fs; omega
  · show RelO ((putF f y fs).lookup g) (if g = f then some u else mA g)
    rw [lookup_putF]
    by_cases q : g = f
    · rw [if_pos q, if_pos q]; exact ry
    · rw [if_neg q, if_neg q]; exact r g
  · by_cases q : g = f
    · rw [q]; exact (keys_putF f y fs).1
    · refine (keys_putF f y fs).2 g (wi g fun z => hg ?_)
      show (if g = f then some u else mA g) = none
      rw [if_neg q]; exact z

/-- a new instance, tracked, without attributes -/
theorem Inv.made (I : Inv X pins σ H s) : Inv X pins σ (upd (upd H s.heap.objs.size (.own (s.heap.objs.size + 1))) (s.heap.objs.size + 1) (.ins C s.heap.objs.size []))
    { s with heap := (s.heap.push PySem.W.emptyDict).push (PySem.W.instObj C s.heap.objs.size) } := by
  have e1 : (s.heap.push PySem.W.emptyDict).get? s.heap.objs.size = some PySem.W.emptyDict := Heap.get?_push_size s.heap rfl
  have e2 : ((s.heap.push PySem.W.emptyDict).push (PySem.W.instObj C s.heap.objs.size)).get? (s.heap.objs.size + 1) = some (PySem.W.instObj C s.heap.objs.size) := by
    have := Heap.get?_push_size (s.heap.push PySem.W.emptyDict) (o := PySem.W.instObj C s.heap.objs.size) rfl
    rwa [Heap.size_push] at this
  have e3 : (s.heap.push PySem.W.emptyDict).Ns s.heap.objs.size (fun _ => none) := ⟨PySem.W.emptyDict, #[], _, e1, rfl, (fun e he => absurd he (by simp)), fun _ => rfl⟩
  have I1 := I.laid (a := s.heap.objs.size) (o := .own (s.heap.objs.size + 1)) (h' := s.heap.push PySem.W.emptyDict) (t' := s.toks) (fun b u q => Heap.get?_push_of_some _ q) (Nat.le_refl _) ⟨_, e1⟩
  refine I1.laid (a := s.heap.objs.size + 1) (o := .ins C s.heap.objs.size []) (t' := s.toks) (fun b u q => Heap.get?_push_of_some _ q) (Nat.le_of_eq (Heap.size_push _ _)) ?_
  have ne : s.heap.objs.size ≠ s.heap.objs.size + 1 := Nat.ne_of_lt (Nat.lt_succ_self _)
  refine ⟨by rw [upd_ne ne, upd_same], Nat.zero_le _, ne, e2, fun _ => none, (Heap.Ns1.of_empty e3).at fun o q => Heap.get?_push_of_some _ q, fun _ => True.intro, fun y hy => absurd rfl hy⟩

/-- e.f where nothing but the object is asked: through attributeBase (super) and the last hold -/
theorem attr_of {prog : Program} {w : World} {env : Env} {e : Expr} {f : Str} {pos : Pos} {s : Shared} {Q : Value → Shared → Prop} (hb : attributeBase e f env (eval e env) = eval e env)
    (h : wpAny (model prog w) A (eval e env) (fun o s₁ => wpAny (model prog w) A (getAttr o f true) Q E s₁) E s) : wpAny (model prog w) A (eval (.Attribute e f pos) env) Q E s :=
  Attribute_any_ h (by rw [arm_eval_Attribute, hb])
end

/-! ### readings and rules -/
/-- e.f, an attribute of the instance -/
def tFld (K : PySem.W.Frag) (ta : TE) (f : Str) : TE := fun σ H Q => ta σ H fun x H1 => ∃ a C dx fs v, x = .ref a ∧ H1 a = some (.ins C dx fs) ∧ Cls K C ∧ NoAttr K C f ∧ fs.lookup f = some v ∧ Q v H1
/-- e.f, a constant of the class -/
def tCon (K : PySem.W.Frag) (ta : TE) (f : Str) : TE := fun σ H Q => ta σ H fun x H1 => ∃ a C dx fs v u, x = .ref a ∧ H1 a = some (.ins C dx fs) ∧ Cls K C ∧ Con K C f v u ∧ fs.lookup f = none ∧ Q v H1
/-- e.f = value -/
def sFld (K : PySem.W.Frag) (ta tv : TE) (f : Str) : TS := fun D σ H => tv σ H fun y H1 => ta σ H1 fun x H2 => ∃ a C dx fs, x = .ref a ∧ H2 a = some (.ins C dx fs) ∧ Cls K C ∧ NoAttr K C f ∧ fs.length < 1000 ∧
  D.nx σ (upd H2 a (.ins C dx (putF f y fs)))
/-- an augmented operator on two values -/
def InOp (X : Cx) (op : Operator) (rd : V → V → Hp → VK → Prop) : Prop :=
  ∀ (pins : List (Addr × Obj)) (s : Shared) (σ : St) (H : Hp) (x y : V) (u v : Value) (Q : VK), Inv X pins σ H s → RelV x u → RelV y v → rd x y H Q → wpAny (model X.prog X.w) X.A (inplaceOp op u v) (EP X pins σ Q) X.xe s
/-- e.f op= value -/
def sFldAug (K : PySem.W.Frag) (ta tv : TE) (rd : V → V → Hp → VK → Prop) (f : Str) : TS := fun D σ H => ta σ H fun x H1 => ∃ a C dx fs v, x = .ref a ∧ H1 a = some (.ins C dx fs) ∧ Cls K C ∧ NoAttr K C f ∧ fs.lookup f = some v ∧
  tv σ H1 fun y H2 => rd v y H2 fun z H3 => ∃ dx' fs', H3 a = some (.ins C dx' fs') ∧ fs'.length < 1000 ∧ D.nx σ (upd H3 a (.ins C dx' (putF f z fs')))

section
variable {X : Cx} {o e value : Expr} {f : Str} {pos pos' tpos : Pos} {ta tv : TE}
theorem ps_fld (ha : PE X o ta) (hv : PE X value tv) (hs : swapsWith value (some (.Attribute o f pos')) pos.line X.env = pure false) : PS X (.Assign [.Attribute o f pos'] value pos) (sFld X.K ta tv f) := by
  intro pins s σ H D I h
  refine plainObj_wpAny_Assign_Attribute (thn (hv pins s σ H _ I h) fun u s1 ⟨y, H1, I1, ry, q⟩ => thn (ha pins s1 σ H1 _ I1 q) fun ov s2 ⟨x, H2, I2, rx, a, C, dx, fs, ex, ea, c, n, l, q2⟩ => ?_) hs
  subst ex
  obtain rfl : ov = Value.ref a := rx
  exact setattr_ok I2 ea c n l ry fun s3 I3 => ⟨σ, _, I3, q2⟩
def rAdd : V → V → Hp → VK → Prop := fun x y H Q => ∃ i j, x = .int i ∧ y = .int j ∧ Q (.int (i + j)) H
def rSub : V → V → Hp → VK → Prop := fun x y H Q => ∃ i j, x = .int i ∧ y = .int j ∧ Q (.int (i - j)) H
end

/-! ### isinstance -/
section
variable {X : Cx} {pins : List (Addr × Obj)} {σ : St} {H : Hp} {s : Shared} {A : Around} {E : Value → Shared → Prop} {Q : Value → Shared → Prop} {c : Value} {b : Bool}
/-- the type of a value, as the fragment's deciders take it; for an instance its class -/
inductive TyOf (K : PySem.W.Frag) (H : Hp) : V → Value → Prop where
  | non : TyOf K H .non (.type "NoneType")
  | bl (x : Bool) : TyOf K H (.bl x) (.type "bool")
  | int (i : Int) : TyOf K H (.int i) (.type "int")
  | str (x : Str) : TyOf K H (.str x) (.type "str")
  | flt (x : UInt64) : TyOf K H (.flt x) (.type "float")
  | lst {a : Addr} {xs : List V} (e : H a = some (.lst xs)) : TyOf K H (.ref a) (.type "list")
  | frz {a : Addr} {o : Obj} {xs : List V} (e : H a = some (.frz o (.lst xs))) : TyOf K H (.ref a) (.type "list")
  | tup {a : Addr} {xs : List V} (e : H a = some (.tup xs)) : TyOf K H (.ref a) (.type "tuple")
  | dK {a : Addr} {kvs : List (Key × V)} (e : H a = some (.dK kvs)) : TyOf K H (.ref a) (.type "dict")
  | dT {a : Addr} {kvs : List (List Key × V)} (e : H a = some (.dT kvs)) : TyOf K H (.ref a) (.type "dict")
  | ins {a C dx : Addr} {fs : List (Str × V)} (e : H a = some (.ins C dx fs)) (cl : Cls K C) (ha : PySem.W.findIn K (.ref C) "__class__" = some (some (.builtin "object.__class__")))
      (hn : PySem.W.specialIn K (.builtin "object.__class__") "__get__" = some (some (.builtin "getset_descriptor.__get__"))) (htk : PySem.W.takesIn K (.builtin "object.__class__") = some true)
      (hm : PySem.W.mroIn K C (.type "object") = some true) : TyOf K H (.ref a) (.ref C)
/-- isinstance(x, c) for one class c, a built-in or an own one: kitOne's answer -/
theorem isinst_ok {x : V} {u t : Value} (I : Inv X pins σ H s) (rx : RelV x u) (ty : TyOf X.K H x t) (e : PySem.W.kitOne X.K t c = some b) (h : ∀ tk, Q (.bool b) { s with toks := tk }) :
    wpAny (model X.prog X.w) A (call (.builtin "isinstance") [u, c]) Q E s := by
  cases ty with
  | non => cases (show u = Value.none from rx); exact PySem.W.kia_one PySem.W.kitx_none I.kIn True.intro e (fun z => nomatch z) h
  | bl y => cases (show u = Value.bool y from rx); exact PySem.W.kia_one PySem.W.kitx_bool I.kIn True.intro e (fun z => nomatch z) h
  | int i => obtain ⟨t, q⟩ := (show ∃ t, u = Value.int i t from rx); cases q; exact PySem.W.kia_one PySem.W.kitx_int I.kIn True.intro e (fun z => nomatch z) h
  | str y => obtain ⟨t, q⟩ := (show ∃ t, u = Value.str y t from rx); cases q; exact PySem.W.kia_one PySem.W.kitx_str I.kIn True.intro e (fun z => nomatch z) h
  | flt y => obtain ⟨t, q⟩ := (show ∃ t, u = Value.float y t from rx); cases q; exact PySem.W.kia_one PySem.W.kitx_float I.kIn True.intro e (fun z => nomatch z) h
  | @lst a xs ea =>
    cases (show u = Value.ref a from rx)
    obtain ⟨_, _, n, _, h1⟩ := (show ObjOk X.prog X.w H s.heap a (.lst xs) from I.hok a _ ea)
    exact PySem.W.kia_one PySem.W.kitx_list I.kIn ⟨_, h1, rfl⟩ e (fun z => nomatch z) h
  | @frz a ob xs ea =>
    cases (show u = Value.ref a from rx)
    obtain ⟨_, _, _, n, _, h1⟩ := (show ObjOk X.prog X.w H s.heap a (.frz ob (.lst xs)) from I.hok a _ ea)
    exact PySem.W.kia_one PySem.W.kitx_list I.kIn ⟨_, h1, rfl⟩ e (fun z => nomatch z) h
  | @tup a xs ea =>
    cases (show u = Value.ref a from rx)
    obtain ⟨_, _, _, p⟩ := (show ObjOk X.prog X.w H s.heap a (.tup xs) from I.hok a _ ea)
    obtain ⟨o, h1, h2, _⟩ := p
    exact PySem.W.kia_one PySem.W.kitx_tuple I.kIn ⟨o, h1, h2⟩ e (fun z => nomatch z) h
  | @dK a kvs ea =>
    cases (show u = Value.ref a from rx)
    obtain ⟨_, _, vs, _, p⟩ := (show ObjOk X.prog X.w H s.heap a (.dK kvs) from I.hok a _ ea)
    obtain ⟨o, es, ep, h1, h2, _⟩ := p
    exact PySem.W.kia_one PySem.W.kitx_dict I.kIn ⟨o, h1, h2.1⟩ e (fun z => nomatch z) h
  | @dT a kvs ea =>
    cases (show u = Value.ref a from rx)
    obtain ⟨_, _, xs, _, o, es, ep, h1, h2, _⟩ := (show ObjOk X.prog X.w H s.heap a (.dT kvs) from I.hok a _ ea)
    exact PySem.W.kia_one PySem.W.kitx_dict I.kIn ⟨o, h1, h2.1⟩ e (fun z => nomatch z) h
  | @ins a C dx fs ea cl ha hn htk hm =>
    cases (show u = Value.ref a from rx)
    obtain ⟨mA, O, _⟩ := ins_get I.hok ea
    obtain ⟨od, J, _⟩ := O.look
    exact PySem.W.kia_one (PySem.W.kitx_own (cl.get _) cl.hd ha hn htk hm) I.kIn J e (fun z => nomatch z) h
end
end L2

namespace L2
open PySem PySem.Spec PyProof.Rows

/-! ### room -/
structure Room (cc : Bool) (k : Nat) (A : Around) : Prop where
  hd : cc = true → A.handled = none
  dp : A.depth + 3 * k + 5 < recursionLimit
  un : A.units + 16 * k + 200 < cLine
theorem Room.mono {j k : Nat} {A : Around} (r : Room cc k A) (h : j ≤ k) : Room cc j A := ⟨r.hd, by have := r.dp; omega, by have := r.un; omega⟩
theorem Room.deeper {k : Nat} {A : Around} (r : Room cc (k + 1) A) (env : Env) : Room cc k (A.deeper env) :=
  ⟨r.hd, by have := r.dp; show A.depth + 1 + 3 * k + 5 < _; omega, by have := r.un; show A.units + 3 + 16 * k + 200 < _; omega⟩
theorem make_depth {A : Around} {C : Addr} {us : List Value} {kw : List (Str × Value)} : (A.under (.builtin "type.__call__" ⟨.ref C :: us, kw⟩)).depth = A.depth + 1 := by
  first | rfl | simp [Around.under, Code.weight, Code.isCreation, Code.isGuard, Code.isCaller, Code.frames, Code.isFrame, guardIds]
theorem make_units {A : Around} {C : Addr} {us : List Value} {kw : List (Str × Value)} : (A.under (.builtin "type.__call__" ⟨.ref C :: us, kw⟩)).units = A.units + 1 := by
  first | rfl | simp [Around.under, Code.cUnits, Code.frames, Code.isFrame]
theorem Room.make {k : Nat} {A : Around} (r : Room cc (k + 1) A) (C : Addr) (us : List Value) (kw : List (Str × Value)) : Room cc k (A.under (.builtin "type.__call__" ⟨.ref C :: us, kw⟩)) :=
  ⟨r.hd, by have := r.dp; rw [make_depth]; omega, by have := r.un; rw [make_units]; omega⟩
theorem Room.depth {k : Nat} {A : Around} (r : Room cc k A) : A.depth < recursionLimit := by have := r.dp; omega
/-! ### argument lists and displays -/
def tNil : TA := fun _ H Q => Q [] H
def tCons (ta : TE) (tr : TA) : TA := fun σ H Q => ta σ H fun x H1 => tr σ H1 fun xs H2 => Q (x :: xs) H2
section
variable {X : Cx} {e : Expr} {es : List Expr} {te : TE} {t : TA} {pos : Pos}
theorem pa_nil : PA X [] tNil := fun _ _ _ _ H Q I h => Calls.spliced_nil ⟨[], H, I, .nil, h⟩
theorem pa_cons (ha : PE X e te) (hr : PA X es t) (hs : starEach (e :: es) X.env = (false, eval e X.env) :: starEach es X.env := by rfl) : PA X (e :: es) (tCons te t) := by
  intro pos pins s σ H Q I h
  rw [hs]
  show wpAny _ _ (spliced ((false, eval e X.env) :: backTo pos (starEach es X.env))) _ _ s
  refine Calls.spliced_cons (thn (ha pins s σ H _ I h) fun u s1 ⟨x, H1, I1, r1, q1⟩ => ?_)
  exact thn (hr pos pins s1 σ H1 _ I1 q1) fun us s2 ⟨xs, H2, I2, r2, q2⟩ => ⟨x :: xs, H2, I2, .cons r1 r2, q2⟩

/-- a tuple, a list of written items -/
def tTup (t : TA) : TE := fun σ H Q => t σ H fun xs H1 => xs.length ≤ sizeLine ∧ ∀ p, H1 p = none → Q (.ref p) (upd H1 p (.tup xs))
def tLst (t : TA) : TE := fun σ H Q => t σ H fun xs H1 => xs.length ≤ sizeLine ∧ ∀ p, H1 p = none → Q (.ref p) (upd H1 p (.lst xs))
theorem pe_tup {x1} (h : PA X es t) : PE X (.Tuple es x1 pos) (tTup t) := by
  intro pins s σ H Q I hq
  refine wpAny_Tuple_spliced (thn (h pos pins s σ H _ I hq) fun us s1 ⟨xs, H1, I1, r, z, q⟩ => ⟨by rw [← r.length]; exact z, ?_⟩)
  have hf : H1 s1.heap.objs.size = none := I1.hok.fresh (Nat.le_refl _)
  refine ⟨.ref s1.heap.objs.size, upd H1 s1.heap.objs.size (.tup xs), I1.laid (t' := s1.toks) (fun b u e => Heap.get?_push_of_some _ e) (Nat.le_refl _) ?_, rfl, q _ hf⟩
  exact ⟨z, us, r, ⟨_, Heap.get?_push_size _ rfl, rfl, _, rfl⟩⟩
theorem pe_lst (h : PA X es t) : PE X (.List es pos) (tLst t) := by
  intro pins s σ H Q I hq
  refine wpAny_List_spliced (thn (h pos pins s σ H _ I hq) fun us s1 ⟨xs, H1, I1, r, z, q⟩ => ⟨by rw [← r.length]; exact z, ?_⟩)
  have hf : H1 s1.heap.objs.size = none := I1.hok.fresh (Nat.le_refl _)
  refine ⟨.ref s1.heap.objs.size, upd H1 s1.heap.objs.size (.lst xs), I1.laid (t' := s1.toks) (fun b u e => Heap.get?_push_of_some _ e) (Nat.le_refl _) ?_, rfl, q _ hf⟩
  exact ⟨z, us, 0, r, Heap.get?_push_size _ rfl⟩
end

/-! ### what a def promises -/
/-- a def's promise: the bound arguments in the parameters' order, the heap, the wanted end, the wanted exception -/
abbrev Sp := List V → Hp → VK → XK → Prop
/-- how an exception lies behind a call (file 08 gives it): the callers' frames, abstract heap and state ahead of the call, the wish, the exception, the state -/
abbrev CXT := List Env → Hp → Shared → XK → Value → Shared → Prop

/-- the state at a call -/
structure Env0 (P : Program) (w : World) (K : PySem.W.Frag) (mg : Str → Option Value) (base : Heap) (A : Around) (outer : List Env) (s : Shared) (H : Hp) : Prop where
  frames : A.frames = some outer
  mod : Mod K mg base
  bs : ∀ b o, base.get? b = some o → s.heap.get? b = some o ∧ H b = none
  bsz : base.objs.size ≤ s.heap.objs.size
  funs : s.heap.FunFrames base outer
  frf : ∀ b ∈ frs outer, H b = none
  hok : HOk P w H s.heap
  bare : AllBare s.gens
/-- a call's end -/
def CE (outer : List Env) (P : Program) (w : World) (H : Hp) (s : Shared) (Q : VK) (u : Value) (s' : Shared) : Prop :=
  ∃ v H', s'.os = s.os ∧ AllBare s'.gens ∧ Un (frs outer) [] H H' s.heap s'.heap ∧ HOk P w H' s'.heap ∧ RelV v u ∧ Q v H'
def CR (CX : CXT) (outer : List Env) (P : Program) (w : World) (H : Hp) (s : Shared) (Q : VK) (E : XK) (r : Result) (s' : Shared) : Prop :=
  match r with
  | .ok (.ret u) => CE outer P w H s Q u s'
  | .ok _ => False
  | .error e => CX outer H s E e s'
structure FnOk (P : Program) (w : World) (K : PySem.W.Frag) (mg : Str → Option Value) (base : Heap) (CX : CXT) (cc : Bool) (k : Nat) (f : Addr) (fd : FuncData) (ps : List Str) (sp : Sp) : Prop where
  len : ∀ vs H Q E, sp vs H Q E → vs.length = ps.length
  run : ∀ (A : Around) (outer : List Env) (s : Shared) (H : Hp) (args : Args) (us : List Value) (vs : List V) (Q : VK) (E : XK), Room cc k A → Env0 P w K mg base A outer s H → BindsTo s fd args (ps.zip us) → Vals vs us → sp vs H Q E →
    codeAny (model P w) A (.call (.ref f) args) (CR CX outer P w H s Q E) s
theorem Env0.make {P : Program} {w : World} {K : PySem.W.Frag} {mg : Str → Option Value} {base : Heap} {A : Around} {outer : List Env} {s : Shared} {H : Hp} (e : Env0 P w K mg base A outer s H) (C : Addr) (us : List Value) (kw : List (Str × Value)) :
    Env0 P w K mg base (A.under (.builtin "type.__call__" ⟨.ref C :: us, kw⟩)) outer s H := ⟨by first | exact e.frames | (simpa [Around.under, Code.envs, Code.isFrame, pushEnvs] using e.frames), e.mod, e.bs, e.bsz, e.funs, e.frf, e.hok, e.bare⟩
section
variable {X : Cx} {pins : List (Addr × Obj)} {σ : St} {H : Hp} {s s' : Shared}
/-- from a body: what a callee wants -/
theorem Inv.env0 (I : Inv X pins σ H s) : Env0 X.prog X.w X.K X.mg X.base X.A X.stack s H :=
  ⟨I.ok.frames, I.ok.mod, I.bs, Nat.le_trans I.ok.bsz I.sz, I.stack, I.stkFree, I.hok, I.bare⟩
/-- behind a call -/
theorem Inv.after {Q : VK} {u : Value} (I : Inv X pins σ H s) (h : CE X.stack X.prog X.w H s Q u s') : EP X pins σ Q u s' := by
  obtain ⟨v, H', os, bare, un, hok, r, q⟩ := h
  obtain ⟨hh, g, d, t, os'⟩ := s'
  obtain rfl : os' = s.os := os
  exact ⟨v, H', I.call (h' := hh) (g' := g) (d' := d) (t' := t) (ch := []) un hok bare (fun b z => absurd z (by simp)), r, q⟩
end

/-! ### calls -/
/-- f(..): the written arguments, then the defaults dvs; E: what is wanted of an exception -/
def tCall (sp : Sp) (dvs : List V) (E : XK) (t : TA) : TE := fun σ H Q => t σ H fun vs H1 => sp (vs ++ dvs) H1 Q E
/-- o.m(..) of an instance of the class at C -/
def tMeth (C : Addr) (m : Str) (sp : Sp) (dvs : List V) (E : XK) (ta : TE) (t : TA) : TE := fun σ H Q => ta σ H fun x H1 => ∃ a dx fs, x = .ref a ∧ H1 a = some (.ins C dx fs) ∧ fs.lookup m = none ∧
  t σ H1 fun vs H2 => sp (x :: (vs ++ dvs)) H2 Q E
/-- C(..): a new instance and its dict, then __init__ -/
def tMake (C : Addr) (sp : Sp) (dvs : List V) (E : XK) (t : TA) : TE := fun σ H Q => t σ H fun vs H1 => ∀ x dx, H1 x = none → H1 dx = none → dx ≠ x →
  sp (.ref x :: (vs ++ dvs)) (upd (upd H1 dx (.own x)) x (.ins C dx [])) (fun v H2 => v = .non ∧ Q (.ref x) H2) E

/-- how the parameters are bound: us the positional arguments, kw the keywords' values by name, ds the defaults that fill up -/
def Binds (K : PySem.W.Frag) (fd : FuncData) (ps : List Str) (ds : List Value) : Prop :=
  ∀ (s : Shared) (us : List Value), K.In s.heap → (us ++ ds).length = ps.length → BindsTo s fd ⟨us, []⟩ (ps.zip (us ++ ds))
/-- every parameter is given -/
theorem Binds.all {K : PySem.W.Frag} {fd : FuncData} {ps : List Str} (h : ∀ us : List Value, us.length = ps.length → bindArgs fd ⟨us, []⟩ = pure (ps.zip us)) : Binds K fd ps [] := fun s us _ hl => by
  rw [List.append_nil] at hl ⊢
  exact .of_eq (h us hl)

/-- an exception of a callee reaches what this body wants of exceptions -/
def Passes (CX : CXT) (X : Cx) (E : XK) : Prop := ∀ (pins : List (Addr × Obj)) (σ : St) (H : Hp) (s : Shared) (e : Value) (s' : Shared), Inv X pins σ H s → CX X.stack H s E e s' → X.xe e s'

section
variable {X : Cx} {CX : CXT} {k : Nat} {f C : Addr} {fd : FuncData} {ps : List Str} {sp : Sp} {dvs : List V} {ds : List Value} {E : XK} {x m : Str} {p pos apos : Pos} {e o : Expr} {es : List Expr} {ta : TE} {t : TA}

/-- what a class must have to be made -/
structure Mk (K : PySem.W.Frag) (C f : Addr) : Prop where
  makes : PySem.W.makesIn K C = true
  init : PySem.W.findIn K (.ref C) "__init__" = some (some (.ref f))
  fn : PySem.W.isFn K (.ref f) = true
  kp : PySem.W.keepIn K (.ref C) = true

end

/-! ### keywords -/
/-- the values of the keywords, from the left -/
def PK (X : Cx) (kws : List Keyword) (t : TA) : Prop :=
  ∀ (pos : Pos) (pins : List (Addr × Obj)) (s : Shared) (σ : St) (H : Hp) (Q : List V → Hp → Prop), Inv X pins σ H s → t σ H Q → wpAny (model X.prog X.w) X.A (evalAll ((backToKw pos (keywordEach kws X.env)).map (·.2))) (AP X pins σ Q) X.xe s
section
variable {X : Cx} {CX : CXT} {k : Nat} {f C : Addr} {fd : FuncData} {ps ks : List Str} {sp : Sp} {E : XK} {x m : Str} {p pos apos kpos : Pos} {e o : Expr} {es : List Expr} {kws : List Keyword} {te ta : TE} {t tk : TA} {nm : Option Str}
/-- how a call with keywords binds: g puts the positional values us and the keywords' values ws (names ks) in the parameters' order, defaults among them -/
structure KBinds (K : PySem.W.Frag) (fd : FuncData) (ps ks : List Str) (g : List Value → List Value → List Value) (gV : List V → List V → List V) : Prop where
  to : ∀ (s : Shared) (us ws : List Value), K.In s.heap → (g us ws).length = ps.length → BindsTo s fd ⟨us, ks.zip ws⟩ (ps.zip (g us ws))
  rel : ∀ {vs : List V} {us : List Value} {zs : List V} {ws : List Value}, Vals vs us → Vals zs ws → Vals (gV vs zs) (g us ws)
def tCallK (sp : Sp) (gV : List V → List V → List V) (E : XK) (t tk : TA) : TE := fun σ H Q => t σ H fun vs H1 => tk σ H1 fun zs H2 => sp (gV vs zs) H2 Q E
variable {g : List Value → List Value → List Value} {gV : List V → List V → List V}
end

/-! ### a def's body keeps its promise -/
/-- names: the parameters first -/
structure FnScope (N P : List Str) (sc : Scope) : Prop where
  kind : sc.kind = .function
  co : sc.isCoroutine = false
  gen : sc.isGenerator = false
  nd : N.Nodup
  pre : N.take P.length = P
  par : ∀ x ∈ P, sc.names.lookup x = some .local ∨ sc.names.lookup x = some .cell
  nofree : ∀ y ∈ sc.names, y.2 ≠ .free

theorem bindL_out {kindOf : Str → Option NameKind} {x : Str} : ∀ {binds : List (Str × Value)} {m : Str → Option Value}, (∀ v, (x, v) ∉ binds) → bindL kindOf binds m x = m x
  | [], _, _ => rfl
  | (n, v) :: r, m, h => by
    unfold bindL
    rw [bindL_out fun w hw => h w (List.mem_cons_of_mem _ hw)]
    split
    · have : x ≠ n := by rintro rfl; exact h v List.mem_cons_self
      simp [this]
    · rfl
theorem bindC_out {kindOf : Str → Option NameKind} {x : Str} : ∀ {binds : List (Str × Value)} {m : Str → Option Value}, (∀ v, (x, v) ∉ binds) → bindC kindOf binds m x = m x
  | [], _, _ => rfl
  | (n, v) :: r, m, h => by
    unfold bindC
    rw [bindC_out fun w hw => h w (List.mem_cons_of_mem _ hw)]
    split
    · rfl
    · have : x ≠ n := by rintro rfl; exact h v List.mem_cons_self
      simp [this]
theorem bindL_get {kindOf : Str → Option NameKind} {x : Str} {v : Value} : ∀ {P : List Str} {vs : List Value} {i : Nat} {m : Str → Option Value}, P.Nodup → P[i]? = some x → vs[i]? = some v → kindOf x = some .local →
    bindL kindOf (P.zip vs) m x = some v
  | [], _, _, _, _, h, _, _ => by simp at h
  | _ :: _, [], _, _, _, _, h, _ => by simp at h
  | p :: P, w :: vs, 0, m, nd, h1, h2, hk => by
    simp at h1 h2; subst h1; subst h2
    show bindL kindOf ((p, w) :: P.zip vs) m p = _
    unfold bindL
    rw [bindL_out fun v hv => (List.nodup_cons.mp nd).1 (List.of_mem_zip hv).1, if_pos hk]
    simp
  | p :: P, w :: vs, i + 1, m, nd, h1, h2, hk => by
    show bindL kindOf ((p, w) :: P.zip vs) m x = _
    unfold bindL
    exact bindL_get (i := i) (List.nodup_cons.mp nd).2 (by simpa using h1) (by simpa using h2) hk
theorem bindC_get {kindOf : Str → Option NameKind} {x : Str} {v : Value} : ∀ {P : List Str} {vs : List Value} {i : Nat} {m : Str → Option Value}, P.Nodup → P[i]? = some x → vs[i]? = some v → kindOf x ≠ some .local →
    bindC kindOf (P.zip vs) m x = some v
  | [], _, _, _, _, h, _, _ => by simp at h
  | _ :: _, [], _, _, _, _, h, _ => by simp at h
  | p :: P, w :: vs, 0, m, nd, h1, h2, hk => by
    simp at h1 h2; subst h1; subst h2
    show bindC kindOf ((p, w) :: P.zip vs) m p = _
    unfold bindC
    rw [bindC_out fun v hv => (List.nodup_cons.mp nd).1 (List.of_mem_zip hv).1, if_neg hk]
    simp
  | p :: P, w :: vs, i + 1, m, nd, h1, h2, hk => by
    show bindC kindOf ((p, w) :: P.zip vs) m x = _
    unfold bindC
    exact bindC_get (i := i) (List.nodup_cons.mp nd).2 (by simpa using h1) (by simpa using h2) hk

/-- the names' values at the entry -/
def start (N : List Str) (vs : List V) : St := vs.map some ++ List.replicate (N.length - vs.length) none

/-- the context of a def's body, at its entry; an exception leaves the frame, then lies as CX says -/
def cxOf (cc : Bool) (CX : CXT) (P : Program) (w : World) (K : PySem.W.Frag) (mg : Str → Option Value) (base : Heap) (N : List Str) (qual : Str) (scope : Scope) (f : Addr) (cd : Value) (A : Around) (outer : List Env) (s : Shared) (H : Hp) (E : XK) : Cx where
  prog := P
  w := w
  K := K
  mg := mg
  base := base
  A := A.deeper (envOfC qual scope s.heap.objs.size f cd)
  N := N
  s₀ := s
  H₀ := H
  env := envOfC qual scope s.heap.objs.size f cd
  outer := outer
  stack := envOfC qual scope s.heap.objs.size f cd :: outer
  ex := []
  calm := cc
  fn := fun _ => true
  pn := []
  xe := fun e s' => wpAny (model P w) (A.deeper (envOfC qual scope s.heap.objs.size f cd)) (leaving (envOfC qual scope s.heap.objs.size f cd) e) (fun _ s'' => CX outer H s E e s'') (fun e' s'' => CX outer H s E e' s'') s'

theorem cell_has {sc : Scope} {n : Nat} {x : Str} (h : sc.names.lookup x = some .cell) : ∃ c, (cellsFrom n sc.names []).lookup x = some c := by
  have q := PySem.W.cellsFrom_some sc.names n [] (.inl h)
  exact Option.isSome_iff_exists.mp q

theorem inv_start {CX : CXT} {P : Program} {w : World} {K : PySem.W.Frag} {mg : Str → Option Value} {base : Heap} {N ps : List Str} {qual : Str} {scope : Scope} {f : Addr} {cd : Value} {A : Around} {outer : List Env} {s s1 : Shared} {H : Hp} {E : XK} {us : List Value} {vs : List V}
    (S : FnScope N ps scope) (hd : cc = true → A.handled = none) (e0 : Env0 P w K mg base A outer s H) (hl : vs.length = ps.length) (r : Vals vs us)
    (x : InCallC s s.heap.objs.size (bindL (envOfC qual scope s.heap.objs.size f cd).kindOf (ps.zip us) fun _ => none) (cellsFrom (s.heap.objs.size + 1) scope.names []) (bindC (envOfC qual scope s.heap.objs.size f cd).kindOf (ps.zip us) fun _ => none) s1) :
    Inv (cxOf cc CX P w K mg base N qual scope f cd A outer s H E) [] (start N vs) H s1 := by
  have hpl : ps.length ≤ N.length := by have := congrArg List.length S.pre; rw [List.length_take] at this; omega
  obtain ⟨h1, tk, rfl, hk⟩ := x.done
  have noA : ∀ b : Addr, b ∉ (cxOf cc CX P w K mg base N qual scope f cd A outer s H E).ex := fun b z => absurd (show b ∈ ([] : List Addr) from z) (by simp)
  refine ⟨⟨e0.mod, S.kind, rfl, rfl, Nat.le_refl _, fun y z c h1 h2 => ?_, fun y hy => ?_, fun y c _ h => ?_, hd, Around.frames_deeper e0.frames, .inr ⟨rfl, rfl⟩, fun b z => absurd z (noA b), e0.bs, e0.bsz, fun b _ _ => noA b, fun b z => absurd z (noA b), e0.funs, e0.frf⟩,
    rfl, e0.bare, Un.kept hk, ⟨_, x.toInCall.ns, fun i y v h1 h2 h3 => ?_⟩, fun y c h => ⟨_, x.cell y c h⟩, e0.hok.fresh (Nat.le_refl _), fun y c h => ?_, fun p hp => absurd (show p ∈ ([] : List (Addr × Obj)) from hp) (by simp), e0.hok.kept hk, ?_⟩
  · exact name_of_addr x.apart (PySem.mem_of_lookup h1) (PySem.mem_of_lookup h2)
  · have hy : scope.names.lookup y = some .cell ∨ scope.names.lookup y = some .free := hy
    rcases hy with hy | hy
    · exact cell_has hy
    · exact absurd rfl (S.nofree _ (PySem.mem_of_lookup hy))
  · exact Nat.le_of_lt (x.above y c (PySem.mem_of_lookup h))
  · have hi : i < vs.length := by
      unfold start at h2
      by_cases hi : i < vs.length
      · exact hi
      · rw [List.getElem?_append_right (by simpa using hi)] at h2
        rw [List.getElem?_replicate] at h2
        split at h2 <;> cases h2
    have ha : vs[i]? = some v := by
      unfold start at h2
      rw [List.getElem?_append_left (by simpa using hi), List.getElem?_map] at h2
      cases e : vs[i]? with
      | none => rw [e] at h2; cases h2
      | some a => rw [e] at h2; cases h2; rfl
    obtain ⟨u, hu, rv⟩ := r.get ha
    have hp : ps[i]? = some y := by
      rw [← S.pre, List.getElem?_take_of_lt (by omega)]; exact h1
    have ndP : ps.Nodup := by rw [← S.pre]; exact S.nd.sublist (List.take_sublist _ _)
    refine ⟨u, rv, ?_⟩
    rcases S.par y (List.mem_of_getElem? hp) with k | k
    · exact .inl ⟨k, bindL_get ndP hp hu k⟩
    · obtain ⟨c, e⟩ := cell_has (n := s.heap.objs.size + 1) k
      refine .inr ⟨.inl k, c, e, ?_⟩
      have q := x.cell y c e
      rw [bindC_get ndP hp hu (by show scope.names.lookup y ≠ _; rw [k]; decide)] at q
      exact q
  · exact e0.hok.fresh (Nat.le_of_lt (x.above y c (PySem.mem_of_lookup h)))
  · unfold start
    show _ = N.length
    rw [List.length_append, List.length_map, List.length_replicate]
    omega

/-- THE RULE: a def (or a method) of the text, by its body. The body's reading t is chosen for each entry; it is run at the parameters' values -/
theorem fn_of {CX : CXT} {P : Program} {w : World} {K : PySem.W.Frag} {mg : Str → Option Value} {base : Heap} {k : Nat} {f : Addr} {name qual : Str} {params : Arguments} {body : List Stmt} {scope : Scope} {dV kV doc pm cdv ct oc : Value} {an od : Option Addr}
    {osl : Array (Option Value)} {N ps : List Str} {sp : Sp} (lk : K.lookup f = some ⟨oc, od, .func (PySem.W.fnOf name qual params body scope dV kV doc pm an cdv ct), osl⟩) (hcd : PySem.W.codeIn K cdv qual = true) (S : FnScope N ps scope)
    (len : ∀ vs H Q E, sp vs H Q E → vs.length = ps.length)
    (hbody : ∀ (A : Around) (outer : List Env) (s : Shared) (H : Hp) (vs : List V) (Q : VK) (E : XK), Room cc k (A.deeper (envOfC qual scope s.heap.objs.size f cdv)) → sp vs H Q E →
      ∃ t, PSs (cxOf cc CX P w K mg base N qual scope f cdv A outer s H E) body t ∧ t { nx := fun _ H' => Q .non H', rt := Q } (start N vs) H) :
    FnOk P w K mg base CX cc (k + 1) f (PySem.W.fnOf name qual params body scope dV kV doc pm an cdv ct) ps sp := by
  refine ⟨len, fun A outer s H args us vs Q E hr e0 hb r hsp => ?_⟩
  have hl := len _ _ _ _ hsp
  have KX : K.In s.heap := e0.mod.kin.keeps fun b o e => (e0.bs b o e).1
  have lim : s.heap.NoLimit := e0.mod.nolimit.keeps fun b o e => (e0.bs b o e).1
  have hkind : ∀ y ∈ ps.zip us, scope.names.lookup y.1 = some .local ∨ (scope.names.lookup y.1 = some .cell ∧ ((cellsFrom (s.heap.objs.size + 1) scope.names []).lookup y.1).isSome = true) := fun ⟨n, v⟩ hy => by
    rcases S.par n (List.of_mem_zip hy).1 with q | q
    · exact .inl q
    · exact .inr ⟨q, PySem.W.cellsFrom_some _ _ _ (.inl q)⟩
  refine codeAny_call_function hr.depth (KX _ _ lk) rfl S.co S.gen rfl (PySem.W.codeRec_of KX hcd) (hb _ _ _ _ ?_)
  refine wpAny_newFunctionEnv_cells S.kind hkind fun env he s1 x => ?_
  subst he
  refine ⟨lim.keeps x.toInCall.keep, codeAny_func ?_⟩
  obtain ⟨t, ht, hq⟩ := hbody A outer s H vs Q E (hr.deeper _) hsp
  have I : Inv (cxOf cc CX P w K mg base N qual scope f cdv A outer s H E) [] (start N vs) H s1 := inv_start S hr.hd e0 hl r x
  refine wpAny_mono (ht [] s1 (start N vs) H _ I hq) (fun fl s' hs => ?_) fun e s' hs => hs
  have fin : ∀ {σ' : St} {H' : Hp} {v : V} {u : Value}, Inv (cxOf cc CX P w K mg base N qual scope f cdv A outer s H E) [] σ' H' s' → RelV v u → Q v H' → CE outer P w H s Q u s' :=
    fun {σ' H' v u} J rv q => ⟨v, H', J.os, J.bare, J.base, J.hok, rv, q⟩
  cases fl with
  | ret u =>
    obtain ⟨v, σ', H', J, rv, q⟩ := hs
    exact fin J rv q
  | next =>
    obtain ⟨σ', H', J, q⟩ := hs
    exact fin (v := V.non) (u := Value.none) J rfl q
  | brk =>
    obtain ⟨_, _, _, q⟩ := hs
    exact False.elim q
  | cont =>
    obtain ⟨_, _, _, q⟩ := hs
    exact False.elim q
end L2

namespace L2
open PySem PySem.Spec PyProof.Rows
section
variable {X : Cx} {x : Str} {p pos : Pos} {e : Expr} {es : List Expr} {t : TA} {id T : String} {r : List V → Hp → VK → Prop}

def tCB (r : List V → Hp → VK → Prop) (t : TA) : TE := fun σ H Q => t σ H fun vs H1 => r vs H1 Q
/-- f(e, ..), f a built-in function -/
theorem pe_callB (hc : CallR X (.builtin id) r) (hg : Gl X x) (hm : X.mg x = none) (hv : bootBuiltins x = some (.builtin id)) (ha : PA X (e :: es) t) (hn : x ≠ "__name__" := by decide) (hdb : (x == ("__debug__" : Str)) = false := by decide)
    (he : starEach (e :: es) X.env = (false, eval e X.env) :: starEach es X.env := by rfl) (hpl : (backTo pos (starEach es X.env)).any (·.1) = false := by rfl) : PE X (.Call (.Name x p) (e :: es) [] pos) (tCB r t) := by
  intro pins s σ H Q I h
  refine wpAny_Call_Name_kw (ld_blt I hg hm hv ?_ hn hdb)
  exact PyProof.Rows.callWith_builtin1 (thn (ha pos pins s σ H _ I h) fun us s1 ⟨vs, H1, I1, r1, q1⟩ => hc pins s1 σ H1 vs us Q I1 r1 q1) he hpl
/-- T(e, ..), T a built-in type -/
theorem pe_callTy (hc : CallR X (.type T) r) (hg : Gl X x) (hm : X.mg x = none) (hv : bootBuiltins x = some (.type T)) (ha : PA X (e :: es) t) (hn : x ≠ "__name__" := by decide) (hdb : (x == ("__debug__" : Str)) = false := by decide)
    (he : starEach (e :: es) X.env = (false, eval e X.env) :: starEach es X.env := by rfl) (hpl : (backTo pos (starEach es X.env)).any (·.1) = false := by rfl) : PE X (.Call (.Name x p) (e :: es) [] pos) (tCB r t) := by
  intro pins s σ H Q I h
  refine wpAny_Call_Name_kw (ld_blt I hg hm hv ?_ hn hdb)
  exact PyProof.Rows.callWith_type1 (thn (ha pos pins s σ H _ I h) fun us s1 ⟨vs, H1, I1, r1, q1⟩ => hc pins s1 σ H1 vs us Q I1 r1 q1) he hpl
end
end L2

namespace HT
open PySem PyProof.Rows

/-- t < u of tuples of ints -/
def lexLt : List Int → List Int → Bool
  | [], [] => false
  | [], _ :: _ => true
  | _ :: _, [] => false
  | x :: xs, y :: ys => if x = y then lexLt xs ys else decide (x < y)
section
open PySem.SeqAt
open PySem.AutoSeq1 (wpAny_loadPart')
open PySem.MeetsSeq PySem.MeetsSeq2 PySem.MeetsSeq3

end

section
variable {prog : Program} {w : World} {A : Around} {E : Value → Shared → Prop} {s : Shared}

/-! ### t[a:b], not the whole -/
/-- a slice's bound as a place among n (d where it is left out) -/
def sIx (n d : Nat) : Option Int → Nat
  | none => d
  | some v => if v < 0 then (v + (n : Int)).toNat else min v.toNat n
theorem sIx_none (n d : Nat) : sIx n d none = d := rfl
theorem sIx_nat (n d k : Nat) : sIx n d (some (k : Int)) = min k n := by
  show (if (k : Int) < 0 then ((k : Int) + (n : Int)).toNat else min (k : Int).toNat n) = min k n
  rw [if_neg (by omega), Int.toNat_natCast]
theorem sIx_le (n d : Nat) (hd : d ≤ n) (o : Option Int) : sIx n d o ≤ n := by
  cases o with
  | none => exact hd
  | some v =>
    show (if v < 0 then (v + (n : Int)).toNat else min v.toNat n) ≤ n
    by_cases hv : v < 0
    · rw [if_pos hv]; omega
    · rw [if_neg hv]; exact Nat.min_le_right _ _
theorem clip_eq (v : Int) (n d : Nat) : (if v < 0 then max (v + (n : Int)) 0 else min v (n : Int)) = ((sIx n d (some v) : Nat) : Int) := by
  show (if v < 0 then max (v + (n : Int)) 0 else min v (n : Int)) = (((if v < 0 then (v + (n : Int)).toNat else min v.toNat n) : Nat) : Int)
  by_cases hv : v < 0
  · simp only [if_pos hv]; omega
  · simp only [if_neg hv]; omega
end
end HT

namespace L2
open PySem PySem.Spec PyProof.Rows

/-! ### the parts of a slice -/
abbrev TO := St → Hp → (Option Int → Hp → Prop) → Prop
/-- a slice's part (left out, or an int) -/
def PO (X : Cx) (e : Option Expr) (t : TO) : Prop :=
  ∀ (pins : List (Addr × Obj)) (s : Shared) (σ : St) (H : Hp) (Q : Option Int → Hp → Prop), Inv X pins σ H s → t σ H Q →
    wpAny (model X.prog X.w) X.A (evalPart e X.env) (fun u s' => ∃ o H', Inv X pins σ H' s' ∧ IsPart u o ∧ Q o H') X.xe s
def tNoPart : TO := fun _ H Q => Q none H
def tPart (t : TE) : TO := fun σ H Q => t σ H fun x H1 => ∃ i, x = .int i ∧ Q (some i) H1

section
variable {X : Cx} {e : Expr} {te : TE} {lo hi : Option Expr} {tl th : TO} {pos p2 : Pos}

theorem po_none : PO X none tNoPart := by
  intro pins s σ H Q I h
  rw [evalPart_none]
  exact wpAny_pure ⟨none, H, I, .none, h⟩
theorem po_some (h : PE X e te) : PO X (some e) (tPart te) := by
  intro pins s σ H Q I hw
  rw [evalPart_some]
  refine thn (h pins s σ H _ I hw) fun u s1 ⟨x, H1, I1, r1, q1⟩ => ?_
  obtain ⟨i, rfl, q⟩ := q1
  obtain ⟨t, rfl⟩ := r1
  exact ⟨some i, H1, I1, .int i t, q⟩

/-- what a slice of a value is, by values: the slice object stands at sl -/
def SlR (X : Cx) (r : V → Option Int → Option Int → Hp → VK → Prop) : Prop :=
  ∀ (pins : List (Addr × Obj)) (s : Shared) (σ : St) (H : Hp) (x : V) (v vl vu : Value) (lo hi : Option Int) (sl : Addr) (Q : VK), Inv X pins σ H s → RelV x v → s.heap.IsSliceOf sl vl vu .none → IsPart vl lo → IsPart vu hi → r x lo hi H Q →
    ∃ T id, typeLookup (.type T) "__getitem__" = pure (some (.builtin id)) ∧ s.TypeIs v T ∧ wpAny (model X.prog X.w) X.A (getItem v (.ref sl)) (EP X pins σ Q) X.xe s
def tSl (r : V → Option Int → Option Int → Hp → VK → Prop) (te : TE) (tl th : TO) : TE := fun σ H Q => te σ H fun x H1 => tl σ H1 fun l H2 => th σ H2 fun u H3 => r x l u H3 Q
/-- a[lo:hi], any a -/
theorem pe_slice {r : V → Option Int → Option Int → Hp → VK → Prop} (hr : SlR X r) (he : PE X e te) (hl : PO X lo tl) (hu : PO X hi th) : PE X (.Subscript e (.Slice lo hi none p2) pos) (tSl r te tl th) := by
  intro pins s σ H Q I h
  refine Subscript_ (thn (he pins s σ H _ I h) fun v s1 ⟨x, H1, I1, r1, q1⟩ => ?_)
  refine wpAny_Slice (thn (hl pins s1 σ H1 _ I1 q1) fun vl s2 ⟨l, H2, I2, pl, q2⟩ => thn (hu pins s2 σ H2 _ I2 q2) fun vu s3 ⟨u, H3, I3, pu, q3⟩ => ?_)
  rw [evalPart_none]
  refine wpAny_pure ?_
  have I4 : Inv X pins σ H3 { s3 with heap := s3.heap.push { cls := .type "slice", data := .fields #[vl, vu, .none] } } := I3.kept (t' := s3.toks) fun b ob q => Heap.get?_push_of_some _ q
  obtain ⟨T, id, hT, ht, hg⟩ := hr pins { s3 with heap := s3.heap.push { cls := .type "slice", data := .fields #[vl, vu, .none] } } σ H3 x v vl vu l u s3.heap.objs.size Q I4 r1 (Heap.IsSliceOf.new ..) pl pu q3
  show wpAny (model X.prog X.w) X.A (subscriptTail e (.Slice lo hi none p2) v (.ref s3.heap.objs.size)) (EP X pins σ Q) X.xe { s3 with heap := s3.heap.push { cls := .type "slice", data := .fields #[vl, vu, .none] } }
  exact tail_any (ops := [.ref s3.heap.objs.size, v]) ht hT hg (by with_unfolding_all rfl)

/-- the items of xs[lo:hi] -/
def cutV (xs : List V) (lo hi : Option Int) : List V := (xs.drop (HT.sIx xs.length 0 lo)).take (HT.sIx xs.length xs.length hi - HT.sIx xs.length 0 lo)
theorem cutV_length (xs : List V) (lo hi : Option Int) : (cutV xs lo hi).length ≤ xs.length := by
  unfold cutV
  rw [List.length_take, List.length_drop]
  omega
/-- t[lo:hi], not the whole of it (the whole would be t itself) -/
def rSlT (K : PySem.W.Frag) : V → Option Int → Option Int → Hp → VK → Prop := fun x lo hi H Q => ∃ a xs, x = .ref a ∧ SqT K H a xs ∧
  ¬ (HT.sIx xs.length 0 lo = 0 ∧ HT.sIx xs.length xs.length hi = xs.length) ∧ ∀ p, H p = none → Q (.ref p) (upd H p (.tup (cutV xs lo hi)))
/-! ### t < u, t + u -/
def rLtT (K : PySem.W.Frag) : R2 := fun x y H Q => ∃ a b ns ms, x = .ref a ∧ y = .ref b ∧ SqT K H a (ns.map V.int) ∧ SqT K H b (ms.map V.int) ∧ Q (.bl (HT.lexLt ns ms)) H
/-- t + u, t not empty: u empty gives t itself -/
def rCatT (K : PySem.W.Frag) : R2 := fun x y H Q => ∃ a b xs ys, x = .ref a ∧ y = .ref b ∧ SqT K H a xs ∧ SqT K H b ys ∧ xs ≠ [] ∧ xs.length + ys.length ≤ sizeLine ∧
  (ys = [] → Q (.ref a) H) ∧ (ys ≠ [] → ∀ p, H p = none → Q (.ref p) (upd H p (.tup (xs ++ ys))))
end
end L2

namespace L2
open PySem PySem.Spec PyProof.Rows

/-! ### places -/
/-- the place that an index of any sign means -/
def ixN (n : Nat) (i : Int) : Option Nat := if 0 ≤ i then (if i < n then some i.toNat else none) else if -(n : Int) ≤ i then some (i + n).toNat else none
def atI {α : Type} (xs : List α) (i : Int) : Option α := (ixN xs.length i).bind fun j => xs[j]?
theorem ixN_seq {n : Nat} {i : Int} {j : Nat} (h : ixN n i = some j) : seqIndex? i n = some j ∧ j < n ∧ -(n : Int) ≤ i ∧ i < n := by
  unfold ixN at h
  by_cases h0 : 0 ≤ i
  · rw [if_pos h0] at h
    by_cases h1 : i < n
    · rw [if_pos h1] at h
      have e : i.toNat = j := Option.some.inj h
      exact ⟨by rw [seqIndex_of h0 h1, e], by omega, by omega, h1⟩
    · rw [if_neg h1] at h; cases h
  · rw [if_neg h0] at h
    by_cases h1 : -(n : Int) ≤ i
    · rw [if_pos h1] at h
      have e : (i + n).toNat = j := Option.some.inj h
      exact ⟨by rw [seqIndex_neg (by omega) h1, e], by omega, h1, by omega⟩
    · rw [if_neg h1] at h; cases h
theorem atI_get {α : Type} {xs : List α} {i : Int} {v : α} (h : atI xs i = some v) : ∃ j, seqIndex? i xs.length = some j ∧ xs[j]? = some v ∧ j < xs.length ∧ -(xs.length : Int) ≤ i ∧ i < xs.length := by
  unfold atI at h
  cases e : ixN xs.length i with
  | none => rw [e] at h; cases h
  | some j =>
    rw [e] at h
    obtain ⟨h1, h2, h3, h4⟩ := ixN_seq e
    exact ⟨j, h1, h, h2, h3, h4⟩
theorem atI_nat {α : Type} {xs : List α} {j : Nat} {v : α} (h : xs[j]? = some v) : atI xs (j : Int) = some v := by
  have hj : j < xs.length := (List.getElem?_eq_some_iff.mp h).1
  have e : ixN xs.length (j : Int) = some j := by
    unfold ixN
    rw [if_pos (by omega), if_pos (by omega)]; simp
  unfold atI; rw [e]; exact h
/-! ### what may be subscripted -/
/-- what stands as an index of a plain subscript -/
def PlainIx (b : Expr) : Prop := ∀ o i, subscripted b false o i = operate [o, i] (getItem o i)
/-- a subscript by values -/
def IxR (X : Cx) (r : R2) : Prop :=
  ∀ (value slice : Expr) (pins : List (Addr × Obj)) (s : Shared) (σ : St) (H : Hp) (x y : V) (v u : Value) (Q : VK), Inv X pins σ H s → RelV x v → RelV y u → r x y H Q →
    subscripted slice false v u = operate [v, u] (getItem v u) → wpAny (model X.prog X.w) X.A (subscriptTail value slice v u) (EP X pins σ Q) X.xe s
/-- a call of a builtin's method by values: the receiver, the arguments -/
def MtR (X : Cx) (id : String) (r : V → List V → Hp → VK → Prop) : Prop :=
  ∀ (pins : List (Addr × Obj)) (s : Shared) (σ : St) (H : Hp) (x : V) (xs : List V) (v : Value) (us : List Value) (Q : VK), Inv X pins σ H s → RelV x v → Vals xs us → r x xs H Q →
    wpAny (model X.prog X.w) X.A (call (.builtin id) (v :: us)) (EP X pins σ Q) X.xe s
section
variable {X : Cx} {a b : Expr} {ta tb : TE} {pos : Pos}
/-- a[b] -/
theorem pe_ix {r : R2} (hr : IxR X r) (ha : PE X a ta) (hb : PE X b tb) (hs : PlainIx b) : PE X (.Subscript a b pos) (tOp r ta tb) := by
  intro pins s σ H Q I h
  exact Subscript_ (binT ha hb I h fun v u s2 x y H2 I2 rx ry q => hr a b pins s2 σ H2 x y v u Q I2 rx ry q (hs _ _))

def rIxL (K : PySem.W.Frag) : R2 := fun x y H Q => ∃ p xs i v, x = .ref p ∧ y = .int i ∧ SqL K H p xs ∧ atI xs i = some v ∧ Q v H
def rIxT (K : PySem.W.Frag) : R2 := fun x y H Q => ∃ p xs i v, x = .ref p ∧ y = .int i ∧ SqT K H p xs ∧ atI xs i = some v ∧ Q v H
def rIxS : R2 := fun x y H Q => ∃ z i c, x = .str z ∧ y = .int i ∧ z.length ≤ sizeLine ∧ atI z.cps.toList i = some c ∧ Q (.str ⟨#[c]⟩) H
theorem ix_list : IxR X (rIxL X.K) := by
  intro value slice pins s σ H x y v u Q I rx ry h hs
  obtain ⟨p, xs, i, z, rfl, rfl, hq, he, q⟩ := h
  cases rx
  obtain ⟨t, rfl⟩ := ry
  obtain ⟨its, r, pl, hz⟩ := I.list hq
  obtain ⟨j, h1, h2, h3, h4, h5⟩ := atI_get he
  obtain ⟨w, ew, rw'⟩ := r.get h2
  have hl := r.length
  have hn := line63
  have fin : EP X pins σ Q w s := ⟨z, H, I, rw', q⟩
  by_cases h0 : 0 ≤ i
  · have hj : i.toNat = j := by
      rw [seqIndex_of h0 h5] at h1
      exact Option.some.inj h1
    exact item_listR pl.isList h0 (by omega) (by rw [hj]; simpa using ew) fin hs
  · have hj : (i + (its.toArray.size : Int)).toNat = j := by
      rw [seqIndex_neg (by omega) h4] at h1
      rw [List.size_toArray, ← hl]
      exact Option.some.inj h1
    exact subscriptTail_builtinR (x := w) pl.isList.typeIs slot_list_getitem.lookup
      (wpAny_getItem_list_neg (Q := fun r s' => r = w ∧ EP X pins σ Q r s') pl.isList (by omega) (by rw [List.size_toArray] <;> omega) (by omega) (by rw [hj]; simpa using ew) ⟨rfl, fin⟩) hs
theorem ix_tup : IxR X (rIxT X.K) := by
  intro value slice pins s σ H x y v u Q I rx ry h hs
  obtain ⟨p, xs, i, z, rfl, rfl, hq, he, q⟩ := h
  cases rx
  obtain ⟨t, rfl⟩ := ry
  obtain ⟨its, r, pl, hz⟩ := I.tuple hq
  obtain ⟨j, h1, h2, h3, h4, h5⟩ := atI_get he
  obtain ⟨w, ew, rw'⟩ := r.get h2
  have hl := r.length
  have hn := line63
  have fin : EP X pins σ Q w s := ⟨z, H, I, rw', q⟩
  exact subscriptTail_builtinR (x := w) pl.typeIs slot_tuple_getitem.lookup
    (getItem_tuple (j := j) (Q := fun r s' => r = w ∧ EP X pins σ Q r s') pl (by omega) (by omega) (by rw [List.size_toArray, ← hl]; exact h1) (by simpa using ew) ⟨rfl, fin⟩) hs
theorem ix_str : IxR X rIxS := by
  intro value slice pins s σ H x y v u Q I rx ry h hs
  obtain ⟨z, i, c, rfl, rfl, hz, he, q⟩ := h
  obtain ⟨t, rfl⟩ := rx
  obtain ⟨t', rfl⟩ := ry
  obtain ⟨j, h1, h2, h3, h4, h5⟩ := atI_get he
  have hl : z.cps.toList.length = z.length := by simp [Str.length]
  rw [hl] at h1 h4 h5
  have hn := line63
  exact tail_any (typeIs_str s z t) slot_str_getitem.lookup (getItem_str (c := c) (by
    have e1 : decide (i < -(2 ^ 63 : Int)) = false := decide_eq_false (by omega)
    have e2 : decide (i ≥ 2 ^ 63) = false := decide_eq_false (by omega)
    rw [e1, e2, Bool.or_false]) (by rw [h1]; simpa using h2) ⟨.str ⟨#[c]⟩, H, I.tok _, ⟨_, rfl⟩, q⟩) hs
/-- list, tuple or str -/
def rIx (K : PySem.W.Frag) : R2 := fun x y H Q => rIxL K x y H Q ∨ rIxT K x y H Q ∨ rIxS x y H Q
/-! ### xs[i] = v, any sign -/
def rSetL : V → V → V → Hp → (Hp → Prop) → Prop := fun o i v H Q => ∃ p xs k j, o = .ref p ∧ i = .int k ∧ H p = some (.lst xs) ∧ ixN xs.length k = some j ∧ Q (upd H p (.lst (xs.set j v)))
/-! ### slices -/
theorem slice_bounds (lo hi : Option Int) (n : Nat) : (sliceBounds lo hi none n).1 = ((HT.sIx n 0 lo : Nat) : Int) ∧ (sliceBounds lo hi none n).2.1 = ((HT.sIx n n hi : Nat) : Int) ∧ (sliceBounds lo hi none n).2.2 = 1 := by
  refine ⟨?_, ?_, rfl⟩
  · cases lo with
    | none => simp [sliceBounds, HT.sIx]
    | some i =>
      simp only [sliceBounds, HT.sIx, Option.getD_none, show (1 : Int) > 0 by decide, if_true]
      by_cases h : i < 0
      · simp only [h, if_true] <;> omega
      · simp only [h, if_false] <;> omega
  · cases hi with
    | none => simp [sliceBounds, HT.sIx]
    | some i =>
      simp only [sliceBounds, HT.sIx, Option.getD_none, show (1 : Int) > 0 by decide, if_true]
      by_cases h : i < 0
      · simp only [h, if_true] <;> omega
      · simp only [h, if_false] <;> omega
theorem slicePick_cut (its : List Value) (lo hi : Option Int) : slicePick its.toArray lo hi none = ((its.drop (HT.sIx its.length 0 lo)).take (HT.sIx its.length its.length hi - HT.sIx its.length 0 lo)).toArray := by
  obtain ⟨h1, h2, h3⟩ := slice_bounds lo hi its.toArray.size
  unfold slicePick
  rw [h1, h2, h3]
  simp only [sliceRange_one, pick_run, List.size_toArray] <;> rfl
/-- xs[lo:hi] of a list: a new list -/
def rSlL (K : PySem.W.Frag) : V → Option Int → Option Int → Hp → VK → Prop := fun x lo hi H Q => ∃ a xs, x = .ref a ∧ SqL K H a xs ∧ ∀ p, H p = none → Q (.ref p) (upd H p (.lst (cutV xs lo hi)))
theorem sl_list : SlR X (rSlL X.K) := by
  intro pins s σ H x v vl vu lo hi sl Q I rx hs pl pu h
  obtain ⟨a, xs, rfl, hx, q⟩ := h
  cases rx
  obtain ⟨its, r, ht, hz⟩ := I.list hx
  have hlen := r.length
  refine ⟨"list", _, slot_list_getitem.lookup, ht.isList.typeIs, ?_⟩
  refine wpAny_getItem_list_slice ht.isList hs pl pu .none (by simp) ?_ (by rw [List.size_toArray] <;> omega)
  rw [slicePick_cut, ← hlen]
  refine ⟨.ref s.heap.objs.size, _, I.laid (t' := s.toks) (o := .lst (cutV xs lo hi)) (fun b ob q => Heap.get?_push_of_some _ q) (Nat.le_refl _) ?_, rfl, q _ (I.hok.fresh (Nat.le_refl _))⟩
  exact ⟨Nat.le_trans (cutV_length xs lo hi) hz, _, 0, (r.drop (HT.sIx xs.length 0 lo)).take (HT.sIx xs.length xs.length hi - HT.sIx xs.length 0 lo), Heap.get?_push_size _ rfl⟩

/-! ### in, not in: flat items -/
def flatV : V → Bool
  | .non => true
  | .bl _ => true
  | .int _ => true
  | .str _ => true
  | _ => false
/-- == of flat values -/
def eqV : V → V → Bool
  | .non, .non => true
  | .bl a, .bl b => a == b
  | .bl a, .int b => (if a then 1 else 0) == b
  | .int a, .bl b => a == (if b then 1 else 0)
  | .int a, .int b => a == b
  | .str a, .str b => a == b
  | _, _ => false
theorem eqAt_V {A : Around} {s : Shared} {y x : V} {u v : Value} (ry : RelV y u) (rx : RelV x v) (fy : flatV y = true) (fx : flatV x = true) : SeqAt.EqAt A s u v (eqV y x) := by
  cases y with
  | non =>
    cases ry
    cases x with
    | non => cases rx; exact SeqAt.EqAt.same _
    | bl b => cases rx; exact SeqAt.EqAt.none_bool b
    | int b => obtain ⟨t, rfl⟩ := rx; exact SeqAt.EqAt.none_int b t
    | str b => obtain ⟨t, rfl⟩ := rx; exact SeqAt.EqAt.none_str b t
    | _ => exact absurd (show false = true from fx) Bool.false_ne_true
  | bl a =>
    cases ry
    cases x with
    | non => cases rx; exact SeqAt.EqAt.bool_none a
    | bl b => cases rx; exact SeqAt.EqAt.bool_bool a b
    | int b => obtain ⟨t, rfl⟩ := rx; exact SeqAt.EqAt.bool_int a b t
    | str b => obtain ⟨t, rfl⟩ := rx; exact SeqAt.EqAt.bool_str a b t
    | _ => exact absurd (show false = true from fx) Bool.false_ne_true
  | int a =>
    obtain ⟨t', rfl⟩ := ry
    cases x with
    | non => cases rx; exact SeqAt.EqAt.int_none a t'
    | bl b => cases rx; exact SeqAt.EqAt.int_bool a t' b
    | int b => obtain ⟨t, rfl⟩ := rx; exact SeqAt.EqAt.int_int a t' b t
    | str b => obtain ⟨t, rfl⟩ := rx; exact SeqAt.EqAt.int_str a t' b t
    | _ => exact absurd (show false = true from fx) Bool.false_ne_true
  | str a =>
    obtain ⟨t', rfl⟩ := ry
    cases x with
    | non => cases rx; exact SeqAt.EqAt.str_none a t'
    | bl b => cases rx; exact SeqAt.EqAt.str_bool a t' b
    | int b => obtain ⟨t, rfl⟩ := rx; exact SeqAt.EqAt.str_int a t' b t
    | str b => obtain ⟨t, rfl⟩ := rx; exact SeqAt.EqAt.str_str a t' b t
    | _ => exact absurd (show false = true from fx) Bool.false_ne_true
  | _ => exact absurd (show false = true from fy) Bool.false_ne_true
/-- the items' answers, read off the values (a value's own answer does not lean on its token) -/
def eqU (x : V) (u : Value) : Bool := match u with
  | .none => eqV .non x
  | .bool b => eqV (.bl b) x
  | .int i _ => eqV (.int i) x
  | .str z _ => eqV (.str z) x
  | _ => false
theorem eqU_of {x y : V} {u : Value} (r : RelV y u) (f : flatV y = true) : eqU x u = eqV y x := by
  cases y with
  | non => cases r; rfl
  | bl b => cases r; rfl
  | int i => obtain ⟨t, rfl⟩ := r; rfl
  | str z => obtain ⟨t, rfl⟩ := r; rfl
  | _ => exact absurd (show false = true from f) Bool.false_ne_true
theorem any_eqU {x : V} : ∀ {xs : List V} {us : List Value}, Vals xs us → xs.all flatV = true → us.any (eqU x) = xs.any fun y => eqV y x
  | _, _, .nil, _ => rfl
  | y :: xs, u :: us, .cons r t, f => by
    rw [List.all_cons, Bool.and_eq_true] at f
    rw [List.any_cons, List.any_cons, eqU_of r f.1, any_eqU t f.2]
theorem mem_eqAt {A : Around} {s : Shared} {x : V} {v : Value} (rx : RelV x v) (fx : flatV x = true) : ∀ {xs : List V} {us : List Value}, Vals xs us → xs.all flatV = true → ∀ u ∈ us, SeqAt.EqAt A s u v (eqU x u)
  | _, _, .nil, _ => fun u hu => by cases hu
  | y :: xs, u :: us, .cons r t, f => fun u' hu => by
    rw [List.all_cons, Bool.and_eq_true] at f
    rcases List.mem_cons.mp hu with rfl | hu
    · rw [eqU_of r f.1]; exact eqAt_V r rx f.1 fx
    · exact mem_eqAt rx fx t f.2 u' hu
def inV (x : V) (xs : List V) : Bool := xs.any fun y => eqV y x
/-- x in a list or tuple of flat items -/
def rIn (K : PySem.W.Frag) (neg : Bool) : R2 := fun x y H Q => ∃ p xs, y = .ref p ∧ (SqL K H p xs ∨ SqT K H p xs) ∧ flatV x = true ∧ xs.all flatV = true ∧ Q (.bl (if neg then !inV x xs else inV x xs)) H
theorem op_in_seq : OpR X (compareOp .In) (rIn X.K false) := by
  intro pins s σ H x y v u Q I rx ry h
  obtain ⟨p, xs, rfl, hq, fx, fs, q⟩ := h
  cases ry
  rcases hq with hq | hq
  · obtain ⟨its, r, pl, hz⟩ := I.list hq
    refine SeqAt.in_listAt (eqU x) pl.isList (fun w hw => mem_eqAt rx fx r fs w (by simpa using hw)) ⟨.bl _, H, I, rfl, ?_⟩
    rw [show its.toArray.any (eqU x) = its.any (eqU x) by simp, any_eqU r fs]
    exact q
  · obtain ⟨its, r, pl, hz⟩ := I.tuple hq
    refine SeqAt.in_tupleAt (eqU x) pl (fun w hw => mem_eqAt rx fx r fs w (by simpa using hw)) ⟨.bl _, H, I, rfl, ?_⟩
    rw [show its.toArray.any (eqU x) = its.any (eqU x) by simp, any_eqU r fs]
    exact q
/-! ### len, list(x), tuple(x) of any list or tuple that is read -/
theorem call_len_seq : CallR X (.builtin "len") (fun xs H Q => ∃ p ys, xs = [.ref p] ∧ (SqL X.K H p ys ∨ SqT X.K H p ys) ∧ Q (.int ys.length) H) := by
  intro pins s σ H xs us Q I r h
  obtain ⟨p, ys, rfl, hq, q⟩ := h
  obtain ⟨u, rfl, rx⟩ := vals1 r
  cases rx
  have hn := line63
  rcases hq with hq | hq
  · obtain ⟨its, r', pl, hz⟩ := I.list hq
    have hlen := r'.length
    exact Calls.call_len_list pl.isList (by simp only [List.size_toArray] <;> omega) ⟨.int ys.length, H, I.tok _, ⟨s.toks + 1, by rw [List.size_toArray, hlen]⟩, q⟩
  · obtain ⟨its, r', pl, hz⟩ := I.tuple hq
    have hlen := r'.length
    exact len_tuple pl (by simp only [List.size_toArray] <;> omega) ⟨.int ys.length, H, I.tok _, ⟨s.toks + 1, by rw [List.size_toArray, hlen]⟩, q⟩
theorem call_len_str : CallR X (.builtin "len") (fun xs H Q => ∃ z, xs = [.str z] ∧ z.length ≤ sizeLine ∧ Q (.int z.length) H) := by
  intro pins s σ H xs us Q I r h
  obtain ⟨z, rfl, hz, q⟩ := h
  obtain ⟨u, rfl, t, rfl⟩ := vals1 r
  have hn := line63
  exact len_str (by omega) ⟨.int z.length, H, I.tok _, ⟨_, rfl⟩, q⟩
/-! ### the call of a builtin's method: o.m(..) -/
/-- the value is of that builtin type -/
def tyV (K : PySem.W.Frag) (T : String) (x : V) (H : Hp) : Prop := match x with
  | .str _ => T = "str"
  | .int _ => T = "int"
  | .ref p => (T = "list" ∧ ∃ xs, SqL K H p xs) ∨ (T = "tuple" ∧ ∃ o, K.lookup p = some o ∧ o.cls = .type "tuple" ∧ o.dict = none) ∨
      (T = "dict" ∧ ((∃ kvs, H p = some (.dK kvs)) ∨ ∃ kvs, H p = some (.dT kvs))) ∨ (T = "set" ∧ ∃ S n, H p = some (.set S n))
  | _ => False
theorem tyV_is {pins : List (Addr × Obj)} {σ : St} {H : Hp} {s : Shared} {T : String} {x : V} {v : Value} (I : Inv X pins σ H s) (r : RelV x v) (ty : tyV X.K T x H) :
    s.TypeIs v T ∧ ∀ a, v = .ref a → ∃ ob, s.heap.get? a = some ob ∧ ob.dict = none := by
  cases x with
  | str z =>
    obtain ⟨t, rfl⟩ := r
    cases (show T = "str" from ty)
    exact ⟨typeIs_str s z t, fun _ e => nomatch e⟩
  | int i =>
    obtain ⟨t, rfl⟩ := r
    cases (show T = "int" from ty)
    exact ⟨typeIs_int s i t, fun _ e => nomatch e⟩
  | ref p =>
    cases r
    rcases ty with ⟨rfl, xs, hq⟩ | ⟨rfl, o, hk, hc, hd⟩ | ⟨rfl, hk⟩ | ⟨rfl, S, n, hk⟩
    · obtain ⟨its, _, pl, _⟩ := I.list hq
      refine ⟨pl.isList.typeIs, fun a e => ?_⟩
      cases e
      obtain ⟨o, n, e, c, hd, _⟩ := pl
      exact ⟨o, e, hd⟩
    · refine ⟨⟨o, I.kIn p o hk, hc⟩, fun a e => ?_⟩
      cases e
      exact ⟨o, I.kIn _ o hk, hd⟩
    · have z : ∃ o, s.heap.get? p = some o ∧ o.ExactDict := by
        rcases hk with ⟨kvs, hk⟩ | ⟨kvs, hk⟩
        · obtain ⟨_, _, _, _, o, _, _, e, ex, _⟩ := I.hok p _ hk
          exact ⟨o, e, ex⟩
        · obtain ⟨_, _, _, _, o, _, _, e, ex, _⟩ := I.hok p _ hk
          exact ⟨o, e, ex⟩
      obtain ⟨o, e, ex⟩ := z
      refine ⟨⟨o, e, ex.1⟩, fun a e2 => ?_⟩
      cases e2
      exact ⟨o, e, ex.2.1⟩
    · obtain ⟨o, _, _, _, e, ex, _⟩ := I.hok p _ hk
      refine ⟨⟨o, e, ex.1⟩, fun a e2 => ?_⟩
      cases e2
      exact ⟨o, e, ex.2.1⟩
  | _ => exact False.elim ty
def tBM0 (K : PySem.W.Frag) (T : String) (r : V → List V → Hp → VK → Prop) (to : TE) : TE := fun σ H Q => to σ H fun x H1 => tyV K T x H1 ∧ r x [] H1 Q
def tBM (K : PySem.W.Frag) (T : String) (r : V → List V → Hp → VK → Prop) (to : TE) (t : TA) : TE := fun σ H Q => to σ H fun x H1 => tyV K T x H1 ∧ t σ H1 fun xs H2 => r x xs H2 Q
variable {o e : Expr} {es : List Expr} {to : TE} {t : TA} {name : Str} {apos cpos : Pos} {T id : String} {r : V → List V → Hp → VK → Prop}
theorem pe_bm0 (pa : PlainAttrs T) (slot : Slot T name id) (hty : typeOf (.builtin id) = pure (.type "method_descriptor")) (hm : MtR X id r) (ho : PE X o to)
    (hbase : attributeBase o name X.env (eval o X.env) = eval o X.env := by rfl) (hline : (apos.endLine == cpos.line) = true := by rfl) : PE X (.Call (.Attribute o name apos) [] [] cpos) (tBM0 X.K T r to) := by
  intro pins s σ H Q I h
  refine wpAny_Call_method0_late hbase hline (thn (ho pins s σ H _ I h) fun v s1 ⟨x, H1, I1, r1, ty, q1⟩ => ?_)
  obtain ⟨h1, h2⟩ := tyV_is I1 r1 ty
  exact ⟨T, id, pa, slot, hty, h1, h2, Calls.callWith_builtin rfl (PySem.evalArgs_none (hm pins s1 σ H1 x [] v [] Q I1 r1 .nil q1))⟩
theorem pe_bm (pa : PlainAttrs T) (slot : Slot T name id) (hty : typeOf (.builtin id) = pure (.type "method_descriptor")) (hm : MtR X id r) (ho : PE X o to) (ha : PA X (e :: es) t)
    (hbase : attributeBase o name X.env (eval o X.env) = eval o X.env := by rfl)
    (hfew : ((backTo cpos (starEach (e :: es) X.env)).all (fun x => !x.1) && (backToKw cpos (keywordEach [] X.env)).all (fun x => x.1.isSome)
      && decide ((e :: es).length + ([] : List Keyword).length + (if ([] : List Keyword).isEmpty then 0 else 1) < 30)) = true := by rfl)
    (hline : (apos.endLine == cpos.line) = true := by rfl) (hs : starEach (e :: es) X.env = (false, eval e X.env) :: starEach es X.env := by rfl) (hplain : (backTo cpos (starEach es X.env)).any (·.1) = false := by rfl) :
    PE X (.Call (.Attribute o name apos) (e :: es) [] cpos) (tBM X.K T r to t) := by
  intro pins s σ H Q I h
  refine wpAny_Call_method_late hbase hfew hline rfl (thn (ho pins s σ H _ I h) fun v s1 ⟨x, H1, I1, r1, ty, q1⟩ => ?_)
  obtain ⟨h1, h2⟩ := tyV_is I1 r1 ty
  refine ⟨T, id, pa, slot, hty, h1, h2, ?_⟩
  have hA := ha cpos pins s1 σ H1 _ I1 q1
  rw [hs] at hA ⊢
  refine Calls.callWith_builtin (by show (false || (backTo cpos (starEach es X.env)).any (·.1)) = false; rw [hplain] <;> rfl) (Calls.evalArgs_plain ?_)
  exact thn hA fun us s2 ⟨vs, H2, I2, r2, q2⟩ => hm pins s2 σ H2 x vs v us Q I2 r1 r2 q2
/- xs.append(e), list.index on a module's tuple .. are MtR facts of 06m -/
end
end L2

namespace L2
open PySem PySem.Spec PyProof.Rows

def MtM (X : Cx) (id : String) (r : V → List V → Hp → VK → Prop) : Prop :=
  ∀ (pins : List (Addr × Obj)) (s : Shared) (σ : St) (H : Hp) (x : V) (xs : List V) (v : Value) (us : List Value) (Q : VK), Inv X pins σ H s → RelV x v → Vals xs us → r x xs H Q →
    wpAny (model X.prog X.w) X.A (call (.builtin id) (v :: us)) (EP X pins σ Q) X.xe s

/-! ### lists of values -/
theorem Vals.one : ∀ {x : V} {us : List Value}, Vals [x] us → ∃ u, us = [u] ∧ RelV x u
  | _, _, .cons r .nil => ⟨_, rfl, r⟩
theorem Vals.zero : ∀ {us : List Value}, Vals [] us → us = []
  | _, .nil => rfl
theorem Vals.dropLast {xs : List V} {us : List Value} (h : Vals xs us) : Vals xs.dropLast us.dropLast := by
  induction h with
  | nil => exact .nil
  | cons r t ih =>
    cases t with
    | nil => exact .nil
    | cons q t' => exact .cons r ih
theorem erase_last {α : Type} (l : List α) : l.eraseIdx (l.length - 1) = l.dropLast := by
  induction l with
  | nil => rfl
  | cons a r ih =>
    cases r with
    | nil => rfl
    | cons b r =>
      have e : (a :: b :: r).length - 1 = ((b :: r).length - 1) + 1 := by
        have h1 : (a :: b :: r).length = r.length + 2 := rfl
        have h2 : (b :: r).length = r.length + 1 := rfl
        omega
      rw [e, List.eraseIdx_cons_succ, ih]
      all_goals rfl
section
variable {X : Cx} {pins : List (Addr × Obj)} {σ : St} {H : Hp} {s : Shared} {l b : Addr} {xs ys zs : List V}

/-! ### the two steps: a tracked list is rewritten, a new list is laid -/
theorem Inv.lset {its its' : List Value} {n : Nat} {f : Array Value → Array Value} {t' : Nat} (I : Inv X pins σ H s) (hH : H l = some (.lst xs))
    (e : s.heap.get? l = some { cls := .type "list", data := .seq its.toArray n }) (hf : f its.toArray = its'.toArray) (hv : Vals ys its') (hz : ys.length ≤ sizeLine) :
    Inv X pins σ (upd H l (.lst ys)) { s with heap := s.heap.update l (Obj.mapSeq f), toks := t' } := by
  have q := PySem.IsL.update e f
  rw [hf] at q
  refine I.write (x := l) (e := l) (by rw [hH]; exact trivial) (.inl rfl) (fun b' u hb hu => (Heap.get?_update_other s.heap (Obj.mapSeq f) (Ne.symm hb)).trans hu) ⟨_, q⟩ ?_
  exact ⟨hz, its', _, hv, q⟩
theorem Inv.lnew {its : List Value} {t' : Nat} (I : Inv X pins σ H s) (hv : Vals ys its) (hz : ys.length ≤ sizeLine) :
    Inv X pins σ (upd H s.heap.objs.size (.lst ys)) { s with heap := s.heap.push { cls := .type "list", data := .seq its.toArray }, toks := t' } :=
  I.laid (fun _ _ q => Heap.get?_push_of_some _ q) (Nat.le_refl _) ⟨hz, its, 0, hv, Heap.get?_push_size _ rfl⟩
theorem Inv.fresh (I : Inv X pins σ H s) : H s.heap.objs.size = none := I.hok.fresh (Nat.le_refl _)
theorem Inv.lstM (I : Inv X pins σ H s) (hH : H l = some (.lst xs)) : xs.length ≤ sizeLine ∧ ∃ (its : List Value) (n : Nat), Vals xs its ∧ xs.length = its.length ∧ s.heap.get? l = some { cls := .type "list", data := .seq its.toArray n } := by
  obtain ⟨z, its, n, r, e⟩ := I.hok l _ hH
  exact ⟨z, its, n, r, r.length, e⟩

end

section
variable {X : Cx}

/-! ### methods -/
def rAppend : V → List V → Hp → VK → Prop := fun x vs H Q => ∃ l xs y, x = .ref l ∧ vs = [y] ∧ H l = some (.lst xs) ∧ xs.length < sizeLine ∧ Q .non (upd H l (.lst (xs ++ [y])))
theorem mt_append : MtM X "list.append" rAppend := by
  intro pins s σ H x vs v us Q I rx rv h
  obtain ⟨l, xs, y, rfl, rfl, hH, hz, q⟩ := h
  cases rx
  obtain ⟨u, rfl, ru⟩ := rv.one
  obtain ⟨z, its, n, r, hl, e⟩ := I.lstM hH
  refine call_meets F.slot_list_append ⟨_, e, rfl⟩ F.entry_list_append (F.args_list_append_2 _ _) (PySem.list_append l its.toArray n u (by rw [List.size_toArray]; omega)) ⟨e, ?_⟩
  refine ⟨.non, _, I.lset (its' := its ++ [u]) hH e (by simp) (r.append (.cons ru .nil)) ?_, rfl, q⟩
  rw [List.length_append, List.length_singleton]
  omega

def rExtend : V → List V → Hp → VK → Prop := fun x vs H Q => ∃ l b xs zs, x = .ref l ∧ vs = [.ref b] ∧ H l = some (.lst xs) ∧ H b = some (.lst zs) ∧ xs.length + zs.length ≤ sizeLine ∧ Q .non (upd H l (.lst (xs ++ zs)))
def rPop : V → List V → Hp → VK → Prop := fun x vs H Q => ∃ l xs y, x = .ref l ∧ vs = [] ∧ H l = some (.lst xs) ∧ xs[xs.length - 1]? = some y ∧ Q y (upd H l (.lst xs.dropLast))
theorem mt_pop : MtM X "list.pop" rPop := by
  intro pins s σ H x vs v us Q I rx rv h
  obtain ⟨l, xs, y, rfl, rfl, hH, hy, q⟩ := h
  cases rx
  have hus := rv.zero
  subst hus
  obtain ⟨z, its, n, r, hl, e⟩ := I.lstM hH
  obtain ⟨u, hu, ru⟩ := r.get hy
  have hy' : its.toArray[its.toArray.size - 1]? = some u := by
    show its.toArray[its.length - 1]? = some u
    rw [← Array.getElem?_toList, ← hl]
    exact hu
  refine call_meets F.slot_list_pop ⟨_, e, rfl⟩ F.entry_list_pop (F.args_list_pop_1 _) (MeetsSeq.list_pop_last l its.toArray n u hy' (by rw [List.size_toArray]; omega)) ⟨e, ?_⟩
  refine ⟨y, _, I.lset (its' := its.dropLast) hH e ?_ r.dropLast ?_, ru, q⟩
  · show its.toArray.eraseIdxIfInBounds (its.toArray.size - 1) = its.dropLast.toArray
    rw [List.size_toArray, List.eraseIdxIfInBounds_toArray, erase_last]
  · rw [List.length_dropLast]
    omega

def rPopAt : V → List V → Hp → VK → Prop := fun x vs H Q => ∃ l xs i k y, x = .ref l ∧ vs = [.int i] ∧ H l = some (.lst xs) ∧ -(2 ^ 63) ≤ i ∧ i < 2 ^ 63 ∧ seqIndex? i xs.length = some k ∧ xs[k]? = some y ∧ Q y (upd H l (.lst (xs.eraseIdx k)))
def rReverse : V → List V → Hp → VK → Prop := fun x vs H Q => ∃ l xs, x = .ref l ∧ vs = [] ∧ H l = some (.lst xs) ∧ Q .non (upd H l (.lst xs.reverse))
def rClear : V → List V → Hp → VK → Prop := fun x vs H Q => ∃ l xs, x = .ref l ∧ vs = [] ∧ H l = some (.lst xs) ∧ Q .non (upd H l (.lst []))
/-! ### list + list, list += list, list * int -/
def rCat : R2 := fun x y H Q => ∃ l b xs zs, x = .ref l ∧ y = .ref b ∧ H l = some (.lst xs) ∧ H b = some (.lst zs) ∧ xs.length + zs.length ≤ sizeLine ∧ ∀ p, H p = none → Q (.ref p) (upd H p (.lst (xs ++ zs)))
theorem op_cat : OpR X (binaryOp .Add) rCat := by
  intro pins s σ H x y v u Q I rx ry h
  obtain ⟨l, b, xs, zs, rfl, rfl, hH, hB, hz, q⟩ := h
  cases rx
  cases ry
  obtain ⟨z, its, n, r, hl, e⟩ := I.lstM hH
  obtain ⟨z2, its2, n2, r2, hl2, e2⟩ := I.lstM hB
  refine PySem.P.add_list e e2 ?_ (by rw [List.size_toArray, List.size_toArray]; omega)
  have ea : its.toArray ++ its2.toArray = (its ++ its2).toArray := by simp
  rw [ea]
  exact ⟨.ref _, _, I.lnew (t' := s.toks) (r.append r2) (by rw [List.length_append]; omega), rfl, q _ I.fresh⟩
/-- a list times an int (a negative one is nothing) -/
def rRep : R2 := fun x y H Q => ∃ l k xs, x = .ref l ∧ y = .int k ∧ H l = some (.lst xs) ∧ -(2 ^ 63) ≤ k ∧ k < 2 ^ 63 ∧ xs.length * k.toNat ≤ sizeLine ∧
  ∀ p, H p = none → Q (.ref p) (upd H p (.lst (List.replicate k.toNat xs).flatten))
/-! ### del xs[i] -/
end

/-! ### xs[a:b] = ys -/
section
variable {prog : Program} {w : World} {A : Around} {E : Value → Shared → Prop} {s : Shared}
end

section
variable {X : Cx}
end
end L2


namespace L2
open PySem PySem.Spec PyProof.Rows

/-! ### lists of pairs as tables -/
section
variable {κ : Type} [DecidableEq κ]
def valV (kvs : List (κ × V)) (k : κ) : Option V := (kvs.find? fun kv => decide (kv.1 = k)).map (·.2)
/-- in its place, or at the end -/
def putK (kvs : List (κ × V)) (k : κ) (v : V) : List (κ × V) :=
  if (kvs.any fun kv => decide (kv.1 = k)) = true then kvs.map (fun kv => if kv.1 = k then (kv.1, v) else kv) else kvs ++ [(k, v)]
def dropK (kvs : List (κ × V)) (k : κ) : List (κ × V) := kvs.filter fun kv => decide (kv.1 ≠ k)

end


/-! ### a tracked dict, its keys ints and texts or tuples of these -/
/-- raw entries of a dict with tuple keys -/
abbrev KT (H : Hp) : List (List Key × V) → List (List Key × Addr × Value) → Prop := Paired fun p q => p.1 = q.1 ∧ H q.2.1 = some (.tup (p.1.map kV)) ∧ RelV p.2 q.2.2
section
variable {P : Program} {w : World} {H : Hp} {h : Heap} {a : Addr}
end

/-- what the dict at a holds at the key y -/
def DGet (H : Hp) (a : Addr) (y : V) (r : Option V) : Prop :=
  (∃ kvs k, Rd H a (.dK kvs) ∧ y = kV k ∧ r = valV kvs k) ∨ ∃ kvs k b, Rd H a (.dT kvs) ∧ y = .ref b ∧ H b = some (.tup (k.map kV)) ∧ r = valV kvs k
/-- the heap behind a[y] = v -/
def DPut (H : Hp) (a : Addr) (y v : V) (H' : Hp) : Prop :=
  (∃ kvs k, H a = some (.dK kvs) ∧ y = kV k ∧ kvs.length < sizeLine ∧ H' = upd H a (.dK (putK kvs k v))) ∨
  ∃ kvs k b, H a = some (.dT kvs) ∧ y = .ref b ∧ H b = some (.tup (k.map kV)) ∧ kvs.length < sizeLine ∧ H' = upd H a (.dT (putK kvs k v))
section
variable {X : Cx} {pins : List (Addr × Obj)} {σ : St} {H : Hp} {s : Shared} {a : Addr} {y v : V} {u r : Value} {o : Option V} {A : Around} {E : Value → Shared → Prop}

end

section
variable {X : Cx} {pins : List (Addr × Obj)} {σ : St} {H : Hp} {s : Shared} {a : Addr} {kvs : List (Key × V)} {k : Key} {u : Value} {A : Around} {E : Value → Shared → Prop}
end


/-! ### readings and rules -/
/-- the element of a subscription, not a slice -/
def NoSl (i : Expr) : Prop := ∀ ov iv, subscripted i false ov iv = operate [ov, iv] (getItem ov iv)
/-- d[y] -/
def tDGet (td ty : TE) : TE := fun σ H Q => td σ H fun x H1 => ty σ H1 fun y H2 => ∃ a v, x = .ref a ∧ DGet H2 a y (some v) ∧ Q v H2
/-- y in d, y not in d -/
def tDIn (ty td : TE) : TE := fun σ H Q => ty σ H fun y H1 => td σ H1 fun x H2 => ∃ a o, x = .ref a ∧ DGet H2 a y o ∧ Q (.bl o.isSome) H2
def tDNotIn (ty td : TE) : TE := fun σ H Q => ty σ H fun y H1 => td σ H1 fun x H2 => ∃ a o, x = .ref a ∧ DGet H2 a y o ∧ Q (.bl (!o.isSome)) H2
/-- d[y] = v -/
def sDPut (td ty tv : TE) : TS := fun D σ H => tv σ H fun v H1 => td σ H1 fun x H2 => ty σ H2 fun y H3 => ∃ a H4, x = .ref a ∧ DPut H3 a y v H4 ∧ D.nx σ H4
/-- d[y] op= v -/
def sDAug (td ty tv : TE) (rd : V → V → Hp → VK → Prop) : TS := fun D σ H => td σ H fun x H1 => ty σ H1 fun y H2 => ∃ a v, x = .ref a ∧ DGet H2 a y (some v) ∧
  tv σ H2 fun y2 H3 => rd v y2 H3 fun z H4 => ∃ H5, DPut H4 a y z H5 ∧ D.nx σ H5
/-- del d[y] -/
def sDDel (td ty : TE) : TS := fun D σ H => td σ H fun x H1 => ty σ H1 fun y H2 => ∃ a kvs k, x = .ref a ∧ H2 a = some (.dK kvs) ∧ y = kV k ∧ (valV kvs k).isSome = true ∧ D.nx σ (upd H2 a (.dK (dropK kvs k)))

section
variable {X : Cx} {o i e value : Expr} {pos pos' tpos : Pos} {td ty tv : TE}
end


/-! ### displays -/
/-- {}, to be a dict of the kind that is wanted -/
def tDNewK : TE := fun _ H Q => ∀ p, H p = none → Q (.ref p) (upd H p (.dK []))
def tDNewT : TE := fun _ H Q => ∀ p, H p = none → Q (.ref p) (upd H p (.dT []))
section
variable {X : Cx} {pos : Pos}
end

/-- the pairs of a display, from the left -/
def tPairs : List (TE × TE) → St → Hp → (List (V × V) → Hp → Prop) → Prop
  | [], _, H, Q => Q [] H
  | (tk, tv) :: r, σ, H, Q => tk σ H fun x H1 => tv σ H1 fun y H2 => tPairs r σ H2 fun ps H3 => Q ((x, y) :: ps) H3
abbrev VV : List (V × V) → List (Value × Value) → Prop := Paired fun p q => RelV p.1 q.1 ∧ RelV p.2 q.2
def PPs (X : Cx) (pos : Pos) (keys : List (Option Expr)) (values : List Expr) (trs : List (TE × TE)) : Prop :=
  ∀ (pins : List (Addr × Obj)) (s : Shared) (σ : St) (H : Hp) (Q : List (V × V) → Hp → Prop), Inv X pins σ H s → tPairs trs σ H Q →
    wpAny (model X.prog X.w) X.A (evalPairs (pairTrees keys values X.env pos)) (fun vs s' => ∃ ps H', Inv X pins σ H' s' ∧ VV ps vs ∧ Q ps H') X.xe s
def mergeK (kvs more : List (Key × V)) : List (Key × V) := more.foldl (fun acc kv => putK acc kv.1 kv.2) kvs
/-- {k: v, ..} with keys ints and texts; the new dict stands empty while the pairs are made -/
def tDisp (trs : List (TE × TE)) : TE := fun σ H Q => ∀ p, H p = none → tPairs trs σ (upd H p (.dK [])) fun ps H2 => H2 p = some (.dK []) ∧ ∃ kvs : List (Key × V), ps = kvs.map (fun kv => (kV kv.1, kv.2)) ∧ kvs.length ≤ 15 ∧ Q (.ref p) (upd H2 p (.dK (mergeK [] kvs)))
/-! ### methods -/
/-- a method call o.m(e) of a built-in, with one argument: what must be seen of the text -/
structure M1 (X : Cx) (o : Expr) (m : Str) (apos : Pos) (e : Expr) (cpos : Pos) : Prop where
  base : attributeBase o m X.env (eval o X.env) = eval o X.env
  few : ((backTo cpos (starEach [e] X.env)).all (fun x => !x.1) && (backToKw cpos (keywordEach [] X.env)).all (fun x => x.1.isSome)
    && decide (([e] : List Expr).length + ([] : List Keyword).length + (if ([] : List Keyword).isEmpty then 0 else 1) < 30)) = true
  line : (apos.endLine == cpos.line) = true
  trees : backTo cpos (starEach [e] X.env) = [(false, eval e X.env)]
structure M2 (X : Cx) (o : Expr) (m : Str) (apos : Pos) (e f : Expr) (cpos : Pos) : Prop where
  base : attributeBase o m X.env (eval o X.env) = eval o X.env
  few : ((backTo cpos (starEach [e, f] X.env)).all (fun x => !x.1) && (backToKw cpos (keywordEach [] X.env)).all (fun x => x.1.isSome)
    && decide (([e, f] : List Expr).length + ([] : List Keyword).length + (if ([] : List Keyword).isEmpty then 0 else 1) < 30)) = true
  line : (apos.endLine == cpos.line) = true
  trees : backTo cpos (starEach [e, f] X.env) = [(false, eval e X.env), (false, eval f X.env)]

/-- a is a dict, whatever its keys -/
def IsD (H : Hp) (a : Addr) : Prop := (∃ kvs, Rd H a (.dK kvs)) ∨ ∃ kvs, Rd H a (.dT kvs)
section
variable {X : Cx} {pins : List (Addr × Obj)} {σ : St} {H : Hp} {s : Shared} {a : Addr} {y d : V} {u r : Value} {o : Option V} {A : Around} {E : Value → Shared → Prop}
end

def tDGet1 (td ty : TE) : TE := fun σ H Q => td σ H fun x H1 => ∃ a, x = .ref a ∧ IsD H1 a ∧ ty σ H1 fun y H2 => ∃ o, DGet H2 a y o ∧ Q (o.getD .non) H2
def tDGet2 (td ty tx : TE) : TE := fun σ H Q => td σ H fun x H1 => ∃ a, x = .ref a ∧ IsD H1 a ∧ ty σ H1 fun y H2 => tx σ H2 fun z H3 => ∃ o, DGet H3 a y o ∧ Q (o.getD z) H3
/-- d.pop(k): there; d.pop(k, x): there or not -/
def tDPop1 (td ty : TE) : TE := fun σ H Q => td σ H fun x H1 => ∃ a, x = .ref a ∧ IsD H1 a ∧ ty σ H1 fun y H2 => ∃ kvs k v, H2 a = some (.dK kvs) ∧ y = kV k ∧ valV kvs k = some v ∧ Q v (upd H2 a (.dK (dropK kvs k)))
def tDPop2 (td ty tx : TE) : TE := fun σ H Q => td σ H fun x H1 => ∃ a, x = .ref a ∧ IsD H1 a ∧ ty σ H1 fun y H2 => tx σ H2 fun z H3 => ∃ kvs k, H3 a = some (.dK kvs) ∧ y = kV k ∧
  (∀ v, valV kvs k = some v → Q v (upd H3 a (.dK (dropK kvs k)))) ∧ (valV kvs k = none → Q z H3)
section
variable {X : Cx} {o e f : Expr} {apos cpos : Pos} {td ty tx : TE}
end

/-! ### dict(d): a copy -/
section
variable {X : Cx} {pins : List (Addr × Obj)} {σ : St} {H : Hp} {s : Shared} {a : Addr} {kvs : List (Key × V)} {A : Around} {E : Value → Shared → Prop}
end


section
variable {X : Cx} {pins : List (Addr × Obj)} {σ : St} {H : Hp} {s : Shared} {a : Addr} {y : V} {u : Value} {A : Around} {E : Value → Shared → Prop}
end
end L2

namespace Att
open PySem PySem.W PySem.Calls PyProof.Rows

/-! ### the script -/
theorem ints_of_wellAll {P : Params} {h : Heap} : ∀ (ns : List Int) (vs : List Value), WellAll P h vs (ns.map WData.int) → IntsAre vs ns := by
  intro ns
  induction ns with
  | nil =>
    intro vs w
    rw [List.map_nil] at w
    cases w
    exact .nil
  | cons n ns ih =>
    intro vs w
    rw [List.map_cons] at w
    cases w with
    | cons a b =>
      cases a
      exact .cons _ _ (ih _ b)

theorem script_of {l : OpenLaw} {n : Nat} (hn : l.most = some n) {P : Params} {h : Heap} {args : List WData} {vals : List Value}
    (hpre : l.row.toRowW.claim.pre args = true) (hwl : WellAll P h vals args) :
    ∃ a vs ns, vals = [Value.ref a] ∧ args = [WData.list (ns.map WData.int)] ∧ h.get? a = some { cls := .type "list", data := .seq vs.toArray } ∧ IntsAre vs ns ∧ ns.length ≤ n := by
  have hsh : WShape.hasAll [] args [.list .int] = true := (pre_splitW hpre).1
  have hc : l.pre.holds [] { args := args } = true := (pre_splitW hpre).2
  obtain ⟨d, r, rfl, h1, h2⟩ := hasAllW_cons hsh
  obtain rfl := hasAllW_nil h2
  obtain ⟨xs, rfl, h3⟩ := hasW_list h1
  obtain ⟨ns, rfl⟩ := items_int h3
  have hlen : ns.length ≤ n := by
    unfold OpenLaw.pre at hc
    have h4 : (WTm.not (.lt (.lit (.int (n : Int))) (.len (.arg 0)))).holds [] { args := [.list (ns.map .int)] } = true := by
      have h4 := (holds_andW hc).1
      rw [hn] at h4
      exact h4
    have h5 := condW_of h4 (w_not (w_lt w_lit (w_len_list (w_arg rfl))))
    rw [List.length_map] at h5
    refine Nat.le_of_not_lt fun q => ?_
    have q' : (n : Int) < ((ns.length : Nat) : Int) := by omega
    first
      | (rw [decide_eq_true q'] at h5; exact absurd h5 (by decide))
      | (simp at h5; omega)
  cases hwl with
  | cons w1 w2 =>
    cases w2
    cases w1 with
    | list ho hall => exact ⟨_, _, ns, rfl, rfl, ho, ints_of_wellAll ns _ hall, hlen⟩

theorem post_true (l : OpenLaw) (args : List WData) : l.row.toRowW.claim.post args (.bool true) args = true :=
  postW_of (r := l.row.toRowW) (X := (true == true))
    (show WShape.has [] (.bool true) .bool = true by first | rfl | decide | simp [WShape.has, WShape.arms, WShape.armsAll])
    (show (WTm.eq .res (.lit (.bool true))).value [] { args := args, res := some (.bool true), after := args } = some (.bool (true == true)) from w_eq_bool (w_res rfl) w_lit) rfl

/-! ### the attachment: holds_open's last premise (the goal 'hc' behind k_head) from a wpAny of the law's body -/
/-- the same from a codeAny of the CALL (for a layer whose function contracts speak of calls) -/
theorem attach_call {l : OpenLaw} {n : Nat} {q : Program} {loose : List Str} {XP : (Str → Option Value) → Heap → Prop} {YP : World → Heap → Prop} {d : DefRec}
    (hn : l.most = some n) (hdf : d.params.defaults = [])
    (call : ∀ (w : World) (s₀ s₁ : Shared) (mg mb : Str → Option Value) (fa : Addr) (o : Obj) (pm cd doc : Value) (a : Addr) (vs : List Value) (ns : List Int),
      Ground q loose [] XP w s₀ mg mb s₁.heap → YP w s₁.heap →
      s₁.heap.get? fa = some o → o.data = .func (docDef d.name d.params d.body d.scope pm cd doc) → s₁.heap.CodeRec cd d.name → mg d.name = some (.ref fa) →
      s₁.heap.get? a = some { cls := .type "list", data := .seq vs.toArray } → IntsAre vs ns → ns.length ≤ n → s₁.gens = #[] →
      codeAny (model l.prog w) callerA (.call (.ref fa) ⟨[.ref a], []⟩) (fun r s' => r = .ok (.ret (.bool true)) ∧ OldK s₁.heap s'.heap ∧ s'.os = s₁.os ∧ AllBare s'.gens) s₁) :
    WalkO q loose XP YP l.row.toRowW d [] (fun f vs => PySem.call f vs) := by
  intro w s₀ s₁ mg mb G Y fa o pm cd doc dV kV ho hd hcd hD hmg hg args vals as hpre hlay hrd hwl hlo
  obtain rfl : dV = .none := Dflts.none hD hdf
  obtain rfl : kV = .none := Dflts.noKw hD
  obtain ⟨a, vs, ns, rfl, rfl, hobj, hints, hlen⟩ := script_of hn hpre hwl
  refine enter_call (codeAny_mono (call w s₀ s₁ mg mb fa o pm cd doc a vs ns G Y ho (fd_plain hd) hcd hmg hobj hints hlen hg) fun r s' hq => ?_)
  obtain ⟨rfl, h2, h3, h4⟩ := hq
  exact ⟨.inl ⟨.bool true, .bool true, [], rfl, fun _ => rfl, .bool true, post_true l _, fun _ => ⟨List.Pairwise.nil, fun _ hm => (nomatch hm)⟩⟩, h2, h3, h4⟩

/-! ### rules over ANY heap (no ledger) from facts about the written part K: the library's own take a ledger (News) for what they write -/
section
variable {prog : Program} {w : World} {A : Around} {E : Value → Shared → Prop} {s : Shared} {K : Frag}

/-! the whole heap as the ledger: makes every rule that writes through a ledger a rule over any heap -/
def noObjs (h : Heap) : Heap := { h with objs := #[] }
def ledger (h : Heap) (L d : Addr) : List (Addr × Obj) := (List.range h.objs.size).filterMap fun a => if a = L ∨ a = d then none else (h.get? a).map fun o => (a, o)
end
end Att

namespace L2
open PySem PySem.Spec PyProof.Rows

theorem vals_ints : ∀ {vs : List Value} {ns : List Int}, IntsAre vs ns → Vals (ns.map V.int) vs
  | _, _, .nil => .nil
  | _, _, .cons n t h => .cons ⟨t, rfl⟩ (vals_ints h)

/-- nothing is tracked but the script, known to the object (or it is an object of the module) -/
def Only (H : Hp) : Prop := ∀ b, H b = none ∨ ∃ o xs, H b = some (.frz o (.lst xs))

/-- THE HEAD: the law's promise, at the heap behind the top. F, the promise of the law's def, may use that base is part of the heap (so K.In base, base.Ns mainGlobals mg stand in Mod) -/
theorem law_call {P : Program} {w : World} {K : PySem.W.Frag} {mg mb : Str → Option Value} {CX : CXT} {k : Nat} {fa a : Addr} {fd : FuncData} {x : Str} {sp : Sp} {s₁ : Shared} {vs : List Value} {ns : List Int}
    (KX : K.In s₁.heap) (hns : s₁.heap.Ns mainGlobals mg) (hb : s₁.heap.Ns builtinsNs mb) (hbb : ∀ x : Str, x ≠ "__name__" → mb x = bootBuiltins x) (hlim : s₁.heap.NoLimit) (hg : s₁.gens = #[])
    (ha : s₁.heap.get? a = some { cls := .type "list", data := .seq vs.toArray }) (hi : IntsAre vs ns) (hl : ns.length ≤ sizeLine) (hr : Room cc k callerA)
    (F : ∀ base : Heap, K.In base → base.Ns mainGlobals mg → FnOk P w K mg base CX cc k fa fd [x] sp) (hbind : ∀ (s : Shared) (u : Value), BindsTo s fd ⟨[u], []⟩ [(x, u)])
    (hsp : ∀ H : Hp, Only H → SqL K H a (ns.map V.int) → sp [.ref a] H (fun v _ => v = .bl true) fun _ _ _ => False)
    (hCX : ∀ H e s', CX [] H s₁ (fun _ _ _ => False) e s' → False) :
    codeAny (model P w) callerA (.call (.ref fa) ⟨[.ref a], []⟩) (fun r s' => r = .ok (.ret (.bool true)) ∧ OldK s₁.heap s'.heap ∧ s'.os = s₁.os ∧ AllBare s'.gens) s₁ := by
  have rv := vals_ints hi
  have lenV := hi.length
  -- from an abstract heap in which nothing but the script may be tracked
  have core : ∀ H : Hp, Only H → SqL K H a (ns.map V.int) → HOk P w H s₁.heap → (∀ b, H b ≠ none → b = a) → (H a ≠ none → K.lookup a = none) →
      codeAny (model P w) callerA (.call (.ref fa) ⟨[.ref a], []⟩) (fun r s' => r = .ok (.ret (.bool true)) ∧ OldK s₁.heap s'.heap ∧ s'.os = s₁.os ∧ AllBare s'.gens) s₁ := by
    intro H hO hS hok hA hK
    have base_of : ∀ {b : Addr} {o : Obj}, s₁.heap.get? b = some o → H b = none → (hidT s₁.heap H).get? b = some o := fun e n => hidT_get e n
    have noA : ∀ {b : Addr} {o : Obj} {es : Array DictEntry} {ep : Nat}, s₁.heap.get? b = some o → o.data = .dict es ep → H b = none := fun {b o es ep} e d => by
      cases q : H b with
      | none => rfl
      | some u =>
        have e' : b = a := hA b (by rw [q]; simp)
        subst e'
        rw [ha] at e; cases e
        have d' : Data.seq vs.toArray _ = Data.dict es ep := d
        cases d'
    have nsK : ∀ {b : Addr} {m : Str → Option Value}, s₁.heap.Ns b m → (hidT s₁.heap H).Ns b m := fun {b m} ⟨o, es, ep, e, d, r⟩ => ⟨o, es, ep, base_of e (noA e d), d, r⟩
    have hKb : K.In (hidT s₁.heap H) := fun b o e => base_of (KX b o e) (by
      cases q : H b with
      | none => rfl
      | some u =>
        have e' : b = a := hA b (by rw [q]; simp)
        subst e'
        rw [hK (by rw [q]; simp)] at e; cases e)
    have hM : Mod K mg (hidT s₁.heap H) := ⟨hKb, nsK hns, ⟨mb, nsK hb, hbb⟩, let ⟨mc, h1, h2⟩ := hlim; ⟨mc, nsK h1, h2⟩⟩
    have e0 : Env0 P w K mg (hidT s₁.heap H) callerA [] s₁ H := ⟨rfl, hM, fun b o e => of_hidT e, Nat.le_of_eq (hidT_size _ _), trivial, fun b hb => absurd (show b ∈ ([] : List Addr) from hb) (by simp), hok, .of_eq hg⟩
    refine codeAny_mono ((F _ hKb (nsK hns)).run callerA [] s₁ H ⟨[.ref a], []⟩ [.ref a] [.ref a] _ _ hr e0 (hbind s₁ (.ref a)) (.cons rfl .nil) (hsp H hO hS)) fun r s' h => ?_
    cases r with
    | error e => exact (hCX H e s' h).elim
    | ok fl =>
      cases fl with
      | next => exact False.elim h
      | brk => exact False.elim h
      | cont => exact False.elim h
      | ret u =>
        obtain ⟨v, H', os, bare, un, hok', r', q⟩ := h
        have q' : v = .bl true := q
        subst q'
        obtain rfl : u = Value.bool true := r'
        refine ⟨rfl, OldK.of_keep fun b o e => ?_, os, bare⟩
        cases q : H b with
        | none => exact un.keep b o e q (by intro z; exact absurd (show b ∈ ([] : List Addr) from z) (by simp)) (by simp)
        | some u =>
          rcases hO b with z | ⟨ob, xs, z⟩
          · rw [q] at z; cases z
          · have z2 := un.frzs b ob _ z
            obtain ⟨e1, _⟩ := hok b _ z
            obtain ⟨e2, _⟩ := hok' b _ z2
            rw [e] at e1; cases e1
            exact e2
  cases hk : K.lookup a with
  | some o =>
    -- the script is one of the module's own objects
    have e := KX a o hk
    rw [ha] at e
    cases e
    refine core (fun _ => none) (fun _ => .inl rfl) (.inr ⟨_, vs.toArray, _, hk, rfl, rfl, rfl, by rw [List.size_toArray, lenV]; exact hl, by simpa using rv⟩) (fun b u z => by have z' : (none : Option HO) = some u := z; cases z') (fun b z => absurd rfl z) fun z => absurd rfl z
  | none =>
    refine core (fun b => if b = a then some (.frz { cls := .type "list", data := .seq vs.toArray } (.lst (ns.map V.int))) else none) (fun b => ?_) (.inl (.inr ⟨{ cls := .type "list", data := .seq vs.toArray }, if_pos rfl⟩)) (fun b u z => ?_) (fun b z => ?_) fun _ => hk
    · by_cases hb : b = a
      · exact .inr ⟨_, _, if_pos hb⟩
      · exact .inl (if_neg hb)
    · by_cases hb : b = a
      · have z' := (if_pos hb).symm.trans z
        cases z'
        subst hb
        exact ⟨ha, by rw [List.length_map]; exact hl, vs, _, rv, ha⟩
      · have z' := (if_neg hb).symm.trans z
        cases z'
    · by_cases hb : b = a
      · exact hb
      · exact absurd (if_neg hb) z
end L2

namespace L2
open PySem PySem.Spec PyProof.Rows

abbrev KOf {K : PySem.W.Frag} {h : Heap} (_ : K.In h) : PySem.W.Frag := K

/-- the goal that k_head leaves (case hc), from the law's promise. F gives the function object fd (K's own) once, then the promise over every base -/
theorem walk_of {l : PySem.W.OpenLaw} {n k : Nat} {q : Program} {loose : List Str} {XP : (Str → Option Value) → Heap → Prop} {YP : World → Heap → Prop} {d : DefRec} {K : Params → PySem.W.Frag} {CX : World → CXT} {sp : World → Sp} {x : Str}
    (hn : l.most = some n) (hn2 : n ≤ sizeLine) (hdf : d.params.defaults = []) (hr : Room cc k callerA)
    (hY : ∀ (w : World) (h : Heap), YP w h → (K w.params).In h)
    (F : ∀ (w : World) (mg : Str → Option Value) (fa : Addr) (h : Heap), (K w.params).In h → h.Ns mainGlobals mg → mg d.name = some (.ref fa) →
      ∃ fd : FuncData, (∀ (s : Shared) (u : Value), BindsTo s fd ⟨[u], []⟩ [(x, u)]) ∧
        ∀ base : Heap, (K w.params).In base → base.Ns mainGlobals mg → FnOk l.prog w (K w.params) mg base (CX w) cc k fa fd [x] (sp w))
    (hsp : ∀ (w : World) (H : Hp) (a : Addr) (ns : List Int), ns.length ≤ n → Only H → SqL (K w.params) H a (ns.map V.int) → sp w [.ref a] H (fun v _ => v = .bl true) fun _ _ _ => False)
    (hCX : ∀ (w : World) (H : Hp) (s : Shared) (e : Value) (s' : Shared), CX w [] H s (fun _ _ _ => False) e s' → False) :
    PySem.W.WalkO q loose XP YP l.row.toRowW d [] (fun f vs => PySem.call f vs) := by
  refine Att.attach_call hn hdf fun w s₀ s₁ mg mb fa o pm cd doc a vs ns G Y ho hd hcd hmg hobj hints hlen hg => ?_
  have KX := hY w _ Y
  obtain ⟨fd, hb, hF⟩ := F w mg fa _ KX G.T.g hmg
  exact law_call KX G.T.g G.T.b G.T.builtins G.T.nolimit hg hobj hints (Nat.le_trans hlen hn2) hr hF hb (fun H hO hS => hsp w H a ns hlen hO hS) fun H e s' => hCX w H s₁ e s'
end L2

/-! SHORT WORDS over the layer: a def of the text, its body, what a loop and a test want. -/
namespace L2
open PySem PySem.Spec PyProof.Rows

/-! ### the text by places -/
/-- the j-th statement of a class's body -/
def inClass (s : Stmt) (j : Nat) : Stmt := match s with
  | .ClassDef _ _ _ body _ _ _ _ _ _ _ => body.getD j (.Pass ⟨0, 0, 0, 0⟩)
  | _ => .Pass ⟨0, 0, 0, 0⟩
def defArgs (s : Stmt) : Arguments := match s with
  | .FunctionDef _ a _ _ _ _ _ _ _ _ => a
  | _ => { posonlyargs := [], args := [], vararg := none, kwonlyargs := [], kw_defaults := [], kwarg := none, defaults := [] }
def defBody (s : Stmt) : List Stmt := match s with
  | .FunctionDef _ _ b _ _ _ _ _ _ _ => b
  | _ => []
def defScope (s : Stmt) : Scope := match s with
  | .FunctionDef _ _ _ _ _ _ sc _ _ _ => sc
  | _ => { kind := .function, names := [], isGenerator := false, isCoroutine := false }

/-! ### no exception leaves a def -/
abbrev CX0 : CXT := fun _ _ _ _ _ _ => False
abbrev E0 : XK := fun _ _ _ => False
/-! ### a def (or method) of the text as it stands behind the top -/
structure Fun (K : PySem.W.Frag) (x qual : Str) (st : Stmt) (f : Addr) (fd : FuncData) : Prop where
  ex : ∃ (oc : Value) (od : Option Addr) (kV doc pm : Value) (an : Option Addr) (cdv ct : Value) (osl : Array (Option Value)),
    fd = PySem.W.fnOf x qual (defArgs st) (defBody st) (defScope st) .none kV doc pm an cdv ct ∧ K.lookup f = some ⟨oc, od, .func fd, osl⟩ ∧ PySem.W.codeIn K cdv qual = true
  kp : PySem.W.keepIn K (.ref f) = true
section
variable {P : Program} {w : World} {K : PySem.W.Frag} {mg : Str → Option Value} {base : Heap}
/-- how its arguments bind (no defaults): h is «fun _ _ _ _ _ _ us hl => match us, hl with | [_, _], _ => rfl», one _ a parameter -/
theorem Fun.binds {x qual : Str} {st : Stmt} {f : Addr} {fd : FuncData} {ps : List Str} (F : Fun K x qual st f fd)
    (h : ∀ (kV doc pm : Value) (an : Option Addr) (cdv ct : Value) (us : List Value), us.length = ps.length → bindArgs (PySem.W.fnOf x qual (defArgs st) (defBody st) (defScope st) .none kV doc pm an cdv ct) ⟨us, []⟩ = pure (ps.zip us)) : Binds K fd ps [] := by
  obtain ⟨oc, od, kV, doc, pm, an, cdv, ct, osl, rfl, lk, hcd⟩ := F.ex
  exact .all (h kV doc pm an cdv ct)
theorem fun_mk {x qual : Str} {st : Stmt} {f : Addr} {oc : Value} {od an : Option Addr} {osl : Array (Option Value)} {kV doc pm cdv ct : Value} (l : K.lookup f = some ⟨oc, od, .func (PySem.W.fnOf x qual (defArgs st) (defBody st) (defScope st) .none kV doc pm an cdv ct), osl⟩)
    (c : PySem.W.codeIn K cdv qual = true) (k : PySem.W.keepIn K (.ref f) = true) : Fun K x qual st f (PySem.W.fnOf x qual (defArgs st) (defBody st) (defScope st) .none kV doc pm an cdv ct) := ⟨⟨oc, od, kV, doc, pm, an, cdv, ct, osl, rfl, l, c⟩, k⟩
end
/-! ### expressions in short: the name that stands in the i-th slot -/
section
variable {X : Cx}
end

/-! ### tests -/
theorem iteF {A B : Prop} (h : B) : if false = true then A else B := by
  rw [if_neg Bool.false_ne_true]
  exact h
theorem iteT {A B : Prop} (h : A) : if true = true then A else B := by
  rw [if_pos rfl]
  exact h
/-! ### heaps -/
/-- all that was tracked is as it was -/
def Same (H H' : Hp) : Prop := ∀ b o, H b = some o → H' b = some o
theorem Same.refl (H : Hp) : Same H H := fun _ _ h => h
theorem Same.trans {H H1 H2 : Hp} (a : Same H H1) (b : Same H1 H2) : Same H H2 := fun c o h => b c o (a c o h)
theorem Same.free {H H' : Hp} (e : Same H H') {l : Addr} (h : H' l = Option.none) : H l = Option.none := by
  cases q : H l with
  | none => rfl
  | some o =>
    rw [e l o q] at h
    cases h
theorem Same.seq {K : PySem.W.Frag} {H H' : Hp} {a : Addr} {xs : List V} (e : Same H H') (h : SqL K H a xs) : SqL K H' a xs := by
  rcases h with (h | ⟨o, h⟩) | h
  · exact .inl (.inl (e _ _ h))
  · exact .inl (.inr ⟨o, e _ _ h⟩)
  · exact .inr h

end L2

namespace L2
open PySem PySem.Spec PyProof.Rows
section
variable {X : Cx}
end
/-! ### a dict's pairs: keys that differ -/
section
variable {κ : Type} [DecidableEq κ]
end
end L2


namespace L2
open PySem PySem.Spec PyProof.Rows

/-! ### exceptions: the object and its traceback -/
/-- a chain of contexts, and its end -/
def Linked (h : Heap) : Option Value → List Addr → Prop
  | c, [] => c = some .none
  | c, a :: r => c = some (.ref a) ∧ ∃ o vs, h.get? a = some o ∧ o.data = .fields vs ∧ Linked h vs[2]? r
theorem Linked.stay {h h' : Heap} {e : Addr} (k : ∀ v o ws, v ≠ e → h.get? v = some o → o.data = .fields ws → ∃ o' ws', h'.get? v = some o' ∧ o'.data = .fields ws' ∧ ws'[2]? = ws[2]?) : ∀ {l : List Addr} {c : Option Value}, Linked h c l → e ∉ l → Linked h' c l
  | [], _, q, _ => q
  | a :: r, c, ⟨q1, o, vs, q2, q3, q4⟩, n => by
    obtain ⟨o', ws', k1, k2, k3⟩ := k a o vs (fun z => n (by simp [z])) q2 q3
    refine ⟨q1, o', ws', k1, k2, ?_⟩
    rw [k3]
    exact Linked.stay k q4 fun z => n (by simp [z])
/-- what is known of a context: whether there is surely none; it ends -/
def Ctx (h : Heap) (e : Addr) (b : Bool) (c : Option Value) : Prop := (b = true → c = some .none) ∧ ∃ l, Linked h c l ∧ e ∉ l ∧ l.Nodup
theorem Ctx.yes {h : Heap} {e : Addr} {c : Option Value} (q : c = some .none) : Ctx h e true c := ⟨fun _ => q, [], q, by simp, .nil⟩
theorem Ctx.stay {h h' : Heap} {e : Addr} {b : Bool} {c : Option Value} (q : Ctx h e b c) (k : ∀ v o ws, v ≠ e → h.get? v = some o → o.data = .fields ws → ∃ o' ws', h'.get? v = some o' ∧ o'.data = .fields ws' ∧ ws'[2]? = ws[2]?) : Ctx h' e b c := by
  obtain ⟨q1, l, q2, q3, q4⟩ := q
  exact ⟨q1, l, q2.stay k q3, q3, q4⟩
/-- d: the address of its dict, and whether it surely has no context; tb: its traceback's head, whose flight is fl -/
def Flies (h : Heap) (e : Addr) (cls : Value) (d : Option Addr × Bool) (tb : Option Addr) (fl : Value) : Prop :=
  ∃ oe vs, h.get? e = some oe ∧ oe.cls = cls ∧ oe.dict = d.1 ∧ oe.data = .fields vs ∧ vs[1]? = some (tb.elim Value.none Value.ref) ∧ 2 < vs.size ∧ Ctx h e d.2 vs[2]? ∧
    ∀ T, tb = some T → T ≠ e ∧ ∃ oT ws, h.get? T = some oT ∧ oT.data = .fields ws ∧ ws[3]? = some fl
/-- what stands at an address of the abstract heap is there -/
theorem ObjOk.there {P : Program} {w : World} {H : Hp} {h : Heap} {a : Addr} {o : HO} (x : ObjOk P w H h a o) : ∃ ob, h.get? a = some ob := by
  cases o with
  | lst xs => obtain ⟨_, _, _, _, e⟩ := x; exact ⟨_, e⟩
  | tup xs => obtain ⟨_, _, _, ob, e, _⟩ := x; exact ⟨_, e⟩
  | dK kvs => obtain ⟨_, _, _, _, o, _, _, e, _⟩ := x; exact ⟨_, e⟩
  | dT kvs => obtain ⟨_, _, _, _, o, _, _, e, _⟩ := x; exact ⟨_, e⟩
  | set S n => obtain ⟨o, _, _, _, e, _⟩ := x; exact ⟨_, e⟩
  | ins C dx fs => obtain ⟨_, _, _, e, _⟩ := x; exact ⟨_, e⟩
  | own y => obtain ⟨_, e⟩ := x; exact ⟨_, e⟩
  | xd fs => obtain ⟨_, ⟨_, _, _, e, _⟩, _⟩ := x; exact ⟨_, e⟩
  | rng lo hi => obtain ⟨_, _, _, e⟩ := x; exact ⟨_, e⟩
  | frz ob u => obtain ⟨e, _⟩ := x; exact ⟨_, e⟩
  | tbl ps => exact ⟨_, (show h.get? a = some _ from x)⟩
  | met f y => exact ⟨_, (show h.get? a = some _ from x)⟩
  | ext φ => obtain ⟨_, ⟨_, e⟩, _⟩ := x; exact ⟨_, e⟩
theorem HOk.free {P : Program} {w : World} {H : Hp} {h : Heap} {a : Addr} (x : HOk P w H h) (e : h.get? a = none) : H a = none := by
  cases q : H a with
  | none => rfl
  | some u =>
    obtain ⟨ob, z⟩ := (x a u q).there
    rw [e] at z; cases z

/-- how an exception lies behind a call -/
def CX1 (P : Program) (w : World) : CXT := fun outer H s E x s' => ∃ e tb cls d H', x = .ref e ∧ s'.os = s.os ∧ AllBare s'.gens ∧ Un (frs outer) [] H H' s.heap s'.heap ∧ HOk P w H' s'.heap ∧ Flies s'.heap e cls d tb .none ∧
  (∀ b ∈ e :: tb.toList, H' b = none ∧ s.heap.get? b = none) ∧ E cls d H'
theorem CX1.never {P : Program} {w : World} {outer : List Env} {H : Hp} {s s' : Shared} {e : Value} (h : CX1 P w outer H s (fun _ _ _ => False) e s') : False := by
  obtain ⟨_, _, _, _, _, _, _, _, _, _, _, _, z⟩ := h
  exact z

section
variable {M : Model} {A : Around} {E : Value → Shared → Prop} {s : Shared}
/-- the noting of a frame, told whole -/
theorem entry_new {base : Heap} {env : Env} {outer : List Env} {L e : Addr} {oe : Obj} {vs : Array Value} {head : Value} {hadNext : Bool} {Q : Unit → Shared → Prop}
    (hfr : A.frames = some (env :: outer)) (hl : s.heap.FunFrames base (env :: outer)) (hf : env.frame = some L) (he : s.heap.get? e = some oe) (hd : oe.data = .fields vs) (hsz : 1 < vs.size)
    (k : ∀ (h' : Heap) (T : Addr) (oT : Obj) (ws : Array Value), s.heap.objs.size ≤ h'.objs.size → (∀ b o, s.heap.get? b = some o → b ≠ e → b ∉ frs (env :: outer) → h'.get? b = some o) →
      (∀ b o, s.heap.get? b = some o → b ≠ e → ∃ sl, h'.get? b = some { o with slots := sl }) → s.heap.objs.size ≤ T → h'.get? e = some (oe.mapFields (·.setIfInBounds 1 (.ref T))) →
      h'.get? T = some oT → oT.data = .fields ws → ws[3]? = some (rawInt L) → Q () { s with heap := h' }) :
    wpAny M A (do
      let a ← frameOf env
      let pl ← entryPlaceOf L hadNext
      let b ← EntryCells.newEntry head a .none (rawInt L) .none pl
      setField (.ref e) 1 b) Q E s := by
  have hne : e ∉ (env :: outer).filterMap (·.frame) := fun m => by
    obtain ⟨_, o, ho, nf⟩ := hl.mem m
    rw [he] at ho
    cases ho
    exact nf vs hd
  refine wpAny_bind (wpAny_frameOf_fun hfr hl hf fun h1 so => wpAny_bind (wpAny_entryPlaceOf fun pl hp => ?_))
  unfold EntryCells.newEntry newFields
  refine wpAny_bind (wpAny_newObj_type ?_ (hp.sizeOk5 _ _ _ _ _))
  have e1 : h1.get? e = some oe := (so.2.1 e hne).trans he
  have hTe : e ≠ h1.objs.size := Nat.ne_of_lt (Heap.lt_size e1)
  refine wpAny_setField (Heap.get?_push_of_some _ e1) hd hsz (k _ h1.objs.size { cls := .type "traceback", dict := none, data := .fields (([head, .ref L, .none, rawInt L, .none] : List Value) ++ (if pl.isEmpty then List.replicate 6 Value.none else pl)).toArray } (([head, .ref L, .none, rawInt L, .none] : List Value) ++ (if pl.isEmpty then List.replicate 6 Value.none else pl)).toArray ?_ (fun b o hb hbe hbf => ?_) (fun b o hb hbe => ?_) (Nat.le_of_eq so.1.symm) ?_ ?_ ?_ ?_)
  · rw [Heap.size_after_update, Heap.size_push, so.1]
    exact Nat.le_succ _
  · rw [Heap.get?_update_other _ _ (Ne.symm hbe)]
    exact Heap.get?_push_of_some _ ((so.2.1 b hbf).trans hb)
  · obtain ⟨sl, q⟩ := so.2.2 b o hb
    exact ⟨sl, by rw [Heap.get?_update_other _ _ (Ne.symm hbe)]; exact Heap.get?_push_of_some _ q⟩
  · exact Heap.get?_update_self _ (Heap.get?_push_of_some _ e1) (Obj.isFreed_of_fields (Obj.data_mapFields hd _))
  · rw [Heap.get?_update_other _ _ hTe]
    exact Heap.get?_push_size h1 rfl
  · exact rfl
  · first
      | (simp; done)
      | (rcases hp with rfl | ⟨_, _, _, _, _, _, _, rfl⟩ <;> simp)

/-- what a note does to a heap -/
structure Noted (h h' : Heap) (ch fs : List Addr) : Prop where
  keep : ∀ b o, h.get? b = some o → b ∉ fs → b ∉ ch → h'.get? b = some o
  slot : ∀ b o, h.get? b = some o → b ∉ ch → ∃ sl, h'.get? b = some { o with slots := sl }
  there : ∀ b o, h.get? b = some o → ∃ o', h'.get? b = some o'

theorem note_any {base : Heap} {env : Env} {outer : List Env} {L e : Addr} {cls : Value} {d : Option Addr × Bool} {tb : Option Addr} {fl : Value} {Q : Unit → Shared → Prop}
    (hfr : A.frames = some (env :: outer)) (hl : s.heap.FunFrames base (env :: outer)) (hf : env.frame = some L) (F : Flies s.heap e cls d tb fl) (hfl : (fl == rawInt L) = false)
    (k : ∀ (h' : Heap) (T : Addr), Noted s.heap h' (e :: tb.toList) (frs (env :: outer)) → s.heap.objs.size ≤ T → Flies h' e cls d (some T) (rawInt L) → Q () { s with heap := h' }) :
    wpAny M A (noteFrame (.ref e) env) Q E s := by
  obtain ⟨oe, vs, he, hc, hdx, hd, h1, hz, h2, ht⟩ := F
  have fin : ∀ {hp : Heap} {h' : Heap} {T : Addr} {oT : Obj} {ws : Array Value}, (∀ v o ws, v ≠ e → s.heap.get? v = some o → o.data = .fields ws → ∃ o' ws', h'.get? v = some o' ∧ o'.data = .fields ws' ∧ ws'[2]? = ws[2]?) → hp.get? e = some oe → hp.objs.size ≤ T → h'.get? e = some (oe.mapFields (·.setIfInBounds 1 (.ref T))) → h'.get? T = some oT → oT.data = .fields ws →
      ws[3]? = some (rawInt L) → Flies h' e cls d (some T) (rawInt L) := fun {hp h' T oT ws} kk e0 hT q1 q2 q3 q4 => by
    have hd' := Obj.data_mapFields hd (·.setIfInBounds 1 (Value.ref T))
    refine ⟨_, _, q1, (Obj.cls_mapFields _ _).trans hc, ?_, hd', ?_, by simpa using hz, ?_, fun T' eT => ?_⟩
    · obtain ⟨c0, d0, dt, sl⟩ := oe
      cases hd
      exact hdx
    · have : 1 < vs.size := by omega
      simp [this]
    · rw [Array.getElem?_setIfInBounds_ne (by decide)]
      exact h2.stay kk
    · cases eT
      exact ⟨fun z => Nat.lt_irrefl _ (Nat.lt_of_lt_of_le (Heap.lt_size e0) (z ▸ hT)), oT, ws, q2, q3, q4⟩
  unfold noteFrame
  simp only [hf]
  cases tb with
  | none =>
    have h1' : vs[1]? = some Value.none := h1
    refine wpAny_bind (wpAny_field he hd h1' ?_)
    rw [if_neg (by decide)]
    refine entry_new hfr hl hf he hd (by omega) fun h' T oT ws a1 a2 a3 a4 a5 a6 a7 a8 => k h' T ⟨fun b o q1 q2 q3 => a2 b o q1 (fun z => q3 (by simp [z])) q2, fun b o q1 q3 => a3 b o q1 fun z => q3 (by simp [z]), fun b o q1 => ?_⟩ a4 (fin (fun v o ws hv q1 q2 => by obtain ⟨sl, q⟩ := a3 v o q1 hv; exact ⟨_, ws, q, q2, rfl⟩) he a4 a5 a6 a7 a8)
    by_cases z : b = e
    · subst z; exact ⟨_, a5⟩
    · obtain ⟨sl, q⟩ := a3 b o q1 z
      exact ⟨_, q⟩
  | some T0 =>
    obtain ⟨hne, oT0, ws0, t1, t2, t3⟩ := ht T0 rfl
    have h1' : vs[1]? = some (Value.ref T0) := h1
    refine wpAny_bind (wpAny_field he hd h1' ?_)
    rw [if_pos (show (Value.ref T0 != Value.none) = true from by simp)]
    refine wpAny_bind (wpAny_field t1 t2 t3 ?_)
    rw [if_neg (by rw [hfl]; exact Bool.false_ne_true)]
    refine wpAny_bind (wpAny_setField t1 t2 (Array.getElem?_eq_some_iff.mp t3).1 ?_)
    have oth : ∀ b, b ≠ T0 → (s.heap.update T0 (Obj.mapFields (·.setIfInBounds 3 Value.none))).get? b = s.heap.get? b := fun b hb => Heap.get?_update_other _ _ (Ne.symm hb)
    have slf := Heap.get?_update_self (Obj.mapFields (·.setIfInBounds 3 Value.none)) t1 (Obj.isFreed_of_fields (Obj.data_mapFields t2 _))
    have hsz : (s.heap.update T0 (Obj.mapFields (·.setIfInBounds 3 Value.none))).objs.size = s.heap.objs.size := Heap.size_after_update ..
    have hl' : (s.heap.update T0 (Obj.mapFields (·.setIfInBounds 3 Value.none))).FunFrames base (env :: outer) := hl.of_keeps fun b o hb nf => ⟨o, (oth b fun z => by
      subst z
      rw [t1] at hb
      cases hb
      exact nf ws0 t2).trans hb, rfl⟩
    refine entry_new (s := { s with heap := s.heap.update T0 (Obj.mapFields (·.setIfInBounds 3 Value.none)) }) hfr hl' hf ((oth e (Ne.symm hne)).trans he) hd (by omega) fun h' T oT ws a1 a2 a3 a4 a5 a6 a7 a8 =>
      k h' T ⟨fun b o q1 q2 q3 => a2 b o ((oth b fun z => q3 (by simp [z])).trans q1) (fun z => q3 (by simp [z])) q2, fun b o q1 q3 => a3 b o ((oth b fun z => q3 (by simp [z])).trans q1) fun z => q3 (by simp [z]), fun b o q1 => ?_⟩ (hsz ▸ a4) (fin (fun v o ws hv q1 q2 => by
        by_cases z2 : v = T0
        · subst z2
          obtain ⟨sl, q⟩ := a3 v _ slf hv
          rw [t1] at q1
          cases q1
          exact ⟨_, _, q, Obj.data_mapFields q2 _, by rw [Array.getElem?_setIfInBounds_ne (by decide)]⟩
        · obtain ⟨sl, q⟩ := a3 v o ((oth v z2).trans q1) hv
          exact ⟨_, ws, q, q2, rfl⟩) ((oth e (Ne.symm hne)).trans he) a4 a5 a6 a7 a8)
    by_cases z : b = e
    · subst z; exact ⟨_, a5⟩
    · by_cases z2 : b = T0
      · subst z2
        obtain ⟨sl, q⟩ := a3 b _ slf z
        exact ⟨_, q⟩
      · obtain ⟨sl, q⟩ := a3 b o ((oth b z2).trans q1) z
        exact ⟨_, q⟩
theorem note_new {base : Heap} {env : Env} {outer : List Env} {L e : Addr} {cls : Value} {d : Option Addr × Bool} {tb : Option Addr} {Q : Unit → Shared → Prop}
    (hfr : A.frames = some (env :: outer)) (hl : s.heap.FunFrames base (env :: outer)) (hf : env.frame = some L) (F : Flies s.heap e cls d tb .none)
    (k : ∀ (h' : Heap) (T : Addr), Noted s.heap h' (e :: tb.toList) (frs (env :: outer)) → s.heap.objs.size ≤ T → Flies h' e cls d (some T) (rawInt L) → Q () { s with heap := h' }) :
    wpAny M A (noteFrame (.ref e) env) Q E s :=
  note_any hfr hl hf F (by simp [rawInt]) k
theorem note_held {env : Env} {L e : Addr} {cls : Value} {d : Option Addr × Bool} {tb : Option Addr} {Q : Unit → Shared → Prop} (hf : env.frame = some L) (F : Flies s.heap e cls d tb (rawInt L)) (ht : tb.isSome = true) (k : Q () s) :
    wpAny M A (noteFrame (.ref e) env) Q E s := by
  obtain ⟨oe, vs, he, hc, hdx, hd, h1, hz, h2, hT⟩ := F
  cases tb with
  | none => cases ht
  | some T =>
    obtain ⟨_, oT, ws, t1, t2, t3⟩ := hT T rfl
    exact wpAny_noteFrame_inFlight hf he hd h1 t1 t2 t3 k
theorem flight_off {e T : Addr} {cls : Value} {d : Option Addr × Bool} {fl : Value} {Q : Unit → Shared → Prop} (F : Flies s.heap e cls d (some T) fl)
    (k : ∀ h', Noted s.heap h' [T] [] → Flies h' e cls d (some T) .none → Q () { s with heap := h' }) : wpAny M A (setFlight (.ref e) none) Q E s := by
  obtain ⟨oe, vs, he, hc, hdx, hd, h1, hz, h2, hT⟩ := F
  obtain ⟨hne, oT, ws, t1, t2, t3⟩ := hT T rfl
  have h3 : 3 < ws.size := (Array.getElem?_eq_some_iff.mp t3).1
  refine wpAny_setFlight_none he hd h1 t1 t2 h3 (k _ ⟨fun b o q _ n => ?_, fun b o q n => ⟨o.slots, ?_⟩, fun b o q => ?_⟩ ?_)
  · rw [Heap.get?_update_other _ _ (fun z => n (by simp [z]))]; exact q
  · rw [Heap.get?_update_other _ _ (fun z => n (by simp [z]))]; exact q
  · by_cases z : b = T
    · subst z; exact ⟨_, Heap.get?_update_self _ t1 (Obj.isFreed_of_fields (Obj.data_mapFields t2 _))⟩
    · exact ⟨o, by rw [Heap.get?_update_other _ _ (Ne.symm z)]; exact q⟩
  · refine ⟨oe, vs, ?_, hc, hdx, hd, h1, hz, h2.stay fun v o ws hv q1 q2 => ?_, fun T' eT => ?_⟩
    · rw [Heap.get?_update_other _ _ hne]; exact he
    · by_cases z : v = T
      · subst z
        rw [t1] at q1
        cases q1
        exact ⟨_, _, Heap.get?_update_self _ t1 (Obj.isFreed_of_fields (Obj.data_mapFields t2 _)), Obj.data_mapFields q2 _, by rw [Array.getElem?_setIfInBounds_ne (by decide)]⟩
      · exact ⟨o, ws, by rw [Heap.get?_update_other _ _ (Ne.symm z)]; exact q1, q2, rfl⟩
    · cases eT
      exact ⟨hne, _, _, Heap.get?_update_self _ t1 (Obj.isFreed_of_fields (Obj.data_mapFields t2 _)), Obj.data_mapFields t2 _, by simp [h3]⟩
end

section
variable {X : Cx} {pins : List (Addr × Obj)} {σ : St} {H H' : Hp} {s s' : Shared}
/-- a record that may turn -/
def Ch (X : Cx) (pins : List (Addr × Obj)) (b : Addr) : Prop := (b ∈ X.ex ∨ X.s₀.heap.get? b = none) ∧ b ≠ X.env.locals ∧ (∀ x c, X.env.cells.lookup x = some c → c ≠ b) ∧ ∀ p ∈ X.pn ++ pins, p.1 ≠ b
theorem Inv.ch (I : Inv X pins σ H s) {b : Addr} (h : s.heap.get? b = none) : Ch X pins b := by
  refine ⟨?_, fun z => ?_, fun x c q z => ?_, fun p hp z => ?_⟩
  · by_cases hx : b ∈ X.ex
    · exact .inl hx
    · refine .inr ?_
      cases q : X.s₀.heap.get? b with
      | none => rfl
      | some o =>
        obtain ⟨o', q'⟩ := I.base.there b o q hx
        rw [h] at q'; cases q'
  · obtain ⟨_, ⟨o, _, _, ho, _⟩, _⟩ := I.loc
    rw [← z, h] at ho; cases ho
  · obtain ⟨_, o, ho, _⟩ := I.cell x c q
    rw [z, h] at ho; cases ho
  · have := (I.pin p hp).1
    rw [z, h] at this; cases this
/-- behind a note -/
theorem Inv.noted {ch : List Addr} {h' : Heap} (I : Inv X pins σ H s) (N : Noted s.heap h' ch (frs X.stack)) (hc : ∀ b ∈ ch, H b = none ∧ Ch X pins b) : Inv X pins σ H { s with heap := h' } := by
  have trk : ∀ b u, H b = some u → b ∉ frs X.stack ∧ b ∉ ch := fun b u e => ⟨(fun z => by rw [I.stkFree b z] at e; cases e), (fun z => by rw [(hc b z).1] at e; cases e)⟩
  refine I.call (g' := s.gens) (d' := s.drawn) (t' := s.toks) (ch := ch) (h' := h') ⟨fun b o e _ hb hx => N.keep b o e hb hx, fun b o e _ _ hx => N.slot b o e hx, fun _ _ _ n _ => n, fun b o e _ => N.there b o e, fun _ _ e => e, fun _ _ _ e => e, fun b ps e => ⟨#[], by rw [e]; simp⟩⟩ ?_ I.bare fun b hb => (hc b hb).2
  intro b u e
  refine (I.hok b u e).stay (fun c v hcv q => ?_) (fun _ q => q) fun _ _ q => q
  rcases hcv with z | z
  · subst z; exact N.keep c v q (trk c u e).1 (trk c u e).2
  · exact N.keep c v q (trk c _ z).1 (trk c _ z).2

/-- an exception has come up at a state of this code -/
def XAt (X : Cx) (pins : List (Addr × Obj)) (σ : St) (H : Hp) (s : Shared) (e : Addr) (cls : Value) (d : Option Addr × Bool) : Prop :=
  Inv X pins σ H s ∧ ∃ tb fl, Flies s.heap e cls d tb fl ∧ (fl = .none ∨ (fl = rawInt X.env.locals ∧ tb.isSome = true)) ∧ ∀ b ∈ e :: tb.toList, H b = none ∧ Ch X pins b
/-- what is wanted of an exception, by the names' values, its class, its dict, the abstract heap -/
def XOk (X : Cx) (Kx : St → XK) : Prop := ∀ (pins : List (Addr × Obj)) (σ : St) (H : Hp) (s : Shared) (e : Addr) (cls : Value) (d : Option Addr × Bool), XAt X pins σ H s e cls d → Kx σ cls d H → X.xe (.ref e) s
theorem Inv.flown {E : XK} {x : Value} (I : Inv X pins σ H s) (c : CX1 X.prog X.w X.stack H s E x s') : ∃ e cls d H', x = .ref e ∧ XAt X pins σ H' s' e cls d ∧ E cls d H' := by
  obtain ⟨e, tb, cls, d, H', rfl, os, bare, un, hok, F, ch, q⟩ := c
  have I' : Inv X pins σ H' s' := I.call' (ch := []) os un hok bare fun b z => absurd z (by simp)
  exact ⟨e, cls, d, H', rfl, ⟨I', tb, .none, F, .inl rfl, fun b hb => ⟨(ch b hb).1, I.ch (ch b hb).2⟩⟩, q⟩
/-- the frame is noted -/
theorem XAt.note {M : Model} {E : Value → Shared → Prop} {e : Addr} {cls : Value} {d : Option Addr × Bool} {Q : Unit → Shared → Prop} (x : XAt X pins σ H s e cls d) (hst : X.stack = X.env :: X.outer) (hf : X.env.frame = some X.env.locals)
    (k : ∀ s' T, Inv X pins σ H s' → Flies s'.heap e cls d (some T) (rawInt X.env.locals) → (∀ b ∈ [e, T], H b = none ∧ Ch X pins b) → Q () s') : wpAny M X.A (noteFrame (.ref e) X.env) Q E s := by
  obtain ⟨I, tb, fl, F, hfl, ch⟩ := x
  rcases hfl with z | ⟨z, ht⟩
  · subst z
    have hl := I.stack
    rw [hst] at hl
    refine note_new (base := X.base) (I.ok.frames.trans (by rw [hst])) hl hf F fun h' T N hT F' => k _ T (I.noted (by rw [hst]; exact N) ch) F' fun b hb => ?_
    rcases List.mem_cons.mp hb with z | z
    · subst z; exact ch _ List.mem_cons_self
    · have z' : b = T := by simpa using z
      subst z'
      exact ⟨I.hok.fresh hT, I.ch (Heap.get?_none_of_le hT)⟩
  · subst z
    cases tb with
    | none => cases ht
    | some T => exact note_held hf F rfl (k s T I F ch)
theorem Inv.off {M : Model} {E : Value → Shared → Prop} {e T : Addr} {cls : Value} {d : Option Addr × Bool} {fl : Value} {Q : Unit → Shared → Prop} (I : Inv X pins σ H s) (F : Flies s.heap e cls d (some T) fl) (hc : ∀ b ∈ [e, T], H b = none ∧ Ch X pins b)
    (k : ∀ s', Inv X pins σ H s' → Flies s'.heap e cls d (some T) .none → Q () s') {A : Around} : wpAny M A (setFlight (.ref e) none) Q E s := by
  refine flight_off F fun h' N F' => k _ (I.noted (ch := [T]) ⟨fun b o q _ n => N.keep b o q (by simp) n, N.slot, N.there⟩ fun b hb => ?_) F'
  have z : b = T := by simpa using hb
  subst z
  exact hc b (by simp)
end

/-- an exception leaves a def's body -/
theorem xok_fn {cc : Bool} {P : Program} {w : World} {K : PySem.W.Frag} {mg : Str → Option Value} {base : Heap} {N : List Str} {qual : Str} {scope : Scope} {f : Addr} {cd : Value} {A : Around} {outer : List Env} {s₀ : Shared} {H₀ : Hp} {E : XK} :
    XOk (cxOf cc (CX1 P w) P w K mg base N qual scope f cd A outer s₀ H₀ E) (fun _ => E) := by
  intro pins σ H s e cls d x q
  show wpAny _ _ (leaving _ _) _ _ s
  unfold leaving
  refine wpAny_bind (x.note rfl rfl fun s1 T I1 F1 c1 => ?_)
  refine I1.off F1 c1 fun s2 I2 F2 => ?_
  refine ⟨e, some T, cls, d, H, rfl, I2.os, I2.bare, I2.base, I2.hok, F2, fun b hb => ?_, q⟩
  have z := c1 b (by simpa using hb)
  refine ⟨z.1, ?_⟩
  rcases z.2.1 with y | y
  · exact absurd (show b ∈ ([] : List Addr) from y) (by simp)
  · exact y
theorem passes_fn {cc : Bool} {P : Program} {w : World} {K : PySem.W.Frag} {mg : Str → Option Value} {base : Heap} {N : List Str} {qual : Str} {scope : Scope} {f : Addr} {cd : Value} {A : Around} {outer : List Env} {s₀ : Shared} {H₀ : Hp} {E : XK} :
    PassesOwn (model P w) (A.deeper (envOfC qual scope s₀.heap.objs.size f cd)) (envOfC qual scope s₀.heap.objs.size f cd) (cxOf cc (CX1 P w) P w K mg base N qual scope f cd A outer s₀ H₀ E).xe := PassesOwn.leaving

/-! ### calls -/
section
variable {X : Cx} {Kx : St → XK} {cc : Bool} {k k' : Nat} {f C : Addr} {fd : FuncData} {ps : List Str} {sp : Sp} {x m : Str} {p pos apos : Pos} {e o : Expr} {es : List Expr} {σ : St} {H : Hp} {Q : VK}
theorem run_fnX {pins : List (Addr × Obj)} {s : Shared} {us : List Value} {vs : List V} (F : FnOk X.prog X.w X.K X.mg X.base (CX1 X.prog X.w) cc k f fd ps sp) (hr : Room cc k X.A) (hb : Binds X.K fd ps []) (hx : XOk X Kx)
    (I : Inv X pins σ H s) (r : Vals vs us) (h : sp vs H Q (Kx σ)) : wpAny (model X.prog X.w) X.A (call (.ref f) us) (EP X pins σ Q) X.xe s := by
  have hl : us.length = ps.length := by rw [← r.length]; exact F.len _ _ _ _ h
  have hb' := hb s us I.kIn (by simpa using hl)
  rw [List.append_nil] at hb'
  refine wpAny_call (codeAny_mono (F.run X.A X.stack s H ⟨us, []⟩ us vs Q (Kx σ) hr I.env0 hb' r h) fun r s' hq => ?_)
  cases r with
  | error e =>
    obtain ⟨a, cls, d, H', rfl, xa, q⟩ := I.flown hq
    exact hx pins σ H' s' a cls d xa q
  | ok fl =>
    cases fl with
    | ret u => exact I.after hq
    | next => exact False.elim hq
    | brk => exact False.elim hq
    | cont => exact False.elim hq
end
end L2

/-! SX: running a def's body forward, over the hand layer: one judgement for each kind of text, at one state. -/
namespace L2
open PySem PySem.Spec PyProof.Rows

/-! ### the judgements at a state -/
def EV (X : Cx) (e : Expr) (σ : St) (H : Hp) (Q : VK) : Prop :=
  ∀ (pins : List (Addr × Obj)) (s : Shared), Inv X pins σ H s → wpAny (model X.prog X.w) X.A (eval e X.env) (EP X pins σ Q) X.xe s
def ET (X : Cx) (e : Expr) (σ : St) (H : Hp) (Q : Bool → Hp → Prop) : Prop :=
  ∀ (pins : List (Addr × Obj)) (s : Shared), Inv X pins σ H s → wpAny (model X.prog X.w) X.A (isTrue e X.env (eval e X.env)) (TP X pins σ Q) X.xe s
def EW (X : Cx) (e : Expr) (σ : St) (H : Hp) (Q : Bool → Hp → Prop) : Prop :=
  ∀ (whole : Sem Value) (pins : List (Addr × Obj)) (s : Shared), Inv X pins σ H s → wpAny (model X.prog X.w) X.A (isTrue e X.env whole) (TP X pins σ Q) X.xe s
def EA (X : Cx) (es : List Expr) (σ : St) (H : Hp) (Q : List V → Hp → Prop) : Prop :=
  ∀ (pos : Pos) (pins : List (Addr × Obj)) (s : Shared), Inv X pins σ H s → wpAny (model X.prog X.w) X.A (spliced (backTo pos (starEach es X.env))) (AP X pins σ Q) X.xe s
def EO (X : Cx) (e : Option Expr) (σ : St) (H : Hp) (Q : Option Int → Hp → Prop) : Prop := ∃ t, PO X e t ∧ t σ H Q
def SX (X : Cx) (st : Stmt) (D : Ends) (σ : St) (H : Hp) : Prop :=
  ∀ (pins : List (Addr × Obj)) (s : Shared), Inv X pins σ H s → wpAny (model X.prog X.w) X.A (exec st X.env) (SP X pins D) X.xe s
def SXs (X : Cx) (st : List Stmt) (D : Ends) (σ : St) (H : Hp) : Prop :=
  ∀ (pins : List (Addr × Obj)) (s : Shared), Inv X pins σ H s → wpAny (model X.prog X.w) X.A (execs st X.env) (SP X pins D) X.xe s
def EG (X : Cx) (tg : Expr) (v : V) (σ : St) (H : Hp) (Q : St → Hp → Prop) : Prop :=
  ∀ (pins : List (Addr × Obj)) (s : Shared) (u : Value), Inv X pins σ H s → RelV v u → wpAny (model X.prog X.w) X.A (assign tg X.env u) (fun _ s' => ∃ σ' H', Inv X pins σ' H' s' ∧ Q σ' H') X.xe s
def EGs (X : Cx) (ts : List Expr) (vs : List V) (σ : St) (H : Hp) (Q : St → Hp → Prop) : Prop :=
  ∀ (pins : List (Addr × Obj)) (s : Shared) (us : List Value), Inv X pins σ H s → Vals vs us → wpAny (model X.prog X.w) X.A (assignInOrder ((assignEach ts X.env).map (·.2)) us) (fun _ s' => ∃ σ' H', Inv X pins σ' H' s' ∧ Q σ' H') X.xe s
def EI (X : Cx) (tg iter : Expr) (σ : St) (H : Hp) (R : It → Hp → Prop) : Prop :=
  ∀ (pins : List (Addr × Obj)) (s : Shared), Inv X pins σ H s →
    wpAny (model X.prog X.w) X.A (eval iter X.env) (fun v s1 => wpAny (model X.prog X.w) X.A (pyIter v) (PIE X pins σ tg R) X.xe s1) X.xe s
/-- a two-place operation on values -/
def OP (X : Cx) (f : Value → Value → Sem Value) (x y : V) (H : Hp) (Q : VK) : Prop := ∃ r, OpR X f r ∧ r x y H Q
def UN (X : Cx) (f : Value → Sem Value) (x : V) (H : Hp) (Q : VK) : Prop := ∃ r, UnR X f r ∧ r x H Q
def CL (X : Cx) (f : Value) (xs : List V) (H : Hp) (Q : VK) : Prop := ∃ r, CallR X f r ∧ r xs H Q
def IX (X : Cx) (x y : V) (H : Hp) (Q : VK) : Prop := ∃ r, IxR X r ∧ r x y H Q
def SL (X : Cx) (x : V) (lo hi : Option Int) (H : Hp) (Q : VK) : Prop := ∃ r, SlR X r ∧ r x lo hi H Q
def MT (X : Cx) (id : String) (x : V) (xs : List V) (H : Hp) (Q : VK) : Prop := ∃ r, MtR X id r ∧ r x xs H Q

section
variable {X : Cx} {a b c e : Expr} {es : List Expr} {σ : St} {H : Hp} {Q : VK} {QT : Bool → Hp → Prop} {QA : List V → Hp → Prop} {D : Ends} {pos p apos : Pos} {x : Str} {v : V}
theorem pe_self : PE X e (EV X e) := fun pins s _ _ _ I h => h pins s I
theorem pt_self : PT X e (ET X e) := fun pins s _ _ _ I h => h pins s I
theorem pw_self : PW X e (EW X e) := fun whole pins s _ _ _ I h => h whole pins s I
theorem pa_self : PA X es (EA X es) := fun pos pins s _ _ _ I h => h pos pins s I
theorem po_self {o : Option Expr} : PO X o (EO X o) := fun pins s σ H Q I ⟨_, h, q⟩ => h pins s σ H Q I q
theorem ps_self {st : Stmt} : PS X st (SX X st) := fun pins s _ _ _ I h => h pins s I
theorem pss_self {st : List Stmt} : PSs X st (SXs X st) := fun pins s _ _ _ I h => h pins s I
theorem pg_self {tg : Expr} : PG X tg (EG X tg) := fun pins s _ _ _ u _ I r h => h pins s u I r
theorem pgs_self {ts : List Expr} : PGs X ts (EGs X ts) := fun pins s _ _ _ us _ I r h => h pins s us I r
theorem pi_self {tg iter : Expr} : PI X tg iter (EI X tg iter) := fun pins s _ _ _ I h => h pins s I
theorem op_self {f : Value → Value → Sem Value} : OpR X f (OP X f) := fun pins s σ H x y v u Q I rx ry ⟨_, h, q⟩ => h pins s σ H x y v u Q I rx ry q
theorem un_self {f : Value → Sem Value} : UnR X f (UN X f) := fun pins s σ H x v Q I rx ⟨_, h, q⟩ => h pins s σ H x v Q I rx q
theorem cl_self {f : Value} : CallR X f (CL X f) := fun pins s σ H xs us Q I rx ⟨_, h, q⟩ => h pins s σ H xs us Q I rx q
theorem ix_self : IxR X (IX X) := fun va sl pins s σ H x y v u Q I rx ry ⟨_, h, q⟩ hs => h va sl pins s σ H x y v u Q I rx ry q hs
theorem sl_self : SlR X (SL X) := fun pins s σ H x v vl vu lo hi sl Q I rx hs pl pu ⟨_, h, q⟩ => h pins s σ H x v vl vu lo hi sl Q I rx hs pl pu q
theorem mt_self {id : String} : MtR X id (MT X id) := fun pins s σ H x xs v us Q I rx rs ⟨_, h, q⟩ => h pins s σ H x xs v us Q I rx rs q

theorem ev_of {t : TE} (h : PE X e t) (q : t σ H Q) : EV X e σ H Q := fun pins s I => h pins s σ H Q I q
theorem et_of {t : TT} (h : PT X e t) (q : t σ H QT) : ET X e σ H QT := fun pins s I => h pins s σ H QT I q
theorem ea_of {t : TA} (h : PA X es t) (q : t σ H QA) : EA X es σ H QA := fun pos pins s I => h pos pins s σ H QA I q
theorem sx_of {st : Stmt} {t : TS} (h : PS X st t) (q : t D σ H) : SX X st D σ H := fun pins s I => h pins s σ H D I q
theorem sxs_of {st : List Stmt} {t : TS} (h : PSs X st t) (q : t D σ H) : SXs X st D σ H := fun pins s I => h pins s σ H D I q
theorem eg_of {tg : Expr} {t : TG} {QG : St → Hp → Prop} (h : PG X tg t) (q : t v σ H QG) : EG X tg v σ H QG := fun pins s u I r => h pins s σ H v u QG I r q
theorem egs_of {ts : List Expr} {t : TGs} {vs : List V} {QG : St → Hp → Prop} (h : PGs X ts t) (q : t vs σ H QG) : EGs X ts vs σ H QG := fun pins s us I r => h pins s σ H vs us QG I r q
theorem ei_of {tg iter : Expr} {t : TI} {R : It → Hp → Prop} (h : PI X tg iter t) (q : t σ H R) : EI X tg iter σ H R := fun pins s I => h pins s σ H R I q

/-! ### names and constants -/
/-- the value that a name has -/
def nameV : List Str → St → Str → Option V
  | n :: N, o :: σ, x => if n = x then o else nameV N σ x
  | _, _, _ => none
theorem nameV_get : ∀ {N : List Str} {σ : St} {x : Str} {v : V}, nameV N σ x = some v → ∃ i : Nat, N[i]? = some x ∧ σ[i]? = some (some v)
  | n :: N, o :: σ, x, v, h => by
    unfold nameV at h
    split at h
    · rename_i e
      exact ⟨0, by simp [e], by simp [h]⟩
    · obtain ⟨i, h1, h2⟩ := nameV_get h
      exact ⟨i + 1, by simpa using h1, by simpa using h2⟩
  | [], _, _, _, h => by simp [nameV] at h
  | _ :: _, [], _, _, h => by simp [nameV] at h
def nameAt : List Str → Str → Option Nat
  | n :: N, x => if n = x then some 0 else (nameAt N x).map (· + 1)
  | [], _ => none
theorem nameAt_get : ∀ {N : List Str} {x : Str} {i : Nat}, nameAt N x = some i → N[i]? = some x
  | n :: N, x, i, h => by
    unfold nameAt at h
    split at h
    · rename_i e
      cases h
      simp [e]
    · cases q : nameAt N x with
      | none => rw [q] at h; cases h
      | some j =>
        rw [q] at h
        cases h
        simpa using nameAt_get q
  | [], _, _, h => by simp [nameAt] at h
theorem ev_name (hn : nameV X.N σ x = some v) (hv : Vis X.env.scope x) (q : Q v H) (hd : (x == ("__debug__" : Str)) = false) (hcd : (x == ("__classdict__" : Str)) = false) : EV X (.Name x pos) σ H Q := by
  obtain ⟨i, h1, h2⟩ := nameV_get hn
  exact ev_of (pe_var h1 hv hd hcd) ⟨v, h2, q⟩
/-- a global constant -/
def Gc (mg : Str → Option Value) (x : Str) (v : V) : Prop := ∃ u, mg x = some u ∧ RelV v u
theorem ev_gc (g : Gc X.mg x v) (hg : Gl X x) (q : Q v H) (hd : (x == ("__debug__" : Str)) = false) : EV X (.Name x pos) σ H Q := by
  obtain ⟨u, h1, h2⟩ := g
  exact ev_of (pe_glob hg h1 h2 hd) q
theorem ev_ty {T : String} (hg : Gl X x) (hm : X.mg x = none) (hv : bootBuiltins x = some (.type T)) (q : Q (.ty T) H) (hn : x ≠ "__name__") (hd : (x == ("__debug__" : Str)) = false) : EV X (.Name x pos) σ H Q :=
  ev_of (pe_bltn hg hm hv (v := .ty T) rfl hn hd) q
theorem ev_int {i : Int} {j} (q : Q (.int i) H) : EV X (.Constant (.int i) j pos) σ H Q := ev_of pe_int q
theorem ev_non {j} (q : Q .non H) : EV X (.Constant .none j pos) σ H Q := ev_of pe_non q
theorem ev_str {i : Str} {j} (q : Q (.str i) H) : EV X (.Constant (.str i) j pos) σ H Q := ev_of pe_str q

/-! ### operators -/
theorem ev_bin {op : Operator} (h : EV X a σ H fun x H1 => EV X b σ H1 fun y H2 => OP X (binaryOp op) x y H2 Q) : EV X (.BinOp a op b pos) σ H Q := ev_of (pe_op op_self pe_self pe_self) h
theorem ev_un {op : UnaryOp} (h : EV X a σ H fun x H1 => UN X (unaryOp op) x H1 Q) : EV X (.UnaryOp op a pos) σ H Q := ev_of (pe_un un_self pe_self) h
theorem ev_cmp {op : CmpOp} (hm : behindInMarks op b = false) (h : EV X a σ H fun x H1 => EV X b σ H1 fun y H2 => OP X (compareOp op) x y H2 Q) : EV X (.Compare a [op] [b] pos) σ H Q := ev_of (pe_cmpR op_self pe_self pe_self hm) h
theorem et_cmp {op : CmpOp} (hm : behindInMarks op b = false) (h : EV X a σ H fun x H1 => EV X b σ H1 fun y H2 => OP X (compareOp op) x y H2 fun z H3 => ∃ k, z = .bl k ∧ QT k H3) : ET X (.Compare a [op] [b] pos) σ H QT := et_of (pt_cmpR op_self pe_self pe_self hm) h
/-! ### truth -/
theorem et_val (he : ∀ whole, isTrue e X.env whole = (do let v ← whole; standAt e.pos; holding [v] (truthy v))) (h : EV X e σ H fun x H' => ∃ k, TruV X.K x H' k ∧ QT k H') : ET X e σ H QT := et_of (pt_truth pe_self he) h
theorem et_w (h : EW X e σ H QT) : ET X e σ H QT := et_of pw_self.pt h
theorem ew_of {t : TT} (h : PW X e t) (q : t σ H QT) : EW X e σ H QT := fun whole pins s I => h whole pins s σ H QT I q
theorem ew_and {rest : List Expr} (h : ET X a σ H fun k H1 => if k = true then EW X (.BoolOp .And (b :: rest) pos) σ H1 QT else QT false H1) : EW X (.BoolOp .And (a :: b :: rest) pos) σ H QT := ew_of (pw_and pt_self pw_self) h
theorem ew_or {rest : List Expr} (h : ET X a σ H fun k H1 => if k = true then QT true H1 else EW X (.BoolOp .Or (b :: rest) pos) σ H1 QT) : EW X (.BoolOp .Or (a :: b :: rest) pos) σ H QT := ew_of (pw_or pt_self pw_self) h
theorem ew_and1 (h : ET X a σ H QT) : EW X (.BoolOp .And [a] pos) σ H QT := ew_of (pw_and1 pt_self) h
theorem ew_or1 (h : ET X a σ H QT) : EW X (.BoolOp .Or [a] pos) σ H QT := ew_of (pw_or1 pt_self) h
theorem ev_one {op} (h : EV X a σ H Q) : EV X (.BoolOp op [a] pos) σ H Q := ev_of (pe_one pe_self) h
theorem ev_and {rest : List Expr} (h : EV X a σ H fun x H1 => ∃ k, x = .bl k ∧ if k = true then EV X (.BoolOp .And (b :: rest) pos) σ H1 Q else Q (.bl false) H1) : EV X (.BoolOp .And (a :: b :: rest) pos) σ H Q := ev_of (pe_and pe_self pe_self) h
theorem ev_or {rest : List Expr} (h : EV X a σ H fun x H1 => ∃ k, x = .bl k ∧ if k = true then Q (.bl true) H1 else EV X (.BoolOp .Or (b :: rest) pos) σ H1 Q) : EV X (.BoolOp .Or (a :: b :: rest) pos) σ H Q := ev_of (pe_or pe_self pe_self) h
theorem ev_notV (h : EV X a σ H fun x H1 => ∃ k, x = .bl k ∧ Q (.bl (!k)) H1) : EV X (.UnaryOp .Not a pos) σ H Q := ev_of (pe_not pe_self) h
theorem ev_ifE (h : ET X c σ H fun k H1 => if k = true then EV X a σ H1 Q else EV X b σ H1 Q) : EV X (.IfExp c a b pos) σ H Q := ev_of (pe_ifExp pt_self pe_self pe_self) h
/-! ### arguments, displays, calls -/
theorem ea_nil (q : QA [] H) : EA X [] σ H QA := ea_of pa_nil q
theorem ea_cons (hs : starEach (e :: es) X.env = (false, eval e X.env) :: starEach es X.env) (h : EV X e σ H fun x H1 => EA X es σ H1 fun xs H2 => QA (x :: xs) H2) : EA X (e :: es) σ H QA := ea_of (pa_cons pe_self pa_self hs) h
theorem ev_tup {x1} (h : EA X es σ H fun xs H1 => xs.length ≤ sizeLine ∧ ∀ p, H1 p = none → Q (.ref p) (upd H1 p (.tup xs))) : EV X (.Tuple es x1 pos) σ H Q := ev_of (pe_tup pa_self) h
theorem ev_lst (h : EA X es σ H fun xs H1 => xs.length ≤ sizeLine ∧ ∀ p, H1 p = none → Q (.ref p) (upd H1 p (.lst xs))) : EV X (.List es pos) σ H Q := ev_of (pe_lst pa_self) h
theorem ev_callB {id : String} (hg : Gl X x) (hm : X.mg x = none) (hv : bootBuiltins x = some (.builtin id)) (hn : x ≠ "__name__") (hdb : (x == ("__debug__" : Str)) = false)
    (he : starEach (e :: es) X.env = (false, eval e X.env) :: starEach es X.env) (hpl : (backTo pos (starEach es X.env)).any (·.1) = false) (h : EA X (e :: es) σ H fun vs H1 => CL X (.builtin id) vs H1 Q) : EV X (.Call (.Name x p) (e :: es) [] pos) σ H Q :=
  ev_of (pe_callB cl_self hg hm hv pa_self hn hdb he hpl) h
theorem ev_callT {T : String} (hg : Gl X x) (hm : X.mg x = none) (hv : bootBuiltins x = some (.type T)) (hn : x ≠ "__name__") (hdb : (x == ("__debug__" : Str)) = false)
    (he : starEach (e :: es) X.env = (false, eval e X.env) :: starEach es X.env) (hpl : (backTo pos (starEach es X.env)).any (·.1) = false) (h : EA X (e :: es) σ H fun vs H1 => CL X (.type T) vs H1 Q) : EV X (.Call (.Name x p) (e :: es) [] pos) σ H Q :=
  ev_of (pe_callTy cl_self hg hm hv pa_self hn hdb he hpl) h
/-- a def of the text, with its promise; cc = false: it may be called within an except suite too -/
structure Def (P : Program) (w : World) (K : PySem.W.Frag) (mg : Str → Option Value) (base : Heap) (cc : Bool) (k : Nat) (x : Str) (ps : List Str) (sp : Sp) : Prop where
  ex : ∃ f fd, mg x = some (.ref f) ∧ PySem.W.keepIn K (.ref f) = true ∧ Binds K fd ps [] ∧ FnOk P w K mg base (CX1 P w) cc k f fd ps sp
theorem Room.calmer {cc cc' : Bool} {k : Nat} {A : Around} (r : Room cc k A) (h : cc' = true → cc = true) : Room cc' k A := ⟨fun z => r.hd (h z), r.dp, r.un⟩
theorem ev_call {Kx : St → XK} {cc cc' : Bool} {k k' : Nat} {ps : List Str} {sp : Sp} (F : Def X.prog X.w X.K X.mg X.base cc' k x ps sp) (hr : Room cc k' X.A) (hk : k ≤ k') (hcc : cc' = true → cc = true) (hg : Gl X x) (hx : XOk X Kx)
    (hdb : (x == ("__debug__" : Str)) = false) (he : starEach (e :: es) X.env = (false, eval e X.env) :: starEach es X.env) (hpl : (backTo pos (starEach es X.env)).any (·.1) = false)
    (h : EA X (e :: es) σ H fun vs H1 => sp vs H1 Q (Kx σ)) : EV X (.Call (.Name x p) (e :: es) [] pos) σ H Q := by
  obtain ⟨f, fd, h1, h2, h3, h4⟩ := F.ex
  intro pins s I
  refine wpAny_Call_Name_kw (ld_glob I hg h1 ?_ hdb)
  refine PySem.W.callWith_K (h₀ := X.base) I.ok.mod.kin h2 (thn (h pos pins s I) fun us s1 ⟨vs, H1, I1, r, q⟩ => ⟨I1.kIn, ?_⟩) he hpl
  exact run_fnX h4 ((hr.mono hk).calmer hcc) h3 hx I1 r q
/-! ### subscripts, methods of builtins -/
theorem ev_ix (hs : PlainIx b) (h : EV X a σ H fun x H1 => EV X b σ H1 fun y H2 => IX X x y H2 Q) : EV X (.Subscript a b pos) σ H Q := ev_of (pe_ix ix_self pe_self pe_self hs) h
theorem eo_none {QO : Option Int → Hp → Prop} (q : QO none H) : EO X none σ H QO := ⟨_, po_none, q⟩
theorem eo_some {QO : Option Int → Hp → Prop} (q : EV X e σ H fun x H1 => ∃ i, x = .int i ∧ QO (some i) H1) : EO X (some e) σ H QO := ⟨_, po_some pe_self, q⟩
theorem ev_sl {lo hi : Option Expr} {p2 : Pos} (h : EV X a σ H fun x H1 => EO X lo σ H1 fun l H2 => EO X hi σ H2 fun u H3 => SL X x l u H3 Q) : EV X (.Subscript a (.Slice lo hi none p2) pos) σ H Q := ev_of (pe_slice sl_self pe_self po_self po_self) h
theorem ev_bm {T id : String} {name : Str} (pa : PlainAttrs T) (slot : Slot T name id) (hty : typeOf (.builtin id) = pure (.type "method_descriptor"))
    (hbase : attributeBase a name X.env (eval a X.env) = eval a X.env)
    (hfew : ((backTo pos (starEach (e :: es) X.env)).all (fun x => !x.1) && (backToKw pos (keywordEach [] X.env)).all (fun x => x.1.isSome)
      && decide ((e :: es).length + ([] : List Keyword).length + (if ([] : List Keyword).isEmpty then 0 else 1) < 30)) = true)
    (hline : (apos.endLine == pos.line) = true) (hs : starEach (e :: es) X.env = (false, eval e X.env) :: starEach es X.env) (hplain : (backTo pos (starEach es X.env)).any (·.1) = false)
    (h : EV X a σ H fun x H1 => tyV X.K T x H1 ∧ EA X (e :: es) σ H1 fun xs H2 => MT X id x xs H2 Q) : EV X (.Call (.Attribute a name apos) (e :: es) [] pos) σ H Q :=
  ev_of (pe_bm pa slot hty mt_self pe_self pa_self hbase hfew hline hs hplain) h
theorem ev_bm0 {T id : String} {name : Str} (pa : PlainAttrs T) (slot : Slot T name id) (hty : typeOf (.builtin id) = pure (.type "method_descriptor"))
    (hbase : attributeBase a name X.env (eval a X.env) = eval a X.env) (hline : (apos.endLine == pos.line) = true)
    (h : EV X a σ H fun x H1 => tyV X.K T x H1 ∧ MT X id x [] H1 Q) : EV X (.Call (.Attribute a name apos) [] [] pos) σ H Q :=
  ev_of (pe_bm0 pa slot hty mt_self pe_self hbase hline) h

/-! ### statements -/
theorem sxs_nil (q : D.nx σ H) : SXs X [] D σ H := sxs_of pss_nil q
theorem sxs_cons {st : Stmt} {rest : List Stmt} (h : SX X st { D with nx := fun σ' H' => SXs X rest D σ' H' } σ H) : SXs X (st :: rest) D σ H := sxs_of (pss_cons ps_self pss_self) h
theorem sxs_one {st : Stmt} (h : SX X st D σ H) : SXs X [st] D σ H := sxs_of (pss_one ps_self) h
theorem sx_expr (hs : swapsWith e none pos.line X.env = pure false) (h : EV X e σ H fun _ H1 => D.nx σ H1) : SX X (.Expr e pos) D σ H := sx_of (ps_expr pe_self hs) h
theorem sx_ret (h : EV X e σ H D.rt) : SX X (.Return (some e) pos) D σ H := sx_of (ps_ret pe_self) h
theorem sx_if {t u : List Stmt} (h : ET X c σ H fun k H1 => if k = true then SXs X t D σ H1 else SXs X u D σ H1) : SX X (.If c t u pos) D σ H := sx_of (ps_if pt_self pss_self pss_self) h
theorem sx_set {i : Nat} {p' : Pos} (hN : X.N.Nodup) (hi : nameAt X.N x = some i) (hx : Loc X.env.scope x) (hs : swapsWith e (some (.Name x p')) pos.line X.env = pure false) (hf : X.fn x = true ∨ X.env.scope.names.lookup x = some .local)
    (h : EV X e σ H fun v H1 => D.nx (σ.set i (some v)) H1) : SX X (.Assign [.Name x p'] e pos) D σ H := sx_of (ps_set hN (nameAt_get hi) hx pe_self hs hf) h
theorem eg_name {i : Nat} {QG : St → Hp → Prop} (hN : X.N.Nodup) (hi : nameAt X.N x = some i) (hx : Loc X.env.scope x) (hf : X.fn x = true ∨ X.env.scope.names.lookup x = some .local) (q : QG (σ.set i (some v)) H) : EG X (.Name x pos) v σ H QG :=
  eg_of (pg_name hN (nameAt_get hi) hx hf) q
theorem egs_nil {QG : St → Hp → Prop} (q : QG σ H) : EGs X [] [] σ H QG := egs_of pgs_nil ⟨rfl, q⟩
theorem egs_cons {ts : List Expr} {vs : List V} {QG : St → Hp → Prop} (hs : (assignEach (e :: ts) X.env).map (·.2) = assign e X.env :: (assignEach ts X.env).map (·.2)) (h : EG X e v σ H fun σ' H' => EGs X ts vs σ' H' QG) : EGs X (e :: ts) (v :: vs) σ H QG :=
  egs_of (pgs_cons pg_self pgs_self hs) ⟨v, vs, rfl, h⟩
theorem eg_tup {n : Nat} {k : Nat} {QG : St → Hp → Prop} {q : Addr} {xs : List V} (hc : X.calm = true) (hn : (assignEach es X.env).length = n) (hst : (assignEach es X.env).findIdx? (·.1) = none)
    (ht : SqT X.K H q xs) (hl : xs.length = n) (h : EGs X es xs σ H QG) : EG X (.Tuple es k pos) (.ref q) σ H QG :=
  eg_of (pg_tup hc pgs_self hn hst) ⟨q, xs, rfl, ht, hl, h⟩
theorem sx_for {tg iter : Expr} {body : List Stmt} (hp : PassesOwn (model X.prog X.w) X.A X.env X.xe) (hc : X.calm = true) (hs : ∀ x, foldedSetIterable iter X.env x = pure x)
    (h : EI X tg iter σ H fun J H1 => ∃ W : Nat → Nat → St → Hp → Prop, (∃ m, W 0 m σ H1) ∧ ∀ i m σ H, W i m σ H →
      (J.stop i H ∧ D.nx σ H) ∨ (J.go i H ∧ ∃ N : St → Hp → Prop, (∀ σ' H', N σ' H' → ∃ m', m' < m ∧ W (i + 1) m' σ' H') ∧ ∀ x H', J.yld i H x H' → EG X tg x σ H' fun σ2 H2 => SXs X body { D with nx := N, ct := N, bk := D.nx } σ2 H2)) :
    SX X (.For tg iter body [] pos) D σ H := sx_of (ps_for hp hc pi_self pg_self pss_self hs) h
theorem ei_list {tg l : Expr} {R : It → Hp → Prop} (h : EV X l σ H fun x H1 => ∃ a, x = .ref a ∧ (∃ xs, SqL X.K H1 a xs) ∧ R (Itl X.K a) H1) : EI X tg l σ H R := ei_of (pi_list pe_self) h
theorem ei_range1 {tg : Expr} {R : It → Hp → Prop} (hg : Gl X "range") (hm : X.mg "range" = none) (hs : starEach [a] X.env = [(false, eval a X.env)])
    (h : EA X [a] σ H fun vs H1 => ∃ j : Int, vs = [.int j] ∧ -(2 ^ 62) ≤ j ∧ j < 2 ^ 62 ∧ R (Itr 0 j.toNat) H1) : EI X tg (.Call (.Name "range" p) [a] [] pos) σ H R := ei_of (pi_range1 hg hm pa_self hs) h
theorem ev_mono {Q' : VK} (h : EV X e σ H Q) (m : ∀ v H', Q v H' → Q' v H') : EV X e σ H Q' := fun pins s I => thn (h pins s I) fun _ _ ⟨v, H', I', r, q⟩ => ⟨v, H', I', r, m v H' q⟩
/-! ### the operations, by the values' kinds -/
theorem op_by {f : Value → Value → Sem Value} {r : R2} {y z : V} (h : OpR X f r) (q : r y z H Q) : OP X f y z H Q := ⟨r, h, q⟩
variable {i j : Int} {k k' : Bool} {z z' : Str}
theorem o_add (q : Q (.int (i + j)) H) : OP X (binaryOp .Add) (.int i) (.int j) H Q := op_by op_add ⟨i, j, rfl, rfl, q⟩
theorem o_sub (q : Q (.int (i - j)) H) : OP X (binaryOp .Sub) (.int i) (.int j) H Q := op_by op_sub ⟨i, j, rfl, rfl, q⟩
theorem o_mul (c : CMul i j) (q : Q (.int (i * j)) H) : OP X (binaryOp .Mult) (.int i) (.int j) H Q := op_by op_mul ⟨i, j, rfl, rfl, c, q⟩
theorem o_mod (c : 0 < j) (q : Q (.int (i % j)) H) : OP X (binaryOp .Mod) (.int i) (.int j) H Q := op_by op_mod ⟨i, j, rfl, rfl, c, q⟩
theorem o_pow (c : CPow i j) (q : Q (.int (i ^ j.toNat)) H) : OP X (binaryOp .Pow) (.int i) (.int j) H Q := op_by op_pow ⟨i, j, rfl, rfl, c, q⟩
theorem o_lt (q : Q (.bl (decide (i < j))) H) : OP X (compareOp .Lt) (.int i) (.int j) H Q := op_by op_lt ⟨i, j, rfl, rfl, q⟩
theorem o_le (q : Q (.bl (decide (i ≤ j))) H) : OP X (compareOp .LtE) (.int i) (.int j) H Q := op_by op_le ⟨i, j, rfl, rfl, q⟩
theorem o_gt (q : Q (.bl (decide (j < i))) H) : OP X (compareOp .Gt) (.int i) (.int j) H Q := op_by op_gt ⟨i, j, rfl, rfl, q⟩
theorem o_ge (q : Q (.bl (decide (j ≤ i))) H) : OP X (compareOp .GtE) (.int i) (.int j) H Q := op_by op_ge ⟨i, j, rfl, rfl, q⟩
theorem o_eq {y z : V} (s : scal y z = true) (q : Q (.bl (decide (y = z))) H) : OP X (compareOp .Eq) y z H Q := op_by op_eq ⟨s, q⟩
theorem o_ne {y z : V} (s : scal y z = true) (q : Q (.bl (!decide (y = z))) H) : OP X (compareOp .NotEq) y z H Q := op_by op_ne ⟨s, q⟩
theorem o_inS (q : Q (.bl (!(Builtin.Str.occurrences z' z 0 z'.length 1).isEmpty)) H) : OP X (compareOp .In) (.str z) (.str z') H Q := op_by op_in_str ⟨z, z', rfl, rfl, q⟩
theorem o_isN {y : V} (q : Q (.bl (decide (y = .non))) H) : OP X (compareOp .Is) y .non H Q := op_by op_isN ⟨rfl, q⟩
theorem o_addS (c : z.length + z'.length ≤ sizeLine) (q : Q (.str (z ++ z')) H) : OP X (binaryOp .Add) (.str z) (.str z') H Q := op_by op_add_str ⟨z, z', rfl, rfl, c, q⟩
theorem u_neg (q : Q (.int (-i)) H) : UN X (unaryOp .USub) (.int i) H Q := ⟨_, un_neg, i, rfl, q⟩
theorem cl_by {f : Value} {r : List V → Hp → VK → Prop} {vs : List V} (h : CallR X f r) (q : r vs H Q) : CL X f vs H Q := ⟨r, h, q⟩
theorem c_len {q : Addr} {ys : List V} (h : SqL X.K H q ys ∨ SqT X.K H q ys) (g : Q (.int ys.length) H) : CL X (.builtin "len") [.ref q] H Q := cl_by call_len_seq ⟨q, ys, rfl, h, g⟩
theorem c_lenS (h : z.length ≤ sizeLine) (g : Q (.int z.length) H) : CL X (.builtin "len") [.str z] H Q := cl_by call_len_str ⟨z, rfl, h, g⟩
theorem c_max2 (hc : X.calm = true) (g : Q (.int (if j > i then j else i)) H) : CL X (.builtin "max") [.int i, .int j] H Q := cl_by (call_max2 hc) ⟨i, j, rfl, g⟩
theorem c_strI (h : i.natAbs.log2 < 1920) (g : Q (.str (toString i)) H) : CL X (.type "str") [.int i] H Q := cl_by call_str_int ⟨i, rfl, h, g⟩
theorem ix_by {r : R2} {y z : V} (h : IxR X r) (q : r y z H Q) : IX X y z H Q := ⟨r, h, q⟩
theorem i_list {q : Addr} {xs : List V} (h : SqL X.K H q xs) (e : atI xs i = some v) (g : Q v H) : IX X (.ref q) (.int i) H Q := ix_by ix_list ⟨q, xs, i, v, rfl, rfl, h, e, g⟩
theorem i_tup {q : Addr} {xs : List V} (h : SqT X.K H q xs) (e : atI xs i = some v) (g : Q v H) : IX X (.ref q) (.int i) H Q := ix_by ix_tup ⟨q, xs, i, v, rfl, rfl, h, e, g⟩
theorem i_str {n : Nat} (h : z.length ≤ sizeLine) (e : atI z.cps.toList i = some n) (g : Q (.str ⟨#[n]⟩) H) : IX X (.str z) (.int i) H Q := ix_by ix_str ⟨z, i, n, rfl, rfl, h, e, g⟩
theorem s_list {q : Addr} {xs : List V} {lo hi : Option Int} (h : SqL X.K H q xs) (g : ∀ p, H p = none → Q (.ref p) (upd H p (.lst (cutV xs lo hi)))) : SL X (.ref q) lo hi H Q := ⟨_, sl_list, q, xs, rfl, h, g⟩
theorem c_isinst {y : V} {t : Value} {T : String} (ty : TyOf X.K H y t) (e : PySem.W.kitOne X.K t (.type T) = some k) (g : Q (.bl k) H) : CL X (.builtin "isinstance") [y, .ty T] H Q := by
  refine ⟨fun xs H Q => ∃ y t T k, xs = [y, .ty T] ∧ TyOf X.K H y t ∧ PySem.W.kitOne X.K t (.type T) = some k ∧ Q (.bl k) H, ?_, y, t, T, k, rfl, ty, e, g⟩
  intro pins s σ H xs us Q I r h
  obtain ⟨y, t, T, k, rfl, ty, e, g⟩ := h
  obtain ⟨u1, u2, rfl, r1, r2⟩ := vals2 r
  cases (show u2 = Value.type T from r2)
  exact isinst_ok I r1 ty e fun tk => ⟨.bl k, H, I.tok tk, rfl, g⟩
end
end L2

namespace L2
open PySem PySem.Spec PyProof.Rows

/-! ### the signs of a text, walked -/
def Its (x : Str) : It := ⟨fun i _ => i < x.cps.size, fun i H v H' => H' = H ∧ ∃ c, x.cps[i]? = some c ∧ v = .str ⟨#[c]⟩, fun i _ => x.cps.size ≤ i⟩
theorem turn_str {P : Program} {w : World} {K : PySem.W.Frag} {tg : Expr} {T : String} (hT : T = "str_ascii_iterator" ∨ T = "str_iterator") (it : Addr) (x : Str) (t : Tok) : Turn P w K tg (Its x) [it] it (fun i h => h.IsStrIter it T x t i) where
  mem := by simp
  obj := fun i h st b hb => by
    have e : b = it := by simpa using hb
    subst e
    obtain ⟨o, e, c, d⟩ := st
    exact ⟨o, e, fun v z => by rw [d] at z; cases z⟩
  keep := fun i h h' st k => by
    obtain ⟨o, e, c, d⟩ := st
    exact ⟨o, k it (by simp) o e, c, d⟩
  item := by
    intro X hP hw hK hc i pins s σ H E I hf st hg
    subst hP hw hK
    obtain ⟨f0, f1, f2, f3, f4, f5⟩ := hf it (by simp)
    have hg' : i < x.cps.size := hg
    have hW : ∃ W : Nat → Heap → Prop, Walks X.prog X.w X.A it [it] [it] x.cps.size (SignAt x) W ∧ W = fun i h => h.IsStrIter it T x t i := by
      rcases hT with rfl | rfl
      · exact ⟨_, Walks.strAscii (I.ok.hd hc) it x t, rfl⟩
      · exact ⟨_, Walks.strWide (I.ok.hd hc) it x t, rfl⟩
    obtain ⟨_, W, rfl⟩ := hW
    refine W.item i s _ _ hg' st fun v h' tk hv st' kk => ?_
    obtain ⟨c, u, e1, rfl⟩ := hv
    have I1 : Inv X pins σ H { s with heap := h', toks := tk } := I.turned (fun b o hb e => kk b o (by simpa using hb) e) f0 f1 f3 f4 f5
    obtain ⟨o, e, c', d⟩ := id st'
    refine ⟨_, rfl, go_of (s := { s with heap := h', toks := tk }) (n := T) e c' d (by rcases hT with rfl | rfl <;> decide) ⟨.str ⟨#[c]⟩, H, I1, ⟨u, rfl⟩, ⟨rfl, c, e1, rfl⟩, st', fun b hb => (hf b hb).1⟩⟩
  done := by
    intro X hP hw hK hc i pins s σ H E I hf st hg
    subst hP hw hK
    obtain ⟨f0, f1, f2, f3, f4, f5⟩ := hf it (by simp)
    have hg' : x.cps[i]? = none := Array.getElem?_eq_none hg
    rcases hT with rfl | rfl
    · exact wpAny_pyNext_ascii_end (I.ok.hd hc) st hg' fun h' eb => ⟨rfl, I.turned (t' := s.toks) (fun b o hb e => eb b o hb e) f0 f1 f3 f4 f5⟩
    · exact wpAny_pyNext_wide_end (I.ok.hd hc) st hg' fun h' eb => ⟨rfl, I.turned (t' := s.toks) (fun b o hb e => eb b o hb e) f0 f1 f3 f4 f5⟩
  self := fun _ _ _ _ _ st h => by
    rcases hT with rfl | rfl
    · exact wpAny_pyIter_striter_ascii st h
    · exact wpAny_pyIter_striter_wide st h
section
variable {X : Cx} {tg l : Expr} {σ : St} {H : Hp} {R : It → Hp → Prop}
theorem ei_str (h : EV X l σ H fun x H1 => ∃ z, x = .str z ∧ R (Its z) H1) : EI X tg l σ H R := by
  intro pins s I
  refine thn (h pins s I) fun v s1 ⟨x, H1, I1, r1, z, e, q⟩ => ?_
  subst e
  obtain ⟨t, rfl⟩ := r1
  have fin : ∀ T : String, (T = "str_ascii_iterator" ∨ T = "str_iterator") →
      PIE X pins σ tg R (.ref s1.heap.objs.size) { s1 with heap := s1.heap.push { cls := .type T, data := .fields #[.str z t, .int 0 0] } } := fun T hT => by
    refine ⟨s1.heap.objs.size, [s1.heap.objs.size], _, _, H1, rfl, I1.kept (t' := s1.toks) fun b o e => Heap.get?_push_of_some _ e, turn_str hT _ z t, ⟨_, Heap.get?_push_size _ rfl, rfl, rfl⟩, fun b hb => ?_, q⟩
    have e : b = s1.heap.objs.size := by simpa using hb
    subst e
    exact I1.fpOk (Nat.le_refl _) (I1.hok.fresh (Nat.le_refl _))
  cases ha : z.cps.all (· < 128)
  · exact wpAny_pyIter_wide ha (fin _ (.inr rfl))
  · exact wpAny_pyIter_ascii ha (fin _ (.inl rfl))
end

/-! ### a list comprehension of one clause -/
def capSt (N' N : List Str) (σ : St) (scope : Scope) : St := N'.map fun x => if scope.names.lookup x = some .free then nameV N σ x else none
def blk (X : Cx) (N' : List Str) (scope : Scope) (cl : List (Str × Addr)) (C : Addr) (s : Shared) (H : Hp) (fp : List Addr) : Cx :=
  { X with N := N', s₀ := s, H₀ := H, env := compEnvC scope cl C X.env, outer := X.stack, stack := X.stack, ex := fp, fn := fun _ => false, pn := [], xe := fun _ _ => False }
def EIfs (X : Cx) (ifs : List Expr) (σ : St) (H : Hp) (Q : Bool → Hp → Prop) : Prop :=
  ∀ (pins : List (Addr × Obj)) (s : Shared), Inv X pins σ H s →
    wpAny (model X.prog X.w) X.A (forIn ifs true fun c r => if r = true then do let ok ← isTrue c X.env (eval c X.env); pure (ForInStep.yield ok) else pure (ForInStep.yield r)) (TP X pins σ Q) X.xe s

theorem closure_go (env : Env) : ∀ (names : List (Str × NameKind)) (cs : List (Str × Addr)), (∀ y ∈ names, y.2 = .free → ∃ c, env.cells.lookup y.1 = some c) →
    (forIn names cs (fun (x : Str × NameKind) (r : List (Str × Addr)) => if (x.2 == NameKind.free) = true then do let a ← cellOf env x.1; pure (ForInStep.yield ((x.1, a) :: r)) else pure (ForInStep.yield r)) : Sem (List (Str × Addr))) =
      pure (names.foldl (fun cs y => if y.2 == .free then (y.1, (env.cells.lookup y.1).getD 0) :: cs else cs) cs)
  | [], cs, _ => by simp
  | (n, k) :: r, cs, h => by
    rw [List.forIn_cons]
    by_cases hk : k = .free
    · subst hk
      obtain ⟨c, e⟩ := h (n, .free) List.mem_cons_self rfl
      have e' : cellOf env n = pure c := by
        unfold cellOf
        have e2 : env.cells.lookup n = some c := e
        rw [e2]
      simp only [beq_self_eq_true, if_true, e', pure_bind]
      have e2 : env.cells.lookup n = some c := e
      rw [closure_go env r _ fun y hy => h y (List.mem_cons_of_mem _ hy), List.foldl_cons]
      simp only [beq_self_eq_true, if_true, e2, Option.getD_some]
    · have hb : (k == NameKind.free) = false := by simpa using hk
      simp only [hb, Bool.false_eq_true, if_false, pure_bind]
      rw [closure_go env r _ fun y hy => h y (List.mem_cons_of_mem _ hy), List.foldl_cons]
      simp only [hb, Bool.false_eq_true, if_false]
def closL (scope : Scope) (env : Env) : List (Str × Addr) := scope.names.foldl (fun cs y => if y.2 == .free then (y.1, (env.cells.lookup y.1).getD 0) :: cs else cs) []
theorem closure_eq {scope : Scope} {env : Env} (h : ∀ y ∈ scope.names, y.2 = .free → ∃ c, env.cells.lookup y.1 = some c) : closureFor scope env = pure (closL scope env) := by
  have := closure_go env scope.names [] h
  unfold closureFor closL
  rw [← this]
  simp
theorem closL_mem {env : Env} : ∀ (names : List (Str × NameKind)) (cs : List (Str × Addr)), (∀ y ∈ names, y.2 = .free → ∃ c, env.cells.lookup y.1 = some c) →
    ∀ x c, (names.foldl (fun cs y => if y.2 == .free then (y.1, (env.cells.lookup y.1).getD 0) :: cs else cs) cs).lookup x = some c → (env.cells.lookup x = some c ∨ cs.lookup x = some c)
  | [], cs, _, x, c, e => .inr e
  | (n, k) :: r, cs, h, x, c, e => by
    rw [List.foldl_cons] at e
    rcases closL_mem r _ (fun y hy => h y (List.mem_cons_of_mem _ hy)) x c e with q | q
    · exact .inl q
    · by_cases hk : k = .free
      · subst hk
        obtain ⟨c', e'⟩ := h (n, .free) List.mem_cons_self rfl
        have e2 : env.cells.lookup n = some c' := e'
        simp only [beq_self_eq_true, if_true, e2, Option.getD_some, List.lookup_cons] at q
        cases hx : x == n with
        | true =>
          rw [hx] at q
          have hx' : x = n := by simpa using hx
          subst hx'
          exact .inl (e2.trans q)
        | false => rw [hx] at q; exact .inr q
      · have hb : (k == NameKind.free) = false := by simpa using hk
        rw [if_neg (by simp [hb])] at q
        exact .inr q
theorem closL_has {env : Env} : ∀ (names : List (Str × NameKind)) (cs : List (Str × Addr)) (x : Str), ((x, NameKind.free) ∈ names ∨ ∃ c, cs.lookup x = some c) →
    ∃ c, (names.foldl (fun cs y => if y.2 == .free then (y.1, (env.cells.lookup y.1).getD 0) :: cs else cs) cs).lookup x = some c
  | [], cs, x, h => by
    rcases h with h | h
    · cases h
    · exact h
  | (n, k) :: r, cs, x, h => by
    rw [List.foldl_cons]
    refine closL_has r _ x ?_
    by_cases hk : k = .free
    · subst hk
      simp only [beq_self_eq_true, if_true, List.lookup_cons]
      cases hx : x == n with
      | true => exact .inr ⟨_, rfl⟩
      | false =>
        rcases h with h | h
        · rcases List.mem_cons.mp h with h | h
          · cases h
            simp at hx
          · exact .inl h
        · exact .inr h
    · have hb : (k == NameKind.free) = false := by simpa using hk
      rw [if_neg (by simp [hb])]
      rcases h with h | h
      · rcases List.mem_cons.mp h with h | h
        · cases h
          exact absurd rfl hk
        · exact .inl h
      · exact .inr h
theorem relabel_free {env : Env} {x : Str} : ∀ {names : List (Str × NameKind)}, names.lookup x = some .free →
    (names.map fun (n, k) => if (k == NameKind.free && env.scope.kind == .function && env.kindOf n == some .cell) then (n, NameKind.cell) else (n, k)).lookup x = some .cell ∨
    (names.map fun (n, k) => if (k == NameKind.free && env.scope.kind == .function && env.kindOf n == some .cell) then (n, NameKind.cell) else (n, k)).lookup x = some .free
  | [], h => by simp at h
  | (n, k') :: r, h => by
    have ih := @relabel_free env x r
    show List.lookup x ((if (k' == NameKind.free && env.scope.kind == .function && env.kindOf n == some .cell) = true then (n, NameKind.cell) else (n, k')) :: _) = _ ∨ List.lookup x ((if (k' == NameKind.free && env.scope.kind == .function && env.kindOf n == some .cell) = true then (n, NameKind.cell) else (n, k')) :: _) = _
    cases hx : x == n with
    | true =>
      simp only [List.lookup_cons, hx] at h
      cases h
      by_cases hc : (NameKind.free == NameKind.free && env.scope.kind == .function && env.kindOf n == some .cell) = true
      · rw [if_pos hc]; left; simp only [List.lookup_cons, hx]
      · rw [if_neg hc]; right; simp only [List.lookup_cons, hx]
    | false =>
      simp only [List.lookup_cons, hx] at h
      by_cases hc : (k' == NameKind.free && env.scope.kind == .function && env.kindOf n == some .cell) = true
      · rw [if_pos hc]; simp only [List.lookup_cons, hx]; exact ih h
      · rw [if_neg hc]; simp only [List.lookup_cons, hx]; exact ih h
/-- a captured name in the block's own table was free in the comprehension's -/
theorem relabel_cf {env : Env} {x : Str} : ∀ {names : List (Str × NameKind)}, (∀ y ∈ names, y.2 ≠ .cell) →
    ((names.map fun (n, k) => if (k == NameKind.free && env.scope.kind == .function && env.kindOf n == some .cell) then (n, NameKind.cell) else (n, k)).lookup x = some .cell ∨
    (names.map fun (n, k) => if (k == NameKind.free && env.scope.kind == .function && env.kindOf n == some .cell) then (n, NameKind.cell) else (n, k)).lookup x = some .free) → (x, NameKind.free) ∈ names
  | [], _, h => by simp at h
  | (n, k') :: r, hc0, h => by
    have ih := @relabel_cf env x r fun y hy => hc0 y (List.mem_cons_of_mem _ hy)
    have h' : List.lookup x ((if (k' == NameKind.free && env.scope.kind == .function && env.kindOf n == some .cell) = true then (n, NameKind.cell) else (n, k')) :: (r.map fun (n, k) => if (k == NameKind.free && env.scope.kind == .function && env.kindOf n == some .cell) then (n, NameKind.cell) else (n, k))) = some .cell ∨
      List.lookup x ((if (k' == NameKind.free && env.scope.kind == .function && env.kindOf n == some .cell) = true then (n, NameKind.cell) else (n, k')) :: (r.map fun (n, k) => if (k == NameKind.free && env.scope.kind == .function && env.kindOf n == some .cell) then (n, NameKind.cell) else (n, k))) = some .free := h
    cases hx : x == n with
    | true =>
      have hx' : x = n := by simpa using hx
      subst hx'
      by_cases hc : (k' == NameKind.free && env.scope.kind == .function && env.kindOf x == some .cell) = true
      · have : k' = .free := by simp only [Bool.and_eq_true] at hc; simpa using hc.1.1
        subst this
        exact List.mem_cons_self
      · rw [if_neg hc] at h'
        simp only [List.lookup_cons, hx] at h'
        rcases h' with h' | h'
        · cases h'
          exact absurd rfl (hc0 (x, .cell) List.mem_cons_self)
        · cases h'
          exact List.mem_cons_self
    | false =>
      refine List.mem_cons_of_mem _ (ih ?_)
      by_cases hc : (k' == NameKind.free && env.scope.kind == .function && env.kindOf n == some .cell) = true
      · rw [if_pos hc] at h'; simpa only [List.lookup_cons, hx] using h'
      · rw [if_neg hc] at h'; simpa only [List.lookup_cons, hx] using h'

/-- the turns of a comprehension's loop -/
theorem compLoop_any {prog : Program} {w : World} {A : Around} {R : Result → Shared → Prop} {s : Shared} {elt target iter : Expr} {ifs : List Expr} {scope : Scope} {pos : Pos} {it acc : Value} {env : Env} (I : Nat → Shared → Prop)
    (turn : ∀ n s, I n s → wpAny (model prog w) A (pyNext it) (fun r s₁ => match r with
      | none => R (.ok .next) s₁
      | some v => wpAny (model prog w) A (letOwnedTupleGo target it v) (fun _ s₁' => wpAny (model prog w) A (assign target env v) (fun _ s₂ =>
          wpAny (model prog w) A (forIn ifs true fun c r => if r = true then do let ok ← isTrue c env (eval c env); pure (ForInStep.yield ok) else pure (ForInStep.yield r)) (fun ok s₃ =>
            if ok = true then wpAny (model prog w) A (eval elt env) (fun x s₄ =>
              wpAny (model prog w) A (call (.builtin "list.append") [acc, x]) (fun _ s₅ => ∃ m, m < n ∧ I m s₅) (fun _ _ => False) s₄) (fun _ _ => False) s₃
            else ∃ m, m < n ∧ I m s₃) (fun _ _ => False) s₂) (fun _ _ => False) s₁') (fun _ _ => False) s₁) (fun _ _ => False) s)
    (n : Nat) (h : I n s) :
    codeAny (model prog w) A (.compLoop (.ListComp elt [⟨target, iter, ifs, 0⟩] scope pos) 0 it acc env) R s := by
  refine codeAny_loop rfl I (fun n s hI => ?_) n h
  show wpAny _ A ((compTurn (.ListComp elt [⟨target, iter, ifs, 0⟩] scope pos) 0 it acc env).onRaise (fun x => do noteFrame x env; theTreesLotGoes x)) _ _ s
  refine wpAny_noted ?_
  rw [compTurn_list]
  refine wpAny_bind (wpAny_standAt (wpAny_bind (wpAny_mono (turn n s hI) (fun r s₁ h₁ => ?_) fun _ _ h' => h'.elim)))
  cases r with
  | none => exact wpAny_pure h₁
  | some v =>
    refine wpAny_bind (wpAny_mono h₁ (fun _ s₁' h₁' => ?_) fun _ _ h' => h'.elim)
    refine wpAny_bind (wpAny_mono h₁' (fun _ s₂ h₂ => wpAny_bind (wpAny_mono h₂ (fun ok s₃ h₃ => ?_) fun _ _ h' => h'.elim)) fun _ _ h' => h'.elim)
    cases ok with
    | false => exact wpAny_pure ⟨rfl, h₃⟩
    | true =>
      exact wpAny_bind (wpAny_bind (wpAny_mono h₃ (fun x s₄ h₄ => wpAny_bind (wpAny_mono h₄ (fun _ s₅ h₅ => wpAny_pure (wpAny_pure ⟨rfl, h₅⟩)) fun _ _ h' => h'.elim)) fun _ _ h' => h'.elim))
end L2

namespace L2
open PySem PySem.Spec PyProof.Rows

section
variable {X : Cx} {pins : List (Addr × Obj)} {σ : St} {H H' : Hp} {s s' : Shared} {scope : Scope} {fp : List Addr} {N' : List Str}
/-- what a comprehension's own names must be -/
structure CompSc (env : Env) (scope : Scope) : Prop where
  kind : scope.kind = .function
  free : ∀ y ∈ scope.names, y.2 = .free → env.kindOf y.1 = some .cell ∨ env.kindOf y.1 = some .free
  cell : ∀ y ∈ scope.names, y.2 ≠ .cell
  loc : ∀ y ∈ scope.names, y.2 = .local → scope.names.lookup y.1 = some .local

theorem CompSc.has (S : CompSc X.env scope) (I : Inv X pins σ H s) : ∀ y ∈ scope.names, y.2 = .free → ∃ c, X.env.cells.lookup y.1 = some c := fun y hy e => I.ok.has y.1 (S.free y hy e)
theorem CompSc.cl (S : CompSc X.env scope) (I : Inv X pins σ H s) {x : Str} {c : Addr} (h : (closL scope X.env).lookup x = some c) : X.env.cells.lookup x = some c := by
  rcases closL_mem scope.names [] (S.has I) x c h with q | q
  · exact q
  · simp at q

theorem blk_ok (S : CompSc X.env scope) (I : Inv X pins σ H s) (hf : ∀ b ∈ fp, FpOk X pins H b) (hfs : ∀ b ∈ fp, b < s.heap.objs.size) : (blk X N' scope (closL scope X.env) s.heap.objs.size s H fp).Ok where
  mod := I.ok.mod
  kind := S.kind
  glob := I.ok.glob
  blt := I.ok.blt
  above := Nat.le_refl _
  inj := fun x y c h1 h2 => I.ok.inj x y c (S.cl I h1) (S.cl I h2)
  has := fun x hx => closL_has (env := X.env) scope.names [] x (.inl (relabel_cf S.cell hx))
  cab := fun x c h _ => by cases h
  hd := I.ok.hd
  frames := I.ok.frames
  stk := .inl rfl
  exf := fun b hb => ⟨Nat.ne_of_lt (hfs b hb), fun x c h => (hf b hb).2.2.2.2.1 x c (S.cl I h)⟩
  bs := I.bs
  bsz := Nat.le_trans I.ok.bsz I.sz
  noex := fun b o e hb => by
    rcases (hf b hb).2.2.2.1 with z | z
    · exact I.ok.noex b o e z
    · rw [(I.ok.bs b o e).1] at z; cases z
  exfs := fun b hb z => by
    rcases List.mem_cons.mp (I.stkSub b z) with e | e
    · exact (hf b hb).2.1 e
    · exact (hf b hb).2.2.1 e
  funs := I.stack
  frf := I.stkFree

theorem capSt_get {N : List Str} {i : Nat} {x : Str} {v : V} (h1 : N'[i]? = some x) (h2 : (capSt N' N σ scope)[i]? = some (some v)) : scope.names.lookup x = some .free ∧ nameV N σ x = some v := by
  unfold capSt at h2
  rw [List.getElem?_map, h1] at h2
  have h3 : (if scope.names.lookup x = some .free then nameV N σ x else none) = some v := by simpa using h2
  split at h3
  · rename_i e
    exact ⟨e, h3⟩
  · cases h3

theorem blk_inv (S : CompSc X.env scope) (I : Inv X pins σ H s) (hf : ∀ b ∈ fp, FpOk X pins H b) (hfs : ∀ b ∈ fp, b < s.heap.objs.size) {h₁ : Heap} {m : Str → Option Value} {tk : Nat} (hns : h₁.Ns s.heap.objs.size m)
    (old : ∀ b o, s.heap.get? b = some o → h₁.get? b = some o) : Inv (blk X N' scope (closL scope X.env) s.heap.objs.size s H fp) [] (capSt N' X.N σ scope) H { s with heap := h₁, toks := tk } where
  ok := blk_ok S I hf hfs
  os := rfl
  bare := I.bare
  base := Un.kept old
  loc := by
    refine ⟨m, hns, fun i x v h1 h2 h3 => ?_⟩
    obtain ⟨e1, e2⟩ := capSt_get h1 h2
    obtain ⟨j, g1, g2⟩ := nameV_get e2
    have hm : (x, NameKind.free) ∈ scope.names := PySem.mem_of_lookup e1
    have hk := S.free _ hm rfl
    obtain ⟨m0, _, hl⟩ := I.loc
    have vis : Vis X.env.scope x := .inr hk
    obtain ⟨u, r, lk⟩ := hl j x v g1 g2 vis
    refine ⟨u, r, .inr ⟨relabel_free (env := X.env) e1, ?_⟩⟩
    rcases lk with ⟨k, _⟩ | ⟨_, c, e, z⟩
    · rcases hk with hk | hk
      · have hk' : X.env.kindOf x = some .cell := hk
        rw [hk'] at k; cases k
      · have hk' : X.env.kindOf x = some .free := hk
        rw [hk'] at k; cases k
    · obtain ⟨c', e'⟩ := closL_has (env := X.env) scope.names [] x (.inl hm)
      have e3 := S.cl I (x := x) (c := c') e'
      rw [e] at e3
      cases e3
      obtain ⟨o, ho, hd⟩ := z
      exact ⟨c, e', o, old _ _ ho, hd⟩
  cell := fun x c h => by
    obtain ⟨v, o, ho, hd⟩ := I.cell x c (S.cl I h)
    exact ⟨v, o, old _ _ ho, hd⟩
  free := I.hok.fresh (Nat.le_refl _)
  freeC := fun x c h => I.freeC x c (S.cl I h)
  pin := fun p hp => absurd (show p ∈ ([] : List (Addr × Obj)) from hp) (by simp)
  hok := I.hok.kept old
  len := by show (capSt N' X.N σ scope).length = N'.length; unfold capSt; rw [List.length_map]

/-- behind the block -/
theorem blk_end {τ : St} (I : Inv X pins σ H s) (hf : ∀ b ∈ fp, FpOk X pins H b) (J : Inv (blk X N' scope (closL scope X.env) s.heap.objs.size s H fp) [] τ H' s') : Inv X pins σ H' s' := by
  obtain ⟨hh, g, d, t, os'⟩ := s'
  have e : os' = s.os := J.os
  subst e
  exact I.call (h' := hh) (g' := g) (d' := d) (t' := t) (ch := fp) J.base J.hok J.bare fun b hb => ⟨(hf b hb).2.2.2.1, (hf b hb).2.1, (hf b hb).2.2.2.2.1, (hf b hb).2.2.2.2.2⟩

variable {elt iter tg : Expr} {ifs : List Expr} {pos : Pos}
/-- the turns wanted of a comprehension: W the invariant, D the list's address -/
def CompT (X Y : Cx) (tg elt : Expr) (ifs : List Expr) (J : It) (D : Addr) (σ' : St) (H : Hp) (Q : Hp → Prop) : Prop :=
  ∃ W : Nat → Nat → St → Hp → Prop, (∃ m, W 0 m σ' (upd H D (.lst []))) ∧ ∀ i m τ H, W i m τ H →
    (J.stop i H ∧ Q H) ∨ (J.go i H ∧ ∃ N : St → Hp → Prop, (∀ τ' H', N τ' H' → ∃ m', m' < m ∧ W (i + 1) m' τ' H') ∧ ∀ x H', J.yld i H x H' →
      EG Y tg x τ H' fun τ2 H2 => EIfs Y ifs τ2 H2 fun k H3 => if k = true then EV Y elt τ2 H3 fun y H4 => ∃ xs, H4 D = some (.lst xs) ∧ xs.length < sizeLine ∧ N τ2 (upd H4 D (.lst (xs ++ [y]))) else N τ2 H3)

theorem comp_run {R : Value → Addr → Result → Shared → Prop} {it : Addr} {tn : Nat → Heap → Prop} {J : It} {E : Value → Shared → Prop} {Q : Addr → Hp → Prop} (hc : X.calm = true) (S : CompSc X.env scope) (I : Inv X pins σ H s)
    (T : Turn X.prog X.w X.K tg J fp it tn) (st : tn 0 s.heap) (hf : ∀ b ∈ fp, FpOk X pins H b)
    (h : ∀ (D C : Addr) (s3 : Shared), H D = none → CompT X (blk X N' scope (closL scope X.env) C s3 (upd H D (.lst [])) fp) tg elt ifs J D (capSt N' X.N σ scope) H (Q D))
    (hR : ∀ (D C : Addr) (H' : Hp) (s' : Shared), H D = none → Q D H' → Inv X pins σ H' s' → FpOk X pins H' C → (∃ m, s'.heap.Ns C m) → R (.ref D) C (.ok .next) s') :
    wpAny (model X.prog X.w) X.A (newList []) (fun acc s₃ => wpAny (model X.prog X.w) X.A (newFunctionEnv scope X.env.globals (closL scope X.env) [] X.env.qual none .none (some X.env)) (fun cenv s₄ =>
      codeAny (model X.prog X.w) X.A (.compStart (.ListComp elt [⟨tg, iter, ifs, 0⟩] scope pos) 0 (.ref it) acc { cenv with scope := relabel scope X.env }) (R acc cenv.locals) s₄) E s₃) E s := by
  refine wpAny_newObj_type ?_
  have hD : H s.heap.objs.size = none := I.hok.fresh (Nat.le_refl _)
  generalize hs3 : ({ s with heap := s.heap.push { cls := .type "list", dict := none, data := .seq ([] : List Value).toArray } } : Shared) = s3
  have I3 : Inv X pins σ (upd H s.heap.objs.size (.lst [])) s3 := by
    subst hs3
    exact I.laid (t' := s.toks) (fun b u e => Heap.get?_push_of_some _ e) (Nat.le_refl _) ⟨Nat.zero_le _, [], 0, .nil, Heap.get?_push_size _ rfl⟩
  have hsz : s3.heap.objs.size = s.heap.objs.size + 1 := by subst hs3; exact Heap.size_push ..
  have old3 : ∀ b o, s.heap.get? b = some o → s3.heap.get? b = some o := fun b o e => by subst hs3; exact Heap.get?_push_of_some _ e
  have fpl : ∀ b ∈ fp, b < s.heap.objs.size := fun b hb => by
    obtain ⟨o, e, _⟩ := T.obj _ _ st b hb
    exact Heap.lt_size e
  have hf3 : ∀ b ∈ fp, FpOk X pins (upd H s.heap.objs.size (.lst [])) b := fun b hb => ⟨by rw [upd_ne (Nat.ne_of_lt (fpl b hb))]; exact (hf b hb).1, (hf b hb).2⟩
  have st3 : tn 0 s3.heap := T.keep _ _ _ st fun b _ o e => old3 b o e
  have fpl3 : ∀ b ∈ fp, b < s3.heap.objs.size := fun b hb => by rw [hsz]; exact Nat.lt_succ_of_lt (fpl b hb)
  refine wpAny_newFunctionEnv S.cell (by intro y hy; simp at hy) (fun h₁ hns hsb => ?_) S.kind
  have old4 : ∀ b o, s3.heap.get? b = some o → h₁.get? b = some o := fun b o e => hsb.extBut b o (Nat.ne_of_lt (Heap.lt_size e)) (Heap.get?_push_of_some _ e)
  generalize hY : blk X N' scope (closL scope X.env) s3.heap.objs.size s3 (upd H s.heap.objs.size (.lst [])) fp = Y
  have hT := h s.heap.objs.size s3.heap.objs.size s3 hD
  rw [hY] at hT
  obtain ⟨W, ⟨m0, w0⟩, turn⟩ := hT
  generalize hs4 : ({ s3 with heap := h₁, toks := s3.toks + ([] : List (Str × Value)).length } : Shared) = s4
  have I4 : Inv Y [] (capSt N' X.N σ scope) (upd H s.heap.objs.size (.lst [])) s4 := by
    subst hs4
    rw [← hY]
    exact blk_inv S I3 hf3 fpl3 hns old4
  have st4 : tn 0 s4.heap := by
    subst hs4
    exact T.keep _ _ _ st3 fun b _ o e => old4 b o e
  have hP : Y.prog = X.prog := by rw [← hY]; rfl
  have hw : Y.w = X.w := by rw [← hY]; rfl
  have hK : Y.K = X.K := by rw [← hY]; rfl
  have hA : Y.A = X.A := by rw [← hY]; rfl
  have hcY : Y.calm = true := by rw [← hY]; exact hc
  have hE : Y.xe = fun _ _ => False := by rw [← hY]; rfl
  have hen : Y.env = compEnvC scope (closL scope X.env) s3.heap.objs.size X.env := by rw [← hY]; rfl
  have hloc : Y.env.locals = s3.heap.objs.size := by rw [hen]; rfl
  have fpY : ∀ b ∈ fp, ∀ H' : Hp, H' b = none → FpOk Y [] H' b := fun b hb H' e => by
    rw [← hY]
    refine ⟨e, Nat.ne_of_lt (fpl3 b hb), fun z => ?_, .inl hb, fun x c q => (hf3 b hb).2.2.2.2.1 x c (S.cl I3 q), fun p hp => absurd (show p ∈ ([] : List (Addr × Obj)) from hp) (by simp)⟩
    rcases List.mem_cons.mp (I3.stkSub b z) with e | e
    · exact (hf b hb).2.1 e
    · exact (hf b hb).2.2.1 e
  have loop : codeAny (model X.prog X.w) X.A (.compLoop (.ListComp elt [⟨tg, iter, ifs, 0⟩] scope pos) 0 (.ref it) (.ref s.heap.objs.size) Y.env) (R (.ref s.heap.objs.size) s3.heap.objs.size) s4 := by
    refine compLoop_any (fun n s' => ∃ i τ H', Inv Y [] τ H' s' ∧ tn i s'.heap ∧ (∀ b ∈ fp, H' b = none) ∧ W i n τ H') ?_ m0 ⟨0, _, _, I4, st4, fun b hb => (hf3 b hb).1, w0⟩
    rintro n s5 ⟨i, τ, H5, I5, st5, fr5, w5⟩
    have toF : ∀ {α : Type} {t : Sem α} {Q : α → Shared → Prop} {s : Shared}, wpAny (model Y.prog Y.w) Y.A t Q Y.xe s → wpAny (model X.prog X.w) X.A t Q (fun _ _ => False) s := fun h => by
      rw [hP, hw, hA, hE] at h; exact h
    rcases turn i n τ H5 w5 with ⟨stop, qn⟩ | ⟨go, N, hN, step⟩
    · have q := T.done Y hP hw hK hcY i [] s5 τ H5 (fun _ _ => False) I5 (fun b hb => fpY b hb _ (fr5 b hb)) st5 stop
      rw [hA] at q
      refine thn q fun r s6 ⟨hr, I6⟩ => ?_
      subst hr
      have IX6 : Inv X pins σ H5 s6 := by
        have I6' := I6
        rw [← hY] at I6'
        exact blk_end I3 hf3 I6'
      refine hR _ _ H5 s6 hD qn IX6 (I3.fpOk (Nat.le_refl _) ?_) ?_
      · have := I6.free
        rw [hloc] at this
        exact this
      · obtain ⟨m, hn, _⟩ := I6.loc
        rw [hloc] at hn
        exact ⟨m, hn⟩
    · have q := T.item Y hP hw hK hcY i [] s5 τ H5 (fun _ _ => False) I5 (fun b hb => fpY b hb _ (fr5 b hb)) st5 go
      rw [hA] at q
      refine thn q fun r s6 ⟨u, hr, h6⟩ => ?_
      subst hr
      refine thn h6 fun _ s7 ⟨x, H7, I7, r7, y7, st7, fr7⟩ => ?_
      have I7' := I7.pinned (fun b hb => fpY b hb _ (fr7 b hb)) (T.obj _ _ st7)
      have pinK : ∀ {τ' : St} {H8 : Hp} {s8 : Shared}, Inv Y ([] ++ pinsAt fp s7.heap) τ' H8 s8 → tn (i + 1) s8.heap ∧ ∀ b ∈ fp, H8 b = none := fun {τ' H8 s8} I8 => by
        refine ⟨T.keep _ _ _ st7 fun b hb o e => (I8.pin (b, o) (List.mem_append_right _ (List.mem_append_right _ (mem_pinsAt hb e)))).1, fun b hb => ?_⟩
        obtain ⟨o, e, d⟩ := T.obj _ _ st7 b hb
        exact (I8.pin (b, o) (List.mem_append_right _ (List.mem_append_right _ (mem_pinsAt hb e)))).2.1
      refine toF (thn (step x H7 y7 _ s7 u I7' r7) fun _ s8 ⟨τ8, H8, I8, q8⟩ => ?_)
      refine toF (thn (q8 _ s8 I8) fun ok s9 ⟨H9, I9, q9⟩ => ?_)
      cases ok with
      | false =>
        have q9' : N τ8 H9 := by simpa using q9
        obtain ⟨m', hm, w9⟩ := hN _ _ q9'
        obtain ⟨k1, k2⟩ := pinK I9
        show ∃ m, _
        exact ⟨m', hm, i + 1, τ8, H9, I9.unpinned, k1, k2, w9⟩
      | true =>
        have q9' : EV Y elt τ8 H9 fun y H4 => ∃ xs, H4 s.heap.objs.size = some (.lst xs) ∧ xs.length < sizeLine ∧ N τ8 (upd H4 s.heap.objs.size (.lst (xs ++ [y]))) := by simpa using q9
        show wpAny _ _ _ _ _ _
        refine toF (thn (q9' _ s9 I9) fun z s10 ⟨y, H10, I10, r10, xs, e10, l10, n10⟩ => ?_)
        refine toF (thn (mt_append _ s10 τ8 H10 (.ref s.heap.objs.size) [y] _ [z] (fun v H11 => v = .non ∧ H11 = upd H10 s.heap.objs.size (.lst (xs ++ [y]))) I10 rfl (.cons r10 .nil) ⟨_, xs, y, rfl, rfl, e10, l10, rfl, rfl⟩) fun _ s11 ⟨_, H11, I11, _, _, e11⟩ => ?_)
        subst e11
        obtain ⟨m', hm, w11⟩ := hN _ _ n10
        obtain ⟨k1, k2⟩ := pinK I11
        exact ⟨m', hm, i + 1, τ8, _, I11.unpinned, k1, k2, w11⟩
  rw [hen] at loop
  exact codeAny_compStart_list loop (T.self X.A 0 s4 _ _ st4 loop)

theorem ev_comp {Q : VK} (hc : X.calm = true) (S : CompSc X.env scope) (hs : ∀ x, foldedSetIterable iter X.env x = pure x)
    (h : EI X tg iter σ H fun J H1 => ∀ (fp : List Addr) (D C : Addr) (s3 : Shared), H1 D = none → CompT X (blk X N' scope (closL scope X.env) C s3 (upd H1 D (.lst [])) fp) tg elt ifs J D (capSt N' X.N σ scope) H1 (fun H' => Q (.ref D) H')) :
    EV X (.ListComp elt [⟨tg, iter, ifs, 0⟩] scope pos) σ H Q := by
  intro pins s I
  rw [eval_ListComp]
  refine wpAny_comprehension_free (use := none) rfl hs (closure_eq (S.has I)) S.kind S.loc (thn (h pins s I) fun v s1 h1 => thn h1 fun itv s2 h2 => ?_)
  obtain ⟨it, fp, tn, J, H2, e, I2, T, st2, f2, q2⟩ := h2
  subst e
  refine comp_run (R := fun acc C => compPost (model X.prog X.w) X.A X.xe none (EP X pins σ Q) acc C) (Q := fun D H' => Q (.ref D) H') hc S I2 T st2 f2 (fun D C s3 hD => q2 fp D C s3 hD) fun D C H' s' hD qD IX fC hn => ?_
  obtain ⟨m, hn⟩ := hn
  obtain ⟨f0, f1, f2', f3, f4, f5⟩ := fC
  exact ⟨m, hn, fun h' hsb => ⟨.ref D, H', IX.turned (t' := s'.toks) (fun b o hb e => hsb.extBut b o hb e) f0 f1 f3 f4 f5, rfl, qD⟩⟩

theorem eifs_nil {Q : Bool → Hp → Prop} (q : Q true H) : EIfs X [] σ H Q := fun pins s I => by
  rw [List.forIn_nil]
  exact wpAny_pure ⟨H, I, q⟩
end

end L2

namespace L2
open PySem PySem.Spec PyProof.Rows

/-! ### short forms: loops, comprehensions, tests -/
theorem ifD {c A B : Prop} [Decidable c] (h1 : c → A) (h2 : ¬ c → B) : if decide c = true then A else B := by
  by_cases h : c
  · rw [if_pos (decide_eq_true h)]; exact h1 h
  · rw [if_neg (by simpa using h)]; exact h2 h
theorem ifN {c A B : Prop} [Decidable c] (h1 : ¬ c → A) (h2 : c → B) : if (!decide c) = true then A else B := by
  by_cases h : c
  · rw [if_neg (by simp [h])]; exact h2 h
  · rw [if_pos (by simp [h])]; exact h1 h
theorem ifB {k : Bool} {A B : Prop} (h1 : k = true → A) (h2 : k = false → B) : if k = true then A else B := by
  cases k with
  | true => rw [if_pos rfl]; exact h1 rfl
  | false => rw [if_neg Bool.false_ne_true]; exact h2 rfl
theorem iteNT {A B : Prop} (h : B) : if (!true) = true then A else B := by rw [if_neg (by decide)]; exact h
theorem iteNF {A B : Prop} (h : A) : if (!false) = true then A else B := by rw [if_pos (by decide)]; exact h
theorem Same.upd {H : Hp} {p : Addr} {o : HO} (h : H p = none) : Same H (L2.upd H p o) := fun b u e => by rw [upd_ne (ne_of_none e h)]; exact e
section
variable {X : Cx} {a e : Expr} {σ : St} {H : Hp} {Q : VK} {D : Ends} {pos p p' : Pos}
/-- for y in range(e) -/
theorem sx_forR {tg : Expr} {body : List Stmt} (hp : PassesOwn (model X.prog X.w) X.A X.env X.xe) (hc : X.calm = true) (hg : Gl X "range") (hm : X.mg "range" = none) (hs : starEach [a] X.env = [(false, eval a X.env)])
    (h : EV X a σ H fun v H1 => ∃ n : Int, v = .int n ∧ -(2 ^ 62) ≤ n ∧ n < 2 ^ 62 ∧ ∃ Pv : Nat → St → Hp → Prop, Pv 0 σ H1 ∧
      (∀ i σ' H', i < n.toNat → Pv i σ' H' → EG X tg (.int i) σ' H' fun σ2 H2 => SXs X body { D with nx := Pv (i + 1), ct := Pv (i + 1), bk := D.nx } σ2 H2) ∧ ∀ σ' H', Pv n.toNat σ' H' → D.nx σ' H') :
    SX X (.For tg (.Call (.Name "range" p) [a] [] p') body [] pos) D σ H := by
  refine sx_for hp hc (by intro _; rfl) (ei_range1 hg hm hs (ea_cons hs (ev_mono h fun v H1 q => ?_)))
  obtain ⟨n, rfl, h1, h2, Pv, h0, hst, hd⟩ := q
  refine ea_nil ⟨n, rfl, h1, h2, ?_⟩
  exact for_range (g := EG X tg) (tb := SXs X body) Pv h0 (fun i σ' H' hi hP => by rw [Int.zero_add]; exact hst i σ' H' hi hP) hd
/-- a comprehension with one name, by what holds of each element -/
theorem comp_name {Y : Cx} {elt : Expr} {J : It} {E : Addr} {τ0 : St} {Q : Hp → Prop} {y : Str} {py : Pos} {j : Nat} (hN : Y.N.Nodup) (hj : nameAt Y.N y = some j) (hx : Y.env.scope.names.lookup y = some .local)
    (n : Nat) (hn : n ≤ sizeLine) (Pi : Nat → V → Prop) (It : Nat → V → Prop) (hE : H E = none)
    (go : ∀ i H1, Same (upd H E (.lst [])) (upd H1 E (.lst [])) → i < n → J.go i H1) (stop : ∀ H1, Same (upd H E (.lst [])) (upd H1 E (.lst [])) → J.stop n H1)
    (yld : ∀ i H1 x H2, i < n → Same (upd H E (.lst [])) (upd H1 E (.lst [])) → J.yld i H1 x H2 → It i x ∧ H2 = H1)
    (step : ∀ i x H1, i < n → It i x → Same H H1 → EV Y elt (τ0.set j (some x)) H1 fun v H2 => Pi i v ∧ Same H1 H2)
    (fin : ∀ H1 xs, xs.length = n → (∀ i v, xs[i]? = some v → Pi i v) → H1 E = some (.lst xs) → Same H H1 → Q H1) : CompT X Y (.Name y py) elt [] J E τ0 H Q := by
  have sU : ∀ {H1 : Hp}, Same H H1 → Same (upd H E (.lst [])) (upd H1 E (.lst [])) := fun {H1} s b o e => by
    by_cases hb : b = E
    · subst hb; rw [upd_same] at e ⊢; exact e
    · rw [upd_ne hb] at e ⊢; exact s b o e
  refine ⟨fun i m τ H1 => m = n - i ∧ i ≤ n ∧ Same H H1 ∧ (τ = τ0 ∨ ∃ x, τ = τ0.set j (some x)) ∧ ∃ xs, H1 E = some (.lst xs) ∧ xs.length = i ∧ ∀ k v, xs[k]? = some v → Pi k v, ⟨n, by simp, Nat.zero_le _, Same.upd hE, .inl rfl, [], upd_same, rfl, fun k v e => by simp at e⟩, ?_⟩
  rintro i m τ H1 ⟨rfl, hi, s1, hτ, xs, eE, lx, px⟩
  by_cases hlt : i < n
  · refine .inr ⟨go i H1 (sU s1) hlt, fun τ' H' => Same H H' ∧ (τ' = τ0 ∨ ∃ x, τ' = τ0.set j (some x)) ∧ ∃ xs, H' E = some (.lst xs) ∧ xs.length = i + 1 ∧ ∀ k v, xs[k]? = some v → Pi k v, fun τ' H' ⟨a, b, c⟩ => ⟨n - (i + 1), by omega, rfl, hlt, a, b, c⟩, fun x H2 y => ?_⟩
    obtain ⟨hI, e2⟩ := yld i H1 x H2 hlt (sU s1) y
    subst e2
    refine eg_name hN hj (.inl hx) (.inr hx) (eifs_nil ?_)
    rw [if_pos rfl]
    have eτ : τ.set j (some x) = τ0.set j (some x) := by
      rcases hτ with e | ⟨z, e⟩
      · rw [e]
      · rw [e, List.set_set]
    rw [eτ]
    refine ev_mono (step i x H2 hlt hI s1) fun v H3 ⟨pv, s2⟩ => ⟨xs, s2 _ _ eE, by omega, ?_⟩
    refine ⟨fun b o e => ?_, .inr ⟨x, rfl⟩, xs ++ [v], upd_same, by simp [lx], fun k u e => ?_⟩
    · rw [upd_ne (ne_of_none e hE)]
      exact s2 _ _ (s1 _ _ e)
    · by_cases hk : k < xs.length
      · rw [List.getElem?_append_left hk] at e
        exact px k u e
      · have hk2 : k = i := by
          have := (List.getElem?_eq_some_iff.mp e).1
          rw [List.length_append, List.length_singleton] at this
          omega
        subst hk2
        rw [← lx, List.getElem?_concat_length] at e
        cases e
        exact pv
  · have e : i = n := by omega
    subst e
    exact .inl ⟨stop H1 (sU s1), fin H1 xs lx px eE s1⟩

/-- [elt for y in a text] -/
theorem ev_compS {elt : Expr} {scope : Scope} {y : Str} {py : Pos} {j : Nat} (N' : List Str) {σ' : St} (hσ : capSt N' X.N σ scope = σ') (hc : X.calm = true) (S : CompSc X.env scope) (hN : N'.Nodup) (hj : nameAt N' y = some j) (hx : scope.names.lookup y = some .local)
    (hs : ∀ x, foldedSetIterable e X.env x = pure x)
    (h : EV X e σ H fun v H1 => ∃ z : Str, v = .str z ∧ z.cps.size ≤ sizeLine ∧ ∃ Pi : Nat → V → Prop,
      (∀ (fp : List Addr) (E C : Addr) (s3 : Shared) (H0 : Hp) (i c : Nat) (H2 : Hp), z.cps.toList[i]? = some c → Same H1 H2 → EV (blk X N' scope (closL scope X.env) C s3 H0 fp) elt (σ'.set j (some (.str ⟨#[c]⟩))) H2 fun v H3 => Pi i v ∧ Same H2 H3) ∧
      ∀ (E : Addr) (H2 : Hp) (xs : List V), H1 E = none → xs.length = z.cps.size → (∀ i v, xs[i]? = some v → Pi i v) → H2 E = some (.lst xs) → Same H1 H2 → Q (.ref E) H2) :
    EV X (.ListComp elt [⟨.Name y py, e, [], 0⟩] scope pos) σ H Q := by
  refine ev_comp (N' := N') hc S hs (ei_str (ev_mono h fun v H1 q => ?_))
  obtain ⟨z, rfl, h2, Pi, hst, hfin⟩ := q
  refine ⟨z, rfl, fun fp E C s3 hE => ?_⟩
  rw [hσ]
  refine comp_name (Y := blk X N' scope (closL scope X.env) C s3 (upd H1 E (.lst [])) fp) hN hj (lookup_relabel_local hx) z.cps.size h2 Pi (fun i x => ∃ c, z.cps.toList[i]? = some c ∧ x = .str ⟨#[c]⟩) hE (fun i _ _ hi => hi) (fun _ _ => Nat.le_refl _) (fun i H1 x H2 _ _ yl => ?_) (fun i x H2 hi ex s => ?_) (fun H2 xs l px eE s => hfin E H2 xs hE l px eE s)
  · obtain ⟨e1, c, e2, e3⟩ := yl
    exact ⟨⟨c, by simpa using e2, e3⟩, e1⟩
  · obtain ⟨c, e1, e2⟩ := ex
    subst e2
    exact hst fp E C s3 _ i c H2 e1 s
end

/-! ### a def by its body -/
section
variable {P : Program} {w : World} {K : PySem.W.Frag} {mg : Str → Option Value} {base : Heap} {cc : Bool}
/-- the context in which a def's body runs -/
abbrev CxF (cc : Bool) (P : Program) (w : World) (K : PySem.W.Frag) (mg : Str → Option Value) (base : Heap) (N : List Str) (qual : Str) (scope : Scope) (f : Addr) (cd : Value) (A : Around) (outer : List Env) (s : Shared) (H : Hp) (E : XK) : Cx :=
  cxOf cc (CX1 P w) P w K mg base N qual scope f cd A outer s H E
theorem fn_sx {x qual : Str} {st : Stmt} {ps N : List Str} {k : Nat} {sp : Sp} {f : Addr} {fd : FuncData} (F : Fun K x qual st f fd) (S : FnScope N ps (defScope st))
    (len : ∀ vs H Q E, sp vs H Q E → vs.length = ps.length)
    (body : ∀ (cdv : Value) (A : Around) (outer : List Env) (s : Shared) (H : Hp) (vs : List V) (Q : VK) (E : XK), Room cc k (A.deeper (envOfC qual (defScope st) s.heap.objs.size f cdv)) → sp vs H Q E →
      SXs (CxF cc P w K mg base N qual (defScope st) f cdv A outer s H E) (defBody st) { nx := fun _ H' => Q .non H', rt := Q } (start N vs) H) : FnOk P w K mg base (CX1 P w) cc (k + 1) f fd ps sp := by
  obtain ⟨oc, od, kV, doc, pm, an, cdv, ct, osl, rfl, lk, hcd⟩ := id F.ex
  exact fn_of lk hcd S len fun A outer s H vs Q E hr h => ⟨_, pss_self, body cdv A outer s H vs Q E hr h⟩
theorem def_of {x : Str} {st : Stmt} {ps N : List Str} {k : Nat} {sp : Sp} (F : ∃ f fd, Fun K x x st f fd ∧ mg x = some (.ref f)) (S : FnScope N ps (defScope st))
    (hb : ∀ (kV doc pm : Value) (an : Option Addr) (cdv ct : Value) (us : List Value), us.length = ps.length → bindArgs (PySem.W.fnOf x x (defArgs st) (defBody st) (defScope st) .none kV doc pm an cdv ct) ⟨us, []⟩ = pure (ps.zip us))
    (len : ∀ vs H Q E, sp vs H Q E → vs.length = ps.length)
    (body : ∀ (f : Addr) (cdv : Value) (A : Around) (outer : List Env) (s : Shared) (H : Hp) (vs : List V) (Q : VK) (E : XK), Room cc k (A.deeper (envOfC x (defScope st) s.heap.objs.size f cdv)) → sp vs H Q E →
      SXs (CxF cc P w K mg base N x (defScope st) f cdv A outer s H E) (defBody st) { nx := fun _ H' => Q .non H', rt := Q } (start N vs) H) : Def P w K mg base cc (k + 1) x ps sp := by
  obtain ⟨f, fd, F, hm⟩ := F
  exact ⟨f, fd, hm, F.kp, F.binds hb, fn_sx F S len fun cdv A outer s H vs Q E hr h => body f cdv A outer s H vs Q E hr h⟩
end
/-- law's promise: a list of at most 63 ints is handed in, True comes out -/
def spLaw (K : PySem.W.Frag) : Sp := fun vs H Q _ => ∃ (a : Addr) (ns : List Int), vs = [.ref a] ∧ SqL K H a (ns.map V.int) ∧ ns.length ≤ 63 ∧ ∀ H', Q (.bl true) H'
end L2

namespace L2
open PySem PySem.Spec PyProof.Rows

/-! ### texts -/
/-- z[lo:hi] -/
def cutS (z : Str) (lo hi : Option Int) : Str := ⟨((z.cps.toList.drop (HT.sIx z.length 0 lo)).take (HT.sIx z.length z.length hi - HT.sIx z.length 0 lo)).toArray⟩
theorem sIx_clip (n d : Nat) (v : Int) : max 0 (min (if v < 0 then v + (n : Int) else v) (n : Int)) = ((HT.sIx n d (some v) : Nat) : Int) := by
  rw [← HT.clip_eq]
  split <;> omega
theorem strSl (lo hi : Option Int) (n : Nat) : Builtin.Str.strSliceIndices lo hi 1 n = (List.range (HT.sIx n n hi - HT.sIx n 0 lo)).map (fun m => HT.sIx n 0 lo + m) := by
  have e : Builtin.Str.strSliceIndices lo hi 1 n = sliceRange ((HT.sIx n 0 lo : Nat) : Int) ((HT.sIx n n hi : Nat) : Int) 1 := by
    cases lo with
    | none =>
      cases hi with
      | none => rfl
      | some v => rw [← sIx_clip n n v]; rfl
    | some u =>
      cases hi with
      | none => rw [← sIx_clip n 0 u]; rfl
      | some v => rw [← sIx_clip n 0 u, ← sIx_clip n n v]; rfl
  rw [e]
  generalize HT.sIx n 0 lo = a
  generalize HT.sIx n n hi = b
  by_cases h : a ≤ b
  · have := StrLaws.strSliceIndices_plain (len := b) h (Nat.le_refl b)
    rw [← this]
    have e2 : Builtin.Str.strSliceIndices (some (a : Int)) (some (b : Int)) 1 b = sliceRange (a : Int) (b : Int) 1 := by
      have h1 : ¬ ((a : Int) < 0) := by omega
      have h2 : ¬ ((b : Int) < 0) := by omega
      have e1 : max (0 : Int) (min (a : Int) (b : Int)) = a := by omega
      have e2 : max (0 : Int) (min (b : Int) (b : Int)) = b := by omega
      simp only [Builtin.Str.strSliceIndices, h1, h2, if_false, e1, e2, show ((1 : Int) > 0) = True from by simp, if_true]
    rw [e2]
  · have e3 : b - a = 0 := by omega
    rw [e3]
    have : ¬ ((a : Int) < b) := by omega
    simp [sliceRange, this]
theorem picked_cut (z : Str) (lo hi : Option Int) : (⟨((Builtin.Str.strSliceIndices lo hi 1 z.length).filterMap (z.cps[·]?)).toArray⟩ : Str) = cutS z lo hi := by
  rw [strSl]
  unfold cutS
  have h1 := HT.sIx_le z.length z.length (Nat.le_refl _) hi
  have hl : z.cps.toList.length = z.length := by simp [Str.length]
  by_cases h : HT.sIx z.length 0 lo ≤ HT.sIx z.length z.length hi
  · have := StrLaws.picks z.cps.toList (HT.sIx z.length z.length hi - HT.sIx z.length 0 lo) (HT.sIx z.length 0 lo) (by omega)
    rw [← this]
    simp
  · have e3 : HT.sIx z.length z.length hi - HT.sIx z.length 0 lo = 0 := by omega
    rw [e3]
    simp
theorem isPart_of {v : Value} {o : Option Int} (h : IsPart v o) : ∃ l : Option (Int × Tok), v = partValue l ∧ l.map (·.1) = o := by
  cases h with
  | none => exact ⟨none, rfl, rfl⟩
  | int i t => exact ⟨some (i, t), rfl, rfl⟩
theorem sl_str {X : Cx} : SlR X (fun x lo hi H Q => ∃ z, x = .str z ∧ z.length ≤ sizeLine ∧ Q (.str (cutS z lo hi)) H) := by
  intro pins s σ H x v vl vu lo hi sl Q I rx hs pl pu h
  obtain ⟨z, rfl, hz, q⟩ := h
  obtain ⟨t, rfl⟩ := rx
  refine ⟨"str", _, F.slot_str_getitem.lookup, typeIs_str s z t, ?_⟩
  obtain ⟨l, rfl, rfl⟩ := isPart_of pl
  obtain ⟨u, rfl, rfl⟩ := isPart_of pu
  have hsl : s.heap.IsSlice sl l u none := by
    obtain ⟨o, ho, hc, hd⟩ := hs
    exact ⟨o, ho, hc, hd⟩
  refine wpAny_getItem_str_slice hsl rfl ?_
  have e : (slicePicked z l u none) = Builtin.Str.strSliceIndices (l.map (·.1)) (u.map (·.1)) 1 z.length := rfl
  unfold sliceMade
  have key : (⟨((slicePicked z l u none).filterMap (z.cps[·]?)).toArray⟩ : Str) = cutS z (l.map (·.1)) (u.map (·.1)) := by rw [e]; exact picked_cut z _ _
  split
  · rename_i hh
    have hlen : (slicePicked z l u none).length = z.length := by
      simp only [Bool.and_eq_true, beq_iff_eq] at hh
      exact hh.2
    have whole : cutS z (l.map (·.1)) (u.map (·.1)) = z := by
      rw [e, strSl, List.length_map, List.length_range] at hlen
      have h1 := HT.sIx_le z.length z.length (Nat.le_refl _) (u.map (·.1))
      have hl : z.cps.toList.length = z.length := by simp [Str.length]
      unfold cutS
      by_cases hz0 : z.length = 0
      · have : z.cps.toList = [] := List.eq_nil_of_length_eq_zero (by omega)
        rw [this]
        have e2 : z.cps = #[] := by
          have := congrArg List.toArray this
          simpa using this
        obtain ⟨c⟩ := z
        simp at e2
        subst e2
        simp
      · have ha : HT.sIx z.length 0 (l.map (·.1)) = 0 := by omega
        have hb : HT.sIx z.length z.length (u.map (·.1)) = z.length := by omega
        rw [ha, hb, List.drop_zero, Nat.sub_zero, List.take_of_length_le (by omega)]
    exact ⟨.str (cutS z (l.map (·.1)) (u.map (·.1))), H, I, ⟨t, by rw [whole]⟩, q⟩
  · rw [key]
    refine ⟨?_, .str (cutS z (l.map (·.1)) (u.map (·.1))), H, I.tok _, ⟨_, rfl⟩, q⟩
    have : (cutS z (l.map (·.1)) (u.map (·.1))).length ≤ z.length := by
      unfold cutS Str.length
      simp
      omega
    omega
section
variable {X : Cx} {H : Hp} {Q : VK} {z y : Str}
theorem s_str {lo hi : Option Int} (h : z.length ≤ sizeLine) (g : Q (.str (cutS z lo hi)) H) : SL X (.str z) lo hi H Q := ⟨_, sl_str, z, rfl, h, g⟩
theorem mt_by {id : String} {r : V → List V → Hp → VK → Prop} {x : V} {xs : List V} (h : MtR X id r) (q : r x xs H Q) : MT X id x xs H Q := ⟨r, h, q⟩
theorem strsAre_of {ys : List Str} : ∀ {us : List Value}, Vals (ys.map V.str) us → StrsAre us ys := by
  induction ys with
  | nil => intro us r; cases r; exact .nil
  | cons y ys ih =>
    intro us r
    cases r with
    | cons r rr =>
      obtain ⟨t, rfl⟩ := r
      exact .cons y t (ih rr)
theorem m_join {q : Addr} {ys : List Str} (h : SqL X.K H q (ys.map V.str)) (hw : (ys.map (·.length)).sum + ys.length * z.length ≤ 16777216) (g : Q (.str (Str.join z ys)) H) : MT X "str.join" (.str z) [.ref q] H Q := by
  refine mt_by (r := fun x xs H Q => ∃ z q ys, x = .str z ∧ xs = [.ref q] ∧ SqL X.K H q (ys.map V.str) ∧ (ys.map (·.length)).sum + ys.length * z.length ≤ 16777216 ∧ Q (.str (Str.join z ys)) H) ?_ ⟨z, q, ys, rfl, rfl, h, hw, g⟩
  intro pins s σ H x xs v us Q I rx rs h
  obtain ⟨z, q, ys, rfl, rfl, h, hw, g⟩ := h
  obtain ⟨t, rfl⟩ := rx
  obtain ⟨u, rfl, ru⟩ := vals1 rs
  cases (show u = Value.ref q from ru)
  obtain ⟨its, rv, pl, _⟩ := I.list h
  refine join_list pl.isList (by simpa using strsAre_of rv) hw fun t' k => ⟨.str (Str.join z ys), H, I.tok k, ⟨t', ?_⟩, g⟩
  have e : Txt.join z ys = Str.join z ys := by
    unfold Txt.join
    cases ys with
    | nil => rfl
    | cons y r => exact StrLaws.glued_cons z r y
  rw [e]
theorem m_starts (g : Q (.bl (Txt.startswith z y)) H) : MT X "str.startswith" (.str z) [.str y] H Q := by
  refine mt_by (r := fun x xs H Q => ∃ z y, x = .str z ∧ xs = [.str y] ∧ Q (.bl (Txt.startswith z y)) H) ?_ ⟨z, y, rfl, rfl, g⟩
  intro pins s σ H x xs v us Q I rx rs h
  obtain ⟨z, y, rfl, rfl, g⟩ := h
  obtain ⟨t, rfl⟩ := rx
  obtain ⟨u, rfl, ru⟩ := vals1 rs
  obtain ⟨t', rfl⟩ := ru
  exact SC.startswith ⟨.bl _, H, I, rfl, g⟩
/-- all(a list of truths) -/
theorem c_all {q : Addr} {bs : List Bool} (hc : X.calm = true) (h : SqL X.K H q (bs.map V.bl)) (g : Q (.bl (bs.all id)) H) : CL X (.builtin "all") [.ref q] H Q := by
  refine cl_by (r := fun xs H Q => ∃ q bs, xs = [.ref q] ∧ SqL X.K H q (bs.map V.bl) ∧ Q (.bl (bs.all id)) H) ?_ ⟨q, bs, rfl, h, g⟩
  intro pins s σ H xs us Q I r h
  obtain ⟨q, bs, rfl, h, g⟩ := h
  obtain ⟨u, rfl, ru⟩ := vals1 r
  cases (show u = Value.ref q from ru)
  obtain ⟨its, rv, pl, hz⟩ := I.list h
  refine call_all_walk (wpAny_pyIter_list pl.isList ?_)
  have hq : q < s.heap.objs.size := by
    obtain ⟨o, ho, _⟩ := pl.isList
    exact Heap.lt_size ho
  have hlen : its.length = bs.length := by have := rv.length; rw [List.length_map] at this; exact this.symm
  refine ⟨s.heap.objs.size, [s.heap.objs.size, q], [s.heap.objs.size], its.toArray.size, (fun i v => its.toArray[i]? = some v), (fun i h => h.IsListIter s.heap.objs.size q i ∧ h.IsList q its.toArray), fun i => bs.getD i true, rfl, Walks.list (A := X.A.in1) (show X.A.in1.handled = none from I.ok.hd hc) s.heap.objs.size q (Nat.ne_of_lt hq) its.toArray, ⟨⟨_, Heap.get?_push_size _ rfl, rfl, rfl⟩, ?_⟩, ?_, fun h' tk hk => ?_⟩
  · obtain ⟨o, ho, r⟩ := pl.isList
    exact ⟨o, Heap.get?_push_of_some _ ho, r⟩
  · intro i v s Q E hv hq
    have hv' : its[i]? = some v := by simpa using hv
    have hi : i < bs.length := by rw [← hlen]; exact (List.getElem?_eq_some_iff.mp hv').1
    obtain ⟨u, e1, e2⟩ := rv.get (i := i) (x := V.bl bs[i]) (by simp [hi])
    rw [hv'] at e1
    cases e1
    cases (show v = Value.bool bs[i] from e2)
    refine wpAny_truthy_bool ?_
    have : bs.getD i true = bs[i] := by simp [hi]
    have hq' : Q (bs.getD i true) s := hq
    rw [this] at hq'
    exact hq'
  · have e : (List.range its.toArray.size).all (fun i => bs.getD i true) = bs.all id := by
      rw [List.size_toArray, hlen, Bool.eq_iff_iff, List.all_eq_true, List.all_eq_true]
      constructor
      · intro h b hb
        obtain ⟨i, hi, e⟩ := List.getElem_of_mem hb
        have := h i (by simpa using hi)
        simpa [hi, e] using this
      · intro h i hi
        have hi' : i < bs.length := by simpa using hi
        have := h bs[i] (List.getElem_mem hi')
        simpa [hi'] using this
    rw [e]
    have fp := I.fpOk (Nat.le_refl _) (I.hok.fresh (Nat.le_refl _))
    have I1 : Inv X pins σ H { s with heap := s.heap.push { cls := .type "list_iterator", data := .fields #[.ref q, .int 0 0] } } := I.kept (t' := s.toks) fun b o e => Heap.get?_push_of_some _ e
    refine ⟨.bl _, H, I1.turned (it := s.heap.objs.size) (fun b o hb e => hk b o (by simpa using hb) e) (I.hok.fresh (Nat.le_refl _)) fp.2.1 fp.2.2.2.1 fp.2.2.2.2.1 fp.2.2.2.2.2, rfl, g⟩
end
theorem compSc_of {env : Env} {scope : Scope} (sc : Scope) (hsc : env.scope = sc) (hk : scope.kind = .function)
    (h : (scope.names.all fun y => (if y.2 == .free then (sc.names.lookup y.1 == some .cell || sc.names.lookup y.1 == some .free) else true) && y.2 != .cell && (if y.2 == .local then scope.names.lookup y.1 == some .local else true)) = true) : CompSc env scope := by
  have h' := List.all_eq_true.mp h
  refine ⟨hk, fun y hy e => ?_, fun y hy e => ?_, fun y hy e => ?_⟩
  · have q := h' y hy
    simp only [e, beq_self_eq_true, if_true, Bool.and_eq_true, Bool.or_eq_true, beq_iff_eq] at q
    show env.scope.names.lookup y.1 = _ ∨ env.scope.names.lookup y.1 = _
    rw [hsc]
    exact q.1.1
  · have q := h' y hy
    rw [e] at q
    simp at q
  · have q := h' y hy
    simp only [e, Bool.and_eq_true, beq_iff_eq, beq_self_eq_true, if_true] at q
    exact q.2
theorem list_of_pi {α : Type} {xs : List V} {ys : List α} (f : α → V) (hl : xs.length = ys.length) (h : ∀ (i : Nat) v, xs[i]? = some v → ∃ c, ys[i]? = some c ∧ v = f c) : xs = ys.map f := by
  apply List.ext_getElem?
  intro i
  rw [List.getElem?_map]
  cases e : xs[i]? with
  | none =>
    have : xs.length ≤ i := List.getElem?_eq_none_iff.mp e
    rw [List.getElem?_eq_none (by omega)]
    rfl
  | some v =>
    obtain ⟨c, e1, e2⟩ := h i v e
    rw [e1, e2]
    rfl
section
variable {X : Cx} {H : Hp} {Q : VK}
theorem o_p18 (q : Q (.int 1000000000000000000) H) : OP X (binaryOp .Pow) (.int 10) (.int 18) H Q := o_pow ⟨by decide, by decide, by decide⟩ (show Q (.int (10 ^ (18 : Int).toNat)) H from (show (10 : Int) ^ (18 : Int).toNat = 1000000000000000000 from by decide) ▸ q)
end
end L2

namespace L2
open PySem PySem.Spec PyProof.Rows

/-! ### f-strings -/
def EJ (X : Cx) (vs : List Expr) (out : Str) (σ : St) (H : Hp) (Q : VK) : Prop :=
  ∀ (pins : List (Addr × Obj)) (s : Shared), Inv X pins σ H s → wpAny (model X.prog X.w) X.A (joinParts out (evalEach vs X.env)) (EP X pins σ Q) X.xe s
section
variable {X : Cx} {σ : St} {H : Hp} {Q : VK} {v v₁ v₂ : Expr} {rest : List Expr} {pos : Pos} {out : Str}
theorem ev_fstr (h : EJ X (v₁ :: v₂ :: rest) Str.empty σ H Q) : EV X (.JoinedStr (v₁ :: v₂ :: rest) pos) σ H Q := fun pins s I => h pins s I
theorem ej_nil (hl : out.length ≤ sizeLine) (q : Q (.str out) H) : EJ X [] out σ H Q := fun pins s I => joinParts_nil ⟨.str out, H, I.tok _, ⟨_, rfl⟩, q⟩ hl
theorem ej_cons (h : EV X v σ H fun x H1 => ∃ y, x = .str y ∧ (out ++ y).length ≤ sizeLine ∧ EJ X rest (out ++ y) σ H1 Q) : EJ X (v :: rest) out σ H Q := fun pins s I => by
  refine joinParts_cons (thn (h pins s I) fun u s1 ⟨x, H1, I1, r, y, e, hl, q⟩ => ?_)
  subst e
  obtain ⟨t, rfl⟩ := r
  exact ⟨hl, q pins s1 I1⟩
theorem ev_fmtS (h : EV X v σ H fun x H1 => ∃ z, x = .str z ∧ z.length ≤ sizeLine ∧ Q (.str z) H1) : EV X (.FormattedValue v (-1) none pos) σ H Q := fun pins s I => by
  refine FormattedValue_plain (thn (h pins s I) fun u s1 ⟨x, H1, I1, r, z, e, hl, q⟩ => ?_)
  subst e
  obtain ⟨t, rfl⟩ := r
  exact formatField_str (fun t' tk => ⟨.str z, H1, I1.tok tk, ⟨t', rfl⟩, q⟩) hl
theorem ev_fmtI (h : EV X v σ H fun x H1 => ∃ i, x = .int i ∧ i.natAbs.log2 < 1920 ∧ Q (.str (toString i)) H1) : EV X (.FormattedValue v (-1) none pos) σ H Q := fun pins s I => by
  refine FormattedValue_plain (thn (h pins s I) fun u s1 ⟨x, H1, I1, r, z, e, hl, q⟩ => ?_)
  subst e
  obtain ⟨t, rfl⟩ := r
  exact formatField_int_small hl ⟨.str (toString z), H1, I1.tok _, ⟨_, rfl⟩, q⟩
end

/-- a text of bounded length, whatever it is -/
def EJL (X : Cx) (vs : List Expr) (n : Nat) (σ : St) (H : Hp) (R : Hp → Prop) : Prop := ∀ out : Str, out.length ≤ n → ∀ Q : VK, (∀ z H', R H' → Q (.str z) H') → EJ X vs out σ H Q
theorem app_len (x y : Str) : (x ++ y).length = x.length + y.length := by
  show (x.cps ++ y.cps).size = _
  rw [Array.size_append]
  rfl
section
variable {X : Cx} {σ : St} {H : Hp} {Q : VK} {R : Hp → Prop} {v v₁ v₂ : Expr} {rest : List Expr} {pos : Pos} {n : Nat}
theorem ev_fstrL (h : EJL X (v₁ :: v₂ :: rest) 0 σ H fun H' => ∀ z, Q (.str z) H') : EV X (.JoinedStr (v₁ :: v₂ :: rest) pos) σ H Q := ev_fstr (h Str.empty (Nat.le_refl _) Q fun z H' r => r z)
theorem ejl_nil (hn : n ≤ sizeLine) (r : R H) : EJL X [] n σ H R := fun out ho Q k => ej_nil (Nat.le_trans ho hn) (k out H r)
theorem ejl_cons (h : EV X v σ H fun x H1 => ∃ y m, x = .str y ∧ y.length ≤ m ∧ n + m ≤ sizeLine ∧ EJL X rest (n + m) σ H1 R) : EJL X (v :: rest) n σ H R := fun out ho Q k =>
  ej_cons (ev_mono h fun x H1 ⟨y, m, e, hy, hm, q⟩ => ⟨y, e, by rw [app_len]; omega, q (out ++ y) (by rw [app_len]; omega) Q k⟩)
end

/-! ### raising -/
abbrev bmV : List Value := [.type "ValueError", .type "Exception", .type "BaseException", .type "object"]
/-- the class that a name of the top stands for -/
def clsA (mg : Str → Option Value) (x : Str) : Addr := match mg x with
  | some (.ref C) => C
  | _ => 0
theorem clsA_eq {mg : Str → Option Value} {x : Str} {C : Addr} (h : mg x = some (.ref C)) : clsA mg x = C := by unfold clsA; rw [h]
/-- a class of refusals under ValueError, without a making of its own -/
structure XCls (K : PySem.W.Frag) (mg : Str → Option Value) (x : Str) : Prop where
  at_ : mg x = some (.ref (clsA mg x))
  ex : PySem.W.excIn K (clsA mg x) bmV "ValueError.__new__" = true
theorem xcls_mk {K : PySem.W.Frag} {mg : Str → Option Value} {x : Str} {C : Addr} (h : mg x = some (.ref C)) (e : PySem.W.excIn K C bmV "ValueError.__new__" = true) : XCls K mg x := by
  have z : clsA mg x = C := by unfold clsA; rw [h]
  exact ⟨by rw [z]; exact h, by rw [z]; exact e⟩
theorem exc_obj {K : PySem.W.Frag} {C : Addr} {h : Heap} (kin : K.In h) (e : PySem.W.excIn K C bmV "ValueError.__new__" = true) :
    ∃ bm N nm q bs hdct sn sub ab col dd k0 k1 k2 k3 k5 mN, h.get? C = some (excClassObj nm q C N bs bm hdct sn sub ab col dd k0 k1 k2 k3 k5 "ValueError.__new__") ∧ h.Ns N mN ∧ mN "__init__" = none ∧ OwnTail h bmV bm := by
  unfold PySem.W.excIn at e
  split at e
  · rename_i dd cd sl ho
    split at e
    · rename_i C' bm k0 k1 k2 k3 n k5 hm hs
      simp only [Bool.and_eq_true, beq_iff_eq, Bool.not_eq_true'] at e
      obtain ⟨⟨⟨⟨⟨e1, e2⟩, e3⟩, e4⟩, e5⟩, e6⟩ := e
      subst e1 e2
      obtain ⟨nm, bs, mro, ns, qn, hd, sn, sub, ab, col, del⟩ := cd
      dsimp only at hm e3 e5 e6
      subst hm e3
      have hl : sl = #[k0, k1, k2, k3, some (.builtin "ValueError.__new__"), k5] := by
        obtain ⟨l⟩ := sl
        simp only at hs
        rw [hs]
      subst hl
      exact ⟨bm, ns, nm, qn, bs, hd, sn, sub, ab, col, dd, k0, k1, k2, k3, k5, _, kin _ _ ho, .of_isNs (PySem.W.isNs_of_in kin e5), PySem.W.nsMap_none_of_in kin e5 e6, PySem.W.tail_of_in kin e4⟩
    · cases e
  · cases e
section
variable {X : Cx} {Kx : St → XK} {D : Ends} {σ : St} {H : Hp} {x : Str} {np cpos pos : Pos} {e : Expr} {es : List Expr}
theorem sx_raise (hx : XOk X Kx) (hc : X.calm = true) (O : XCls X.K X.mg x) (hg : Gl X x) (hd : (x == ("__debug__" : Str)) = false) (he : starEach (e :: es) X.env = (false, eval e X.env) :: starEach es X.env)
    (hpl : (backTo cpos (starEach es X.env)).any (·.1) = false) (h : EA X (e :: es) σ H fun vs H1 => vs.length ≤ sizeLine ∧ Kx σ (.ref (clsA X.mg x)) (none, true) H1) :
    SX X (.Raise (some (.Call (.Name x np) (e :: es) [] cpos)) none pos) D σ H := by
  intro pins s I
  obtain ⟨bm, N, nm, q, bs, hdct, sn, sub, ab, col, dd, k0, k1, k2, k3, k5, mN, hC, hN, hni, T⟩ := exc_obj I.ok.mod.kin O.ex
  refine wpAny_Raise_call_subT (C := clsA X.mg x) (nm := nm) (q := q) (N := N) (bs := bs) (bm := bm) (hdct := hdct) (sn := sn) (sub := sub) (ab := ab) (col := col) (dd := dd) (k0 := k0) (k1 := k1) (k2 := k2) (k3 := k3) (k5 := k5)
    F.excBase_ValueError (mN := mN) (T.hasType (by decide +kernel)) (I.ok.hd hc) ?_ hni (ld_glob I hg O.at_ ⟨rfl, ?_⟩ hd)
  · rw [he]
    show (false || (backTo cpos (starEach es X.env)).any (·.1)) = false
    rw [hpl]
    rfl
  · have h' := h cpos pins s I
    rw [he] at h' ⊢
    refine Calls.evalArgs_plain (thn h' fun us s2 ⟨vs, H1, I2, r, hl, kq⟩ => ⟨rfl, by rw [← r.length]; exact hl, I2.bk _ _ hC, hN.keeps I2.bk, T.keeps I2.bk, fun h3 a M => ?_⟩)
    obtain ⟨t, m1, m2, m3⟩ := M.there
    refine hx pins σ H1 _ a _ (none, true) ⟨I2.kept (t' := s2.toks) M.keeps, none, .none, ⟨_, _, m1, rfl, rfl, rfl, rfl, by simp, Ctx.yes rfl, fun T z => nomatch z⟩, .inl rfl, fun b hb => ?_⟩ kq
    have z : b = a := by simpa using hb
    subst z
    exact ⟨I2.hok.free M.new, I2.ch M.new⟩
end

/-! ### try -/
/-- code within a try: what becomes of its exceptions, the pins that every state bears -/
abbrev Cx.tri (X : Cx) (F : Value → Shared → Prop) (pn : List (Addr × Obj)) : Cx := { X with xe := F, pn := pn }
/-- code within an except suite -/
abbrev Cx.inEx (X : Cx) (e : Value) (F : Value → Shared → Prop) (pn : List (Addr × Obj)) : Cx := { X with A := X.A.mark (some e), calm := false, xe := F, pn := pn }
section
variable {X : Cx} {pins pins' : List (Addr × Obj)} {σ : St} {H : Hp} {s : Shared} {F : Value → Shared → Prop} {e : Value}
theorem Cx.Ok.tri (ok : X.Ok) (pn : List (Addr × Obj)) : (X.tri F pn).Ok :=
  ⟨ok.mod, ok.kind, ok.glob, ok.blt, ok.above, ok.inj, ok.has, ok.cab, ok.hd, ok.frames, ok.stk, ok.exf, ok.bs, ok.bsz, ok.noex, ok.exfs, ok.funs, ok.frf⟩
theorem Cx.Ok.inEx (ok : X.Ok) (pn : List (Addr × Obj)) : (X.inEx e F pn).Ok :=
  ⟨ok.mod, ok.kind, ok.glob, ok.blt, ok.above, ok.inj, ok.has, ok.cab, (fun z => nomatch z), ok.frames, ok.stk, ok.exf, ok.bs, ok.bsz, ok.noex, ok.exfs, ok.funs, ok.frf⟩
theorem Inv.tri (I : Inv X pins σ H s) : Inv (X.tri F (X.pn ++ pins)) [] σ H s :=
  ⟨I.ok.tri _, I.os, I.bare, I.base, I.loc, I.cell, I.free, I.freeC, fun p hp => I.pin p (by simpa using hp), I.hok, I.len⟩
theorem Inv.inEx (I : Inv X pins σ H s) : Inv (X.inEx e F (X.pn ++ pins)) [] σ H s :=
  ⟨I.ok.inEx _, I.os, I.bare, I.base, I.loc, I.cell, I.free, I.freeC, fun p hp => I.pin p (by simpa using hp), I.hok, I.len⟩
theorem Inv.untri (ok : X.Ok) (I : Inv (X.tri F (X.pn ++ pins)) pins' σ H s) : Inv X pins σ H s :=
  ⟨ok, I.os, I.bare, I.base, I.loc, I.cell, I.free, I.freeC, fun p hp => I.pin p (List.mem_append_left _ hp), I.hok, I.len⟩
theorem Inv.uninEx (ok : X.Ok) (I : Inv (X.inEx e F (X.pn ++ pins)) pins' σ H s) : Inv X pins σ H s :=
  ⟨ok, I.os, I.bare, I.base, I.loc, I.cell, I.free, I.freeC, fun p hp => I.pin p (List.mem_append_left _ hp), I.hok, I.len⟩
theorem Ch.untri {b : Addr} (c : Ch (X.tri F (X.pn ++ pins)) pins' b) : Ch X pins b := ⟨c.1, c.2.1, c.2.2.1, fun p hp => c.2.2.2 p (List.mem_append_left _ hp)⟩
end
/-- the handling of an exception that was noted -/
def EH (X : Cx) (hs : List ExceptHandler) (D : Ends) (σ : St) (cls : Value) (d : Option Addr × Bool) (H : Hp) : Prop :=
  ∀ (pins : List (Addr × Obj)) (s : Shared) (e T : Addr), Inv X pins σ H s → Flies s.heap e cls d (some T) .none → (∀ b ∈ [e, T], H b = none ∧ Ch X pins b) →
    wpAny (model X.prog X.w) X.A (handleBy (.ref e) X.env hs) (SP X pins D) X.xe s
section
variable {X : Cx} {D : Ends} {σ : St} {H : Hp} {h₀ : ExceptHandler} {hs rest : List ExceptHandler} {body orelse suite : List Stmt} {b₀ : Stmt} {pos np : Pos} {x n : Str} {cls c : Value} {d : Option Addr × Bool}
theorem sx_try (Kx : St → XK) (hst : X.stack = X.env :: X.outer) (hf : X.env.frame = some X.env.locals)
    (hb : ∀ F pn, XOk (X.tri F pn) Kx → PassesOwn (model X.prog X.w) X.A X.env F → SXs (X.tri F pn) body { D with nx := fun σ' H' => SXs X orelse D σ' H' } σ H)
    (hh : ∀ σ' cls d H', Kx σ' cls d H' → EH X (h₀ :: hs) D σ' cls d H') : SX X (.Try body (h₀ :: hs) orelse [] pos) D σ H := by
  intro pins s I
  refine wpAny_Try_except ?_
  refine wpAny_mono (hb (fun e s1 => wpAny (model X.prog X.w) X.A (noteFrame e X.env) (fun _ s2 => wpAny (model X.prog X.w) X.A (setFlight e none) (fun _ s3 => wpAny (model X.prog X.w) X.A (handleBy e X.env (h₀ :: hs)) (SP X pins D) X.xe s3) X.xe s2) X.xe s1)
    (X.pn ++ pins) ?_ PassesOwn.looking [] s I.tri) (fun f s1 q => ?_) fun _ _ q => q
  · intro pins' σ' H' s' e cls d xa q
    obtain ⟨I', tb, fl, F', hfl, ch⟩ := xa
    have I2 := Inv.untri I.ok I'
    refine XAt.note (X := X) (pins := pins) ⟨I2, tb, fl, F', hfl, fun b hb => ⟨(ch b hb).1, (ch b hb).2.untri⟩⟩ hst hf fun s2 T I3 F3 c3 => ?_
    exact I3.off F3 c3 fun s4 I4 F4 => hh σ' cls d H' q pins s4 e T I4 F4 c3
  · cases f with
    | next =>
      obtain ⟨σ', H', J, q⟩ := q
      exact q pins s1 (Inv.untri I.ok J)
    | brk =>
      obtain ⟨σ', H', J, q⟩ := q
      exact ⟨σ', H', Inv.untri I.ok J, q⟩
    | cont =>
      obtain ⟨σ', H', J, q⟩ := q
      exact ⟨σ', H', Inv.untri I.ok J, q⟩
    | ret u =>
      obtain ⟨v, σ', H', J, r, q⟩ := q
      exact ⟨v, σ', H', Inv.untri I.ok J, r, q⟩

theorem Flies.ty {M : Model} {h : Heap} {e : Addr} {tb : Option Addr} {fl : Value} (F : Flies h e cls d tb fl) : PySem.W.Looks M h (typeOf (.ref e)) cls := by
  obtain ⟨oe, vs, he, hc, _⟩ := F
  subst hc
  exact (PySem.W.Looks.ld he).andThen .now
/-- the clause's test, by a name of the top -/
theorem test_ok {X : Cx} {pins : List (Addr × Obj)} {s : Shared} {e : Addr} {tb : Option Addr} {fl : Value} {k : Bool} {R : Result → Shared → Prop} (I : Inv X pins σ H s) (F : Flies s.heap e cls d tb fl) (hg : Gl X x) (hm : X.mg x = some c) (hd : (x == ("__debug__" : Str)) = false)
    (ex : PySem.W.exmOne X.K cls c = some k) (h : R (.ok (if k then .brk else .next)) s) : codeAny (model X.prog X.w) (X.A.mark (some (.ref e))) (.handlers (.ref e) [.ExceptHandler (some (.Name x np)) none [] pos] X.env) R s := by
  refine codeAny_handlers_test ?_
  have J : Inv (X.inEx (.ref e) X.xe (X.pn ++ pins)) [] σ H s := I.inEx
  exact ld_glob (X := X.inEx (.ref e) X.xe (X.pn ++ pins)) J hg hm ((PySem.W.exm_one I.kIn F.ty ex).here h) hd
end
end L2

namespace L2
open PySem PySem.Spec PyProof.Rows

/-! ### plain data: lists and tuples of data, at any depth -/
mutual
inductive RD (K : PySem.W.Frag) (H : Hp) : V → PyData → Prop
  | non : RD K H .non .none
  | bl (b : Bool) : RD K H (.bl b) (.bool b)
  | int (i : Int) : RD K H (.int i) (.int i)
  | str (x : Str) : RD K H (.str x) (.str x)
  | lst {a : Addr} {xs : List V} {ds : List PyData} (h : SqL K H a xs) (r : RDs K H xs ds) : RD K H (.ref a) (.list ds)
  | tup {a : Addr} {xs : List V} {ds : List PyData} (h : SqT K H a xs) (r : RDs K H xs ds) : RD K H (.ref a) (.tuple ds)
inductive RDs (K : PySem.W.Frag) (H : Hp) : List V → List PyData → Prop
  | nil : RDs K H [] []
  | cons {x : V} {d : PyData} {xs : List V} {ds : List PyData} (h : RD K H x d) (r : RDs K H xs ds) : RDs K H (x :: xs) (d :: ds)
end
section
variable {X : Cx} {H : Hp} {Q : VK} {x y : V} {d d' : PyData}
end
end L2

namespace L2
open PySem PySem.Spec PyProof.Rows
/-! ### parts of a text, by places -/
def stAt (l : List Stmt) (i : Nat) : Stmt := l.getD i (.Pass ⟨0, 0, 0, 0⟩)
def inFor (s : Stmt) : List Stmt := match s with
  | .For _ _ b _ _ => b
  | _ => []
def inIf (s : Stmt) : List Stmt := match s with
  | .If _ b _ _ => b
  | _ => []
def inElse (s : Stmt) : List Stmt := match s with
  | .If _ _ b _ => b
  | _ => []
def inTry (s : Stmt) : List Stmt := match s with
  | .Try b _ _ _ _ => b
  | _ => []
/-! ### is None of a value whose kind is known -/
theorem iteZ {A B : Prop} (h : A) : if decide (V.non = V.non) = true then A else B := by rw [if_pos (by decide)]; exact h
theorem iteZi {A B : Prop} {i : Int} (h : B) : if decide (V.int i = V.non) = true then A else B := by rw [if_neg (by simp)]; exact h
/-- int of a text -/
theorem c_intS {X : Cx} {H : Hp} {Q : VK} {z : Str} {n : Int} (hn : intText? z = some n) (hl : z.length ≤ 640) (q : Q (.int n) H) : CL X (.type "int") [.str z] H Q := by
  refine cl_by (r := fun xs H Q => ∃ z n, xs = [.str z] ∧ intText? z = some n ∧ z.length ≤ 640 ∧ Q (.int n) H) ?_ ⟨z, n, rfl, hn, hl, q⟩
  intro pins s σ H xs us Q I r h
  obtain ⟨z, n, rfl, hn, hl, q⟩ := h
  obtain ⟨u, rfl, ru⟩ := vals1 r
  obtain ⟨t, rfl⟩ := ru
  exact PySem.W.KIN.call_text hn hl ⟨.int n, H, I.tok _, ⟨_, rfl⟩, q⟩
/-- a text some times -/
def repS (x : Str) (n : Int) : Str := ⟨(List.replicate n.toNat x.cps).foldl (· ++ ·) #[]⟩
/-! ### isinstance -/
theorem is_int_int {X : Cx} {H : Hp} {Q : VK} {i : Int} (q : Q (.bl true) H) : CL X (.builtin "isinstance") [V.int i, .ty "int"] H Q := c_isinst (TyOf.int _) (k := true) (by rfl) q
theorem is_int_bool {X : Cx} {H : Hp} {Q : VK} {i : Int} (q : Q (.bl false) H) : CL X (.builtin "isinstance") [V.int i, .ty "bool"] H Q := c_isinst (TyOf.int _) (k := false) (by rfl) q
theorem is_int_str {X : Cx} {H : Hp} {Q : VK} {i : Int} (q : Q (.bl false) H) : CL X (.builtin "isinstance") [V.int i, .ty "str"] H Q := c_isinst (TyOf.int _) (k := false) (by rfl) q
theorem is_str_str {X : Cx} {H : Hp} {Q : VK} {i : Str} (q : Q (.bl true) H) : CL X (.builtin "isinstance") [V.str i, .ty "str"] H Q := c_isinst (TyOf.str _) (k := true) (by rfl) q
theorem is_NoneType_str {X : Cx} {H : Hp} {Q : VK}  (q : Q (.bl false) H) : CL X (.builtin "isinstance") [V.non, .ty "str"] H Q := c_isinst (TyOf.non) (k := false) (by rfl) q
/-! ### builtins by their names -/
section
variable {X : Cx} {e : Expr} {es : List Expr} {σ : St} {H : Hp} {Q : VK} {pos p : Pos}
theorem cb_len (hg : Gl X "len") (hm : X.mg "len" = none) (he : starEach (e :: es) X.env = (false, eval e X.env) :: starEach es X.env) (hpl : (backTo pos (starEach es X.env)).any (·.1) = false) (h : EA X (e :: es) σ H fun vs H1 => CL X (.builtin "len") vs H1 Q) : EV X (.Call (.Name "len" p) (e :: es) [] pos) σ H Q := ev_callB hg hm PySem.boot_len (by decide) (by decide) he hpl h
theorem cb_isinstance (hg : Gl X "isinstance") (hm : X.mg "isinstance" = none) (he : starEach (e :: es) X.env = (false, eval e X.env) :: starEach es X.env) (hpl : (backTo pos (starEach es X.env)).any (·.1) = false) (h : EA X (e :: es) σ H fun vs H1 => CL X (.builtin "isinstance") vs H1 Q) : EV X (.Call (.Name "isinstance" p) (e :: es) [] pos) σ H Q := ev_callB hg hm PyProof.Rows.boot_isinstance (by decide) (by decide) he hpl h
theorem cb_all (hg : Gl X "all") (hm : X.mg "all" = none) (he : starEach (e :: es) X.env = (false, eval e X.env) :: starEach es X.env) (hpl : (backTo pos (starEach es X.env)).any (·.1) = false) (h : EA X (e :: es) σ H fun vs H1 => CL X (.builtin "all") vs H1 Q) : EV X (.Call (.Name "all" p) (e :: es) [] pos) σ H Q := ev_callB hg hm PyProof.Rows.boot_all (by decide) (by decide) he hpl h
theorem cb_max (hg : Gl X "max") (hm : X.mg "max" = none) (he : starEach (e :: es) X.env = (false, eval e X.env) :: starEach es X.env) (hpl : (backTo pos (starEach es X.env)).any (·.1) = false) (h : EA X (e :: es) σ H fun vs H1 => CL X (.builtin "max") vs H1 Q) : EV X (.Call (.Name "max" p) (e :: es) [] pos) σ H Q := ev_callB hg hm PyProof.Rows.boot_max (by decide) (by decide) he hpl h
theorem ct_str (hg : Gl X "str") (hm : X.mg "str" = none) (he : starEach (e :: es) X.env = (false, eval e X.env) :: starEach es X.env) (hpl : (backTo pos (starEach es X.env)).any (·.1) = false) (h : EA X (e :: es) σ H fun vs H1 => CL X (.type "str") vs H1 Q) : EV X (.Call (.Name "str" p) (e :: es) [] pos) σ H Q := ev_callT hg hm PyProof.Rows.boot_str (by decide) (by decide) he hpl h
theorem ct_int (hg : Gl X "int") (hm : X.mg "int" = none) (he : starEach (e :: es) X.env = (false, eval e X.env) :: starEach es X.env) (hpl : (backTo pos (starEach es X.env)).any (·.1) = false) (h : EA X (e :: es) σ H fun vs H1 => CL X (.type "int") vs H1 Q) : EV X (.Call (.Name "int" p) (e :: es) [] pos) σ H Q := ev_callT hg hm PyProof.Rows.boot_int (by decide) (by decide) he hpl h
theorem ty_str (hg : Gl X "str") (hm : X.mg "str" = none) (q : Q (.ty "str") H) : EV X (.Name "str" pos) σ H Q := ev_ty hg hm PyProof.Rows.boot_str q (by decide) (by decide)
theorem ty_int (hg : Gl X "int") (hm : X.mg "int" = none) (q : Q (.ty "int") H) : EV X (.Name "int" pos) σ H Q := ev_ty hg hm PyProof.Rows.boot_int q (by decide) (by decide)
theorem ty_bool (hg : Gl X "bool") (hm : X.mg "bool" = none) (q : Q (.ty "bool") H) : EV X (.Name "bool" pos) σ H Q := ev_ty hg hm PyProof.Rows.boot_bool q (by decide) (by decide)
end
end L2

namespace L2
open PySem PySem.Spec PyProof.Rows

/-! ### iterators that tell tuples: enumerate, zip -/
section
variable {X : Cx} {pins : List (Addr × Obj)} {σ : St} {H : Hp} {s : Shared}
/-- some records have turned, and a new tuple is there -/
theorem Inv.turnNew {ch : List Addr} {T : Addr} {xs : List V} {us : List Value} {h' : Heap} {tk : Nat} (I : Inv X pins σ H s) (hf : ∀ b ∈ ch, FpOk X pins H b) (hT : s.heap.objs.size ≤ T)
    (k : ∀ b o, b ∉ ch → s.heap.get? b = some o → h'.get? b = some o) (hz : xs.length ≤ sizeLine) (rv : Vals xs us) (tp : IsTup h' T us.toArray) : Inv X pins σ (upd H T (.tup xs)) { s with heap := h', toks := tk } := by
  have nT := I.hok.fresh hT
  have neT : ∀ b o, s.heap.get? b = some o → b ≠ T := fun b o e z => Nat.lt_irrefl _ (Nat.lt_of_lt_of_le (Heap.lt_size e) (z ▸ hT))
  have nch : ∀ b u, H b = some u → b ∉ ch := fun b u e z => by rw [(hf b z).1] at e; cases e
  refine I.call (g' := s.gens) (d' := s.drawn) (t' := tk) (ch := ch) (h' := h') ⟨fun b o e _ _ hx => k b o hx e, fun b o e _ _ hx => ⟨o.slots, k b o hx e⟩, fun b o e n _ => ?_, fun b o e hx => ⟨o, k b o hx e⟩, fun b ys e => ?_, fun b o u e => ?_, fun b ps e => ⟨#[], ?_⟩⟩ ?_ I.bare
    fun b hb => ⟨(hf b hb).2.2.2.1, (hf b hb).2.1, (hf b hb).2.2.2.2.1, (hf b hb).2.2.2.2.2⟩
  · rw [upd_ne (neT b o e)]; exact n
  · rw [upd_ne (ne_of_none e nT)]; exact e
  · rw [upd_ne (ne_of_none e nT)]; exact e
  · rw [upd_ne (ne_of_none e nT), e]; simp
  · intro b u e
    by_cases hb : b = T
    · subst hb
      rw [upd_same] at e
      cases e
      exact ⟨hz, us, rv, tp⟩
    · rw [upd_ne hb] at e
      refine (I.hok b u e).stay (fun c v hc q => k c v ?_ q) (fun c q => by rw [upd_ne (ne_of_none q nT)]; exact q) fun c ys q => by rw [upd_ne (ne_of_none q nT)]; exact q
      rcases hc with z | z
      · subst z; exact nch c u e
      · exact nch c _ z
end
/-- (0, x), (1, y), .. of the list at l -/
def Ite (K : PySem.W.Frag) (l : Addr) : It :=
  ⟨fun i H => ∃ xs x, SqL K H l xs ∧ xs[i]? = some x, fun i H v H' => ∃ T x, v = .ref T ∧ H T = none ∧ H' = upd H T (.tup [.int i, x]) ∧ ∀ xs, SqL K H l xs → xs[i]? = some x, fun i H => ∃ xs, SqL K H l xs ∧ xs.length ≤ i⟩
theorem turn_enum {P : Program} {w : World} {K : PySem.W.Frag} {elts : List Expr} {k : Nat} {pos : Pos} (l e it : Addr) (hei : e ≠ it) (hle : l ≠ e) (hli : l ≠ it) :
    Turn P w K (.Tuple elts k pos) (Ite K l) [e, it] e (fun i h => (∃ old, IsEnum h e it i old) ∧ h.IsListIter it l i) where
  mem := by simp
  obj := fun i h st b hb => by
    obtain ⟨⟨old, he⟩, o, ho, _, hd⟩ := st
    rcases List.mem_cons.mp hb with z | z
    · subst z; exact ⟨_, he, fun v z => by cases z⟩
    · have z' : b = it := by simpa using z
      subst z'
      exact ⟨o, ho, fun v z => by rw [hd] at z; cases z⟩
  keep := fun i h h' st kk => by
    obtain ⟨⟨old, he⟩, o, ho, r⟩ := st
    exact ⟨⟨old, kk e (by simp) _ he⟩, o, kk it (by simp) _ ho, r⟩
  item := by
    intro X hP hw hK hc i pins s σ H E I hf st hg
    subst hP hw hK
    obtain ⟨⟨old, he⟩, hit⟩ := st
    obtain ⟨xs, x, hS, hx⟩ := hg
    obtain ⟨its, rv, pl, hz⟩ := I.list hS
    have W := WalksT.enumerate (prog := X.prog) (w := X.w) (A := X.A) (I.ok.hd hc) e it l hei hle hli its.toArray
    have hi : i < its.toArray.size := by
      rw [List.size_toArray, ← rv.length]
      exact (List.getElem?_eq_some_iff.mp hx).1
    obtain ⟨u, hu, ru⟩ := rv.get hx
    refine W.item i s _ _ hi ⟨⟨old, he⟩, hit, pl.isList⟩ fun T vals h1 tk hp hT tup mid keep => ⟨.ref T, rfl, ?_⟩
    obtain ⟨t, y, ey, rfl⟩ := hp
    have euy : y = u := by
      have : its[i]? = some y := by simpa using ey
      rw [hu] at this
      exact (Option.some.inj this).symm
    subst euy
    refine W.go elts k pos i T { s with heap := h1, toks := tk } _ _ mid fun h2 st2 keep2 => ?_
    obtain ⟨⟨old2, he2⟩, hit2, _⟩ := st2
    have tup2 : IsTup h2 T [Value.int i t, y].toArray := by
      obtain ⟨o, ho, r⟩ := tup
      exact ⟨o, keep2 T o (W.apart i T h1 mid) ho, r⟩
    refine ⟨.ref T, upd H T (.tup [.int i, x]), I.turnNew (ch := [e, it]) (tk := tk) hf hT (fun b o hb q => keep2 b o hb (keep b o hb q)) (by show 2 ≤ sizeLine; rw [sizeLine_eq]; decide) (.cons ⟨t, rfl⟩ (.cons ru .nil)) tup2, rfl, ?_, ?_, fun b hb => ?_⟩
    · refine ⟨T, x, rfl, I.hok.fresh hT, rfl, fun ys hy => ?_⟩
      rw [← I.list_inj hS hy]
      exact hx
    · exact ⟨⟨old2, by simpa using he2⟩, hit2⟩
    · have : b ≠ T := fun z => by
        obtain ⟨o, ho, _⟩ : ∃ o, s.heap.get? b = some o ∧ True := by
          rcases List.mem_cons.mp hb with z | z
          · subst z; exact ⟨_, he, trivial⟩
          · have z' : b = it := by simpa using z
            subst z'
            obtain ⟨o, ho, _⟩ := hit
            exact ⟨o, ho, trivial⟩
        exact Nat.lt_irrefl _ (Nat.lt_of_lt_of_le (Heap.lt_size ho) (z ▸ hT))
      rw [upd_ne this]
      exact (hf b hb).1
  done := by
    intro X hP hw hK hc i pins s σ H E I hf st hg
    subst hP hw hK
    obtain ⟨⟨old, he⟩, hit⟩ := st
    obtain ⟨xs, hS, hx⟩ := hg
    obtain ⟨its, rv, pl, hz⟩ := I.list hS
    have hn : its.toArray[i]? = none := Array.getElem?_eq_none (by rw [List.size_toArray, ← rv.length]; exact hx)
    refine wpAny_pyNext_enum_end (I.ok.hd hc) he hit pl.isList hn fun h' hk => ⟨rfl, ?_⟩
    obtain ⟨f0, f1, f2, f3, f4, f5⟩ := hf it (by simp)
    exact I.turned (t' := s.toks) (it := it) (fun b o hb q => hk b o hb q) f0 f1 f3 f4 f5
  self := fun A i s Q E st h => by
    obtain ⟨⟨old, he⟩, _⟩ := st
    exact wpAny_pyIter_enum he h
section
variable {X : Cx} {σ : St} {H : Hp} {a b : Expr} {elts : List Expr} {k : Nat} {tp p pos : Pos} {R : It → Hp → Prop}
theorem ei_enum (hg : Gl X "enumerate") (hm : X.mg "enumerate" = none) (hs : starEach [a] X.env = [(false, eval a X.env)])
    (h : EV X a σ H fun v H1 => ∃ l xs, v = .ref l ∧ H1 l = some (.lst xs) ∧ R (Ite X.K l) H1) : EI X (.Tuple elts k tp) (.Call (.Name "enumerate" p) [a] [] pos) σ H R := by
  intro pins s I
  refine Call_ (ld_blt I hg hm boot_enumerate (PyProof.Rows.callWith_type1 (thn (ea_cons (es := []) (QA := fun vs H1 => ∃ l xs, vs = [.ref l] ∧ H1 l = some (.lst xs) ∧ R (Ite X.K l) H1) hs (ev_mono h fun v H1 ⟨l, xs, e, q1, q2⟩ => ea_nil ⟨l, xs, by rw [e], q1, q2⟩) pos pins s I) fun us s1 ⟨vs, H1, I1, r1, l, xs, e, hl, q⟩ => ?_) hs rfl))
  subst e
  obtain ⟨u, rfl, ru⟩ := vals1 r1
  cases (show u = Value.ref l from ru)
  obtain ⟨hz, its, n, rv, ho⟩ := I1.hok l _ hl
  refine call_enumerate_1 ho fun h' he hit hsz hk => ?_
  refine wpAny_pyIter_enum he ?_
  have hlt : l < s1.heap.objs.size := Heap.lt_size ho
  refine ⟨s1.heap.objs.size + 1, [s1.heap.objs.size + 1, s1.heap.objs.size], _, _, H1, rfl, I1.kept (t' := s1.toks) hk, turn_enum l _ _ (Nat.succ_ne_self _) (Nat.ne_of_lt (Nat.lt_succ_of_lt hlt)) (Nat.ne_of_lt hlt), ⟨⟨_, he⟩, hit⟩, fun b hb => ?_, q⟩
  have hb' : b = s1.heap.objs.size + 1 ∨ b = s1.heap.objs.size := by simpa using hb
  rcases hb' with z | z <;> subst z
  · exact I1.fpOk (Nat.le_succ _) (I1.hok.fresh (Nat.le_succ _))
  · exact I1.fpOk (Nat.le_refl _) (I1.hok.fresh (Nat.le_refl _))
end
end L2

namespace L2
open PySem PySem.Spec PyProof.Rows

section
variable {X : Cx} {pins : List (Addr × Obj)} {σ : St} {H : Hp} {s : Shared}
end
/-- (x, y) of the lists at l and m -/
def Itz (K : PySem.W.Frag) (l m : Addr) : It :=
  ⟨fun i H => ∃ xs ys x y, SqL K H l xs ∧ SqL K H m ys ∧ xs[i]? = some x ∧ ys[i]? = some y,
   fun i H v H' => ∃ T x y, v = .ref T ∧ H T = none ∧ H' = upd H T (.tup [x, y]) ∧ (∀ xs, SqL K H l xs → xs[i]? = some x) ∧ ∀ ys, SqL K H m ys → ys[i]? = some y,
   fun i H => ∃ xs ys, SqL K H l xs ∧ SqL K H m ys ∧ min xs.length ys.length ≤ i⟩
section
variable {X : Cx} {σ : St} {H : Hp} {a b : Expr} {elts : List Expr} {k : Nat} {tp p pos : Pos} {R : It → Hp → Prop}
end
end L2

namespace L2
open PySem PySem.Spec PyProof.Rows
section
variable {X : Cx} {a e : Expr} {σ : St} {H : Hp} {Q : VK} {D : Ends} {pos p p' : Pos}
/-- a comprehension, by what holds of each element and the heap -/
theorem comp_any {Y : Cx} {tg elt : Expr} {J : It} {E : Addr} {τ0 : St} {Q : Hp → Prop}
    (n : Nat) (hn : n ≤ sizeLine) (Tp : St → Prop) (hT : Tp τ0) (Pi : Nat → V → Hp → Prop) (hE : H E = none)
    (mono : ∀ i v H1 H2 ys, H1 E = some (.lst ys) → (∀ b o, b ≠ E → H1 b = some o → H2 b = some o) → Pi i v H1 → Pi i v H2)
    (go : ∀ i H1, Same H H1 → i < n → J.go i H1) (stop : ∀ H1, Same H H1 → J.stop n H1)
    (step : ∀ i τ x H1 H2, i < n → Tp τ → Same H H1 → (∃ ys, H1 E = some (.lst ys)) → J.yld i H1 x H2 → EG Y tg x τ H2 fun τ2 H3 => EV Y elt τ2 H3 fun v H4 => Tp τ2 ∧ Pi i v H4 ∧ Same H1 H4)
    (fin : ∀ H1 xs, xs.length = n → (∀ i v, xs[i]? = some v → Pi i v H1) → H1 E = some (.lst xs) → Same H H1 → Q H1) : CompT X Y tg elt [] J E τ0 H Q := by
  refine ⟨fun i m τ H1 => m = n - i ∧ i ≤ n ∧ Same H H1 ∧ Tp τ ∧ ∃ xs, H1 E = some (.lst xs) ∧ xs.length = i ∧ ∀ k v, xs[k]? = some v → Pi k v H1, ⟨n, by simp, Nat.zero_le _, Same.upd hE, hT, [], upd_same, rfl, fun k v e => by simp at e⟩, ?_⟩
  rintro i m τ H1 ⟨rfl, hi, s1, hτ, xs, eE, lx, px⟩
  by_cases hlt : i < n
  · refine .inr ⟨go i H1 s1 hlt, fun τ' H' => Same H H' ∧ Tp τ' ∧ ∃ xs, H' E = some (.lst xs) ∧ xs.length = i + 1 ∧ ∀ k v, xs[k]? = some v → Pi k v H', fun τ' H' ⟨a, b, c⟩ => ⟨n - (i + 1), by omega, rfl, hlt, a, b, c⟩, fun x H2 y => ?_⟩
    intro pins s u I r
    refine thn (step i τ x H1 H2 hlt hτ s1 ⟨xs, eE⟩ y pins s u I r) fun _ s' ⟨τ2, H3, I3, q3⟩ => ⟨τ2, H3, I3, eifs_nil ?_⟩
    rw [if_pos rfl]
    refine ev_mono q3 fun v H4 ⟨t2, pv, s2⟩ => ⟨xs, s2 _ _ eE, by omega, ?_⟩
    have mm : ∀ k w', Pi k w' H4 → Pi k w' (upd H4 E (.lst (xs ++ [v]))) := fun k w' q => mono k w' H4 _ xs (s2 _ _ eE) (fun b o hb e => by rw [upd_ne hb]; exact e) q
    refine ⟨fun b o e => ?_, t2, xs ++ [v], upd_same, by simp [lx], fun k u e => ?_⟩
    · rw [upd_ne (ne_of_none e hE)]
      exact s2 _ _ (s1 _ _ e)
    · by_cases hk : k < xs.length
      · rw [List.getElem?_append_left hk] at e
        refine mono k u H1 _ xs eE (fun b o hb e => ?_) (px k u e)
        rw [upd_ne hb]
        exact s2 _ _ e
      · have hk2 : k = i := by
          have := (List.getElem?_eq_some_iff.mp e).1
          rw [List.length_append, List.length_singleton] at this
          omega
        subst hk2
        rw [← lx, List.getElem?_concat_length] at e
        cases e
        exact mm _ _ pv
  · have e : i = n := by omega
    subst e
    exact .inl ⟨stop H1 s1, fin H1 xs lx px eE s1⟩
variable {tg elt iter : Expr} {scope : Scope} {σ' : St}
/-- what is wanted of a comprehension over n items; G: the items -/
def CompW (X : Cx) (N' : List Str) (scope : Scope) (tg elt : Expr) (σ' : St) (H1 : Hp) (Q : VK) (n : Nat) (G : Nat → Hp → V → Hp → Prop) : Prop :=
  ∃ (Tp : St → Prop) (Pi : Addr → Nat → V → Hp → Prop), Tp σ' ∧
    (∀ E i v H2 H3 ys, H2 E = some (.lst ys) → (∀ b o, b ≠ E → H2 b = some o → H3 b = some o) → Pi E i v H2 → Pi E i v H3) ∧
    (∀ (fp : List Addr) (E C : Addr) (s3 : Shared) (H0 : Hp) (i : Nat) (τ : St) (x : V) (H2 H3 : Hp), H1 E = none → i < n → Tp τ → Same H1 H2 → (∃ ys, H2 E = some (.lst ys)) → G i H2 x H3 →
      EG (blk X N' scope (closL scope X.env) C s3 H0 fp) tg x τ H3 fun τ2 H4 => EV (blk X N' scope (closL scope X.env) C s3 H0 fp) elt τ2 H4 fun v H5 => Tp τ2 ∧ Pi E i v H5 ∧ Same H2 H5) ∧
    ∀ (E : Addr) (H2 : Hp) (xs : List V), H1 E = none → xs.length = n → (∀ i v, xs[i]? = some v → Pi E i v H2) → H2 E = some (.lst xs) → Same H1 H2 → Q (.ref E) H2
theorem compW {N' : List Str} {J : It} {n : Nat} {G : Nat → Hp → V → Hp → Prop} (hn : n ≤ sizeLine) (go : ∀ i H2, Same H H2 → i < n → J.go i H2) (stop : ∀ H2, Same H H2 → J.stop n H2)
    (yl : ∀ i H2 x H3, i < n → Same H H2 → J.yld i H2 x H3 → G i H2 x H3) (h : CompW X N' scope tg elt σ' H Q n G) :
    ∀ (fp : List Addr) (D C : Addr) (s3 : Shared), H D = none → CompT X (blk X N' scope (closL scope X.env) C s3 (upd H D (.lst [])) fp) tg elt [] J D σ' H (fun H' => Q (.ref D) H') := by
  intro fp E C s3 hE
  obtain ⟨Tp, Pi, t0, mono, step, fin⟩ := h
  exact comp_any n hn Tp t0 (Pi E) hE (fun i v H1 H2 ys => mono E i v H1 H2 ys) go stop (fun i τ x H1 H2 hi ht hs hy y => step fp E C s3 _ i τ x H1 H2 hE hi ht hs hy (yl i H1 x H2 hi hs y)) fun H1 xs l px eE s => fin E H1 xs hE l px eE s
/-- [elt for tg in a list] -/
theorem ev_compL (N' : List Str) (hσ : capSt N' X.N σ scope = σ') (hc : X.calm = true) (S : CompSc X.env scope) (hs : ∀ x, foldedSetIterable e X.env x = pure x)
    (h : EV X e σ H fun v H1 => ∃ l xs, v = .ref l ∧ SqL X.K H1 l xs ∧ xs.length ≤ sizeLine ∧ CompW X N' scope tg elt σ' H1 Q xs.length fun i H2 x H3 => xs[i]? = some x ∧ H2 = H3) :
    EV X (.ListComp elt [⟨tg, e, [], 0⟩] scope pos) σ H Q := by
  refine ev_comp (N' := N') hc S hs (ei_list (ev_mono h fun v H1 q => ?_))
  obtain ⟨l, xs, rfl, hl, hz, hw⟩ := q
  refine ⟨l, rfl, ⟨xs, hl⟩, ?_⟩
  rw [hσ]
  refine compW hz (fun i H2 s hi => ⟨xs, xs[i], Same.seq s hl, List.getElem?_eq_getElem hi⟩) (fun H2 s => ⟨xs, Same.seq s hl, Nat.le_refl _⟩) (fun i H2 x H3 hi s y => ⟨y.2 xs (Same.seq s hl), y.1.symm⟩) hw
/-- for tg in enumerate(a list that stays) -/
theorem sx_forE {elts : List Expr} {k : Nat} {tp : Pos} {body : List Stmt} (hp : PassesOwn (model X.prog X.w) X.A X.env X.xe) (hc : X.calm = true) (hg : Gl X "enumerate") (hm : X.mg "enumerate" = none) (hs : starEach [a] X.env = [(false, eval a X.env)])
    (h : EV X a σ H fun v H1 => ∃ l xs, v = .ref l ∧ H1 l = some (.lst xs) ∧ ∃ Pv : Nat → St → Hp → Prop, Pv 0 σ H1 ∧ (∀ i σ' H', i ≤ xs.length → Pv i σ' H' → SqL X.K H' l xs) ∧
      (∀ i x T σ' H', xs[i]? = some x → Pv i σ' H' → H' T = none → EG X (.Tuple elts k tp) (.ref T) σ' (upd H' T (.tup [.int i, x])) fun σ2 H2 => SXs X body { D with nx := Pv (i + 1), ct := Pv (i + 1), bk := D.nx } σ2 H2) ∧ ∀ σ' H', Pv xs.length σ' H' → D.nx σ' H') :
    SX X (.For (.Tuple elts k tp) (.Call (.Name "enumerate" p) [a] [] p') body [] pos) D σ H := by
  refine sx_for hp hc (by intro _; rfl) (ei_enum hg hm hs (ev_mono h fun v H1 q => ?_))
  obtain ⟨l, xs, rfl, hq, Pv, h0, hl, hst, hd⟩ := q
  refine ⟨l, xs, rfl, hq, fun i m σ H => m = xs.length - i ∧ i ≤ xs.length ∧ Pv i σ H, ⟨xs.length, by simp, Nat.zero_le _, h0⟩, ?_⟩
  rintro i m σ' H' ⟨rfl, hi, p⟩
  have hS := hl i σ' H' hi p
  by_cases hlt : i < xs.length
  · refine .inr ⟨⟨xs, xs[i], hS, List.getElem?_eq_getElem hlt⟩, Pv (i + 1), fun σ2 H2 p2 => ⟨xs.length - (i + 1), by omega, rfl, hlt, p2⟩, fun x H2 y => ?_⟩
    obtain ⟨T, u, e1, e2, e3, e4⟩ := y
    subst e1 e3
    exact hst i u T σ' H' (e4 xs hS) p e2
  · have e : i = xs.length := by omega
    subst e
    exact .inl ⟨⟨xs, hS, Nat.le_refl _⟩, hd σ' H' p⟩
end
end L2

namespace L2
open PySem PySem.Spec PyProof.Rows
/-! ### set(list) of keys of any kind, and its size -/
section
variable {Kt : Type} [DecidableEq Kt] [BEq Kt] [LawfulBEq Kt]
/-- those met first, in order -/
def seenL (ks : List Kt) : List Kt := ks.foldl (fun a k => if k ∈ a then a else a ++ [k]) []
end
section
variable {prog : Program} {w : World} {A : Around} {E : Value → Shared → Prop} {s : Shared} {zs : List Str} {us : Array Value}
def strAt (us : Array Value) (zs : List Str) : Prop := ∀ (i : Nat) (v : Value), us[i]? = some v → ∃ t z, v = .str z t ∧ zs[i]? = some z
/-- what stands in the set after i of the texts -/
def TxS (prog : Program) (w : World) (h : Heap) (S : Addr) (zs : List Str) : Prop := h.SetOf (strKind prog w) S (fun k => decide (k ∈ seenL zs)) (seenL zs).length
abbrev newSet (h : Heap) (led : Bool) : Heap := h.push { cls := .type "set", dict := none, data := .set #[] 0 (.fresh 0 0 led) }
end
end L2

namespace L2
open PySem PySem.Spec PyProof.Rows
section
variable {X : Cx} {H : Hp} {Q : VK} {v : V}
/-- a set of texts at S -/
def txSet (X : Cx) (S : Addr) (zs : List Str) : HO := .ext fun h => TxS X.prog X.w h S zs
theorem o_inT {x : V} {p : Addr} {xs : List V} (h : SqT X.K H p xs) (f : flatV x = true) (fs : xs.all flatV = true) (q : Q (.bl (inV x xs)) H) : OP X (compareOp .In) x (.ref p) H Q := op_by op_in_seq ⟨p, xs, rfl, .inr h, f, fs, q⟩
theorem o_catL {l b : Addr} {xs zs : List V} (h1 : H l = some (.lst xs)) (h2 : H b = some (.lst zs)) (hz : xs.length + zs.length ≤ sizeLine) (q : ∀ p, H p = none → Q (.ref p) (upd H p (.lst (xs ++ zs)))) : OP X (binaryOp .Add) (.ref l) (.ref b) H Q := op_by op_cat ⟨l, b, xs, zs, rfl, rfl, h1, h2, hz, q⟩
end
section
variable {X : Cx} {H : Hp} {D : Ends} {σ σ' : St} {e a elt tg : Expr} {scope : Scope} {pos spos py p p' : Pos} {y : Str} {j : Nat}
end
end L2

namespace L2
open PySem PySem.Spec PyProof.Rows
/-! ### texts cut at a sign -/
def cutAt (c : Nat) : List Nat → List (List Nat)
  | [] => [[]]
  | x :: r => if x = c then [] :: cutAt c r else match cutAt c r with
    | [] => [[x]]
    | h :: t => (x :: h) :: t
def glueL (c : Nat) : List (List Nat) → List Nat
  | [] => []
  | [p] => p
  | p :: q :: r => p ++ c :: glueL c (q :: r)
theorem cutAt_one {c : Nat} : ∀ {p : List Nat}, c ∉ p → cutAt c p = [p]
  | [], _ => rfl
  | x :: r, h => by
    have ih := cutAt_one (c := c) (p := r) fun z => h (by simp [z])
    unfold cutAt
    rw [if_neg (fun z => h (by simp [z])), ih]
theorem cutAt_app {c : Nat} {l : List Nat} : ∀ {p : List Nat}, c ∉ p → cutAt c (p ++ c :: l) = p :: cutAt c l
  | [], _ => by
    show cutAt c (c :: l) = _
    rw [cutAt, if_pos rfl]
  | x :: r, h => by
    have ih := cutAt_app (c := c) (l := l) (p := r) fun z => h (by simp [z])
    show cutAt c (x :: (r ++ c :: l)) = _
    rw [cutAt, if_neg (fun z => h (by simp [z])), ih]
theorem cutAt_glue {c : Nat} : ∀ {ps : List (List Nat)}, ps ≠ [] → (∀ p ∈ ps, c ∉ p) → cutAt c (glueL c ps) = ps
  | [], h, _ => absurd rfl h
  | [p], _, h => cutAt_one (h p (by simp))
  | p :: q :: r, _, h => by
    show cutAt c (p ++ c :: glueL c (q :: r)) = _
    rw [cutAt_app (h p (by simp)), cutAt_glue (by simp) fun x hx => h x (List.mem_cons_of_mem _ hx)]
theorem cutAt_len (c : Nat) : ∀ l, (cutAt c l).length ≤ l.length + 1
  | [] => by simp [cutAt]
  | x :: r => by
    have ih := cutAt_len c r
    unfold cutAt
    split
    · simp
      exact ih
    · split
      · simp
      · rename_i h t e
        rw [e] at ih
        simp at ih ⊢
        omega
theorem join_glue (c : Nat) : ∀ ps : List Str, (Str.join ⟨#[c]⟩ ps).cps.toList = glueL c (ps.map fun p => p.cps.toList)
  | [] => rfl
  | [p] => rfl
  | p :: q :: r => by
    have ih := join_glue c (q :: r)
    have e : Str.join ⟨#[c]⟩ (p :: q :: r) = p ++ ⟨#[c]⟩ ++ Str.join ⟨#[c]⟩ (q :: r) := rfl
    rw [e]
    show ((p.cps ++ #[c]) ++ (Str.join ⟨#[c]⟩ (q :: r)).cps).toList = _
    simp only [Array.toList_append]
    rw [ih]
    simp [glueL]
theorem split_ne (x : Str) (c : Nat) : Txt.split x ⟨#[c]⟩ ≠ [] := by
  unfold Txt.split
  split
  · simp
  · split
    · simp
    · unfold Builtin.Str.partsBetween
      simp
/-- what split gives, as lists -/
theorem split_list (x : Str) (c : Nat) : (Txt.split x ⟨#[c]⟩).map (fun p => p.cps.toList) = cutAt c x.cps.toList := by
  have h1 : (Str.join ⟨#[c]⟩ (Txt.split x ⟨#[c]⟩)).cps.toList = x.cps.toList := by rw [StrLaws.join_split]
  rw [join_glue] at h1
  rw [← h1]
  refine (cutAt_glue (by simpa using split_ne x c) fun p hp => ?_).symm
  obtain ⟨q, hq, rfl⟩ := List.mem_map.mp hp
  exact StrLaws.split_free x c q hq
def cutT (c : Nat) (x : Str) : List Str := (cutAt c x.cps.toList).map fun l => ⟨l.toArray⟩
theorem split_cut (x : Str) (c : Nat) : Txt.split x ⟨#[c]⟩ = cutT c x := by
  unfold cutT
  rw [← split_list, List.map_map]
  have : ((fun l : List Nat => (⟨l.toArray⟩ : Str)) ∘ fun p : Str => p.cps.toList) = id := by
    funext p
    rfl
  rw [this, List.map_id]

section
variable {X : Cx} {H : Hp} {Q : VK} {z y : Str} {v : V}
theorem vals_strs : ∀ l : List (Str × Tok), Vals ((l.map (·.1)).map V.str) (strValues l)
  | [] => .nil
  | p :: l => .cons ⟨p.2, rfl⟩ (vals_strs l)
theorem m_split {c : Nat} (hz : z.length ≤ 100000) (g : ∀ p, H p = none → Q (.ref p) (upd H p (.lst ((cutT c z).map V.str)))) : MT X "str.split" (.str z) [.str ⟨#[c]⟩] H Q := by
  refine mt_by (r := fun x xs H Q => ∃ z c, x = .str z ∧ xs = [.str ⟨#[c]⟩] ∧ z.length ≤ 100000 ∧ ∀ p, H p = none → Q (.ref p) (upd H p (.lst ((cutT c z).map V.str)))) ?_ ⟨z, c, rfl, rfl, hz, g⟩
  intro pins s σ H x xs v us Q I rx rs h
  obtain ⟨z, c, rfl, rfl, hz, g⟩ := h
  obtain ⟨t, rfl⟩ := rx
  obtain ⟨u, rfl, ru⟩ := vals1 rs
  obtain ⟨t', rfl⟩ := ru
  have hl : (cutT c z).length ≤ z.length + 1 := by
    have h1 := cutAt_len c z.cps.toList
    unfold cutT
    rw [List.length_map]
    have h2 : z.cps.toList.length = z.length := rfl
    omega
  have hsz : sizeLine = 16777216 := sizeLine_eq
  have fin : ∀ (l : List (Str × Tok)) (tk : Nat), l.map (·.1) = cutT c z → EP X pins σ Q (.ref s.heap.objs.size) { s with toks := tk, heap := s.heap.push { cls := .type "list", data := .seq (strValues l).toArray } } := fun l tk e =>
    ⟨.ref s.heap.objs.size, _, I.laid (t' := tk) (o := .lst ((cutT c z).map V.str)) (fun b o q => Heap.get?_push_of_some _ q) (Nat.le_refl _) ⟨by rw [List.length_map]; omega, strValues l, _, by rw [← e]; exact vals_strs l, Heap.get?_push_size _ rfl⟩, rfl, g _ (I.hok.fresh (Nat.le_refl _))⟩
  cases h1 : (decide (z.length < (⟨#[c]⟩ : Str).length) || decide (Builtin.Str.strKind z < Builtin.Str.strKind ⟨#[c]⟩))
  · cases hf : (Builtin.Str.occurrences z ⟨#[c]⟩ 0 z.length (z.length + 1)).isEmpty
    · have e : Txt.split z ⟨#[c]⟩ = Builtin.Str.partsBetween z (Builtin.Str.occurrences z ⟨#[c]⟩ 0 z.length (z.length + 1)) (⟨#[c]⟩ : Str).length := by
        unfold Txt.split
        rw [if_neg (by rw [h1]; decide), if_neg (by rw [hf]; decide)]
      have hlp := hl
      rw [← split_cut, e] at hlp
      refine call_meets F.slot_str_split (typeIs_str _ _ _) F.entry_str_split (F.args_str_split_2 _ _) (meets_str_split_sep z ⟨#[c]⟩ t t' h1 rfl hf (by omega) (by omega)) ?_
      have := fin (numbered s.toks (Txt.split z ⟨#[c]⟩)) (s.toks + (Builtin.Str.partsBetween z (Builtin.Str.occurrences z ⟨#[c]⟩ 0 z.length (z.length + 1)) (⟨#[c]⟩ : Str).length).length) (by rw [numbered_texts, split_cut])
      rw [← strsFrom_eq, e] at this
      exact this
    · have e : Txt.split z ⟨#[c]⟩ = [z] := by
        unfold Txt.split
        rw [if_neg (by rw [h1]; decide), if_pos hf]
      exact call_meets F.slot_str_split (typeIs_str _ _ _) F.entry_str_split (F.args_str_split_2 _ _) (meets_str_split_not_found z ⟨#[c]⟩ t t' h1 rfl hf) (fin [(z, t)] s.toks (by rw [← split_cut, e]; rfl))
  · have e : Txt.split z ⟨#[c]⟩ = [z] := by
      unfold Txt.split
      rw [if_pos h1]
    exact call_meets F.slot_str_split (typeIs_str _ _ _) F.entry_str_split (F.args_str_split_2 _ _) (meets_str_split_cannot_occur z ⟨#[c]⟩ t t' h1) (fin [(z, t)] s.toks (by rw [← split_cut, e]; rfl))
end
/-! ### a list from its end -/
def Itv (K : PySem.W.Frag) (l : Addr) (n : Nat) : It :=
  ⟨fun i H => i < n ∧ ∃ xs, SqL K H l xs ∧ xs.length = n, fun i H x H' => H' = H ∧ ∀ xs, SqL K H l xs → xs[n - 1 - i]? = some x, fun i _ => i = n⟩
section
variable {X : Cx} {σ : St} {H : Hp} {a : Expr} {tg : Expr} {p pos p' : Pos} {R : It → Hp → Prop} {D : Ends}
end
end L2

/-! comprehensions whose elements may raise -/
namespace L2
open PySem PySem.Spec PyProof.Rows
/-- what is due behind a comprehension's block, by its own env -/
def compDue (M : Model) (A : Around) (E : Value → Shared → Prop) (use : Option (Value → Sem Unit)) (Q : Value → Shared → Prop) (acc : Value) (C : Env) (r : Result) (s' : Shared) : Prop :=
  match r, use with
  | .ok _, none => ∃ m, s'.heap.Ns C.locals m ∧ ∀ h', Heap.SameBut C.locals s'.heap h' → Q acc { s' with heap := h' }
  | .ok _, some u => wpAny M A (u acc) (fun _ s'' => ∃ m, s''.heap.Ns C.locals m ∧ ∀ h', Heap.SameBut C.locals s''.heap h' → Q .none { s'' with heap := h' }) E s'
  | .error x, _ => ∃ m, s'.heap.Ns C.locals m ∧ ∀ h', Heap.SameBut C.locals s'.heap h' → wpAny M A (passOn "comprehension.variables-let-go" x C : Sem Value) (fun _ _ => False) E { s' with heap := h' }
/-- the block, F: what becomes of what is raised in it -/
abbrev blkF (X : Cx) (N' : List Str) (scope : Scope) (cl : List (Str × Addr)) (C : Addr) (s : Shared) (H : Hp) (fp : List Addr) (F : Value → Shared → Prop) : Cx := (blk X N' scope cl C s H fp).tri F []
section
variable {X : Cx} {pins : List (Addr × Obj)} {σ : St} {H : Hp} {s : Shared} {scope : Scope} {N' : List Str} {fp : List Addr} {elt iter tg : Expr} {ifs : List Expr} {pos : Pos} {Kx : St → XK}
end
section
variable {X : Cx} {a e : Expr} {σ σ' : St} {H : Hp} {Q : VK} {D : Ends} {pos spos py p p' : Pos} {tg elt iter : Expr} {scope : Scope} {Kx : St → XK} {y : Str} {j : Nat}
/-- what is wanted of a comprehension over n items, G: the items; its elements may raise as Kx allows -/
def CompX (X : Cx) (N' : List Str) (scope : Scope) (tg elt : Expr) (σ σ' : St) (Kx : St → XK) (H1 : Hp) (Q : VK) (n : Nat) (G : Nat → Hp → V → Hp → Prop) : Prop :=
  ∃ (Tp : St → Prop) (Pi : Addr → Nat → V → Hp → Prop), Tp σ' ∧
    (∀ E i v H2 H3 ys, H2 E = some (.lst ys) → (∀ b o, b ≠ E → H2 b = some o → H3 b = some o) → Pi E i v H2 → Pi E i v H3) ∧
    (∀ (fp : List Addr) (E C : Addr) (s3 : Shared) (H0 : Hp) (F : Value → Shared → Prop) (i : Nat) (τ : St) (x : V) (H2 H3 : Hp), XOk (blkF X N' scope (closL scope X.env) C s3 H0 fp F) (fun _ => Kx σ) → H1 E = none → i < n → Tp τ → Same H1 H2 → (∃ ys, H2 E = some (.lst ys) ∧ ys.length = i ∧ ∀ k v, ys[k]? = some v → Pi E k v H2) → G i H2 x H3 →
      EG (blkF X N' scope (closL scope X.env) C s3 H0 fp F) tg x τ H3 fun τ2 H4 => EV (blkF X N' scope (closL scope X.env) C s3 H0 fp F) elt τ2 H4 fun v H5 => Tp τ2 ∧ Pi E i v H5 ∧ Same H2 H5) ∧
    ∀ (E : Addr) (H2 : Hp) (xs : List V), H1 E = none → xs.length = n → (∀ i v, xs[i]? = some v → Pi E i v H2) → H2 E = some (.lst xs) → Same H1 H2 → Q (.ref E) H2
end
end L2

/-! exceptions with a making of their own: self.f = v, e.f -/
namespace L2
open PySem PySem.Spec PyProof.Rows
/-- a class straight under L, which is straight under ValueError; its instances have dicts -/
def xcIn (K : PySem.W.Frag) (C L : Addr) : Bool := (PySem.W.clsIn K C).any fun cd => cd.hasDict && cd.mro == .ref C :: .ref L :: bmV
theorem xc_of {K : PySem.W.Frag} {C L : Addr} (h : xcIn K C L = true) : ∃ cd, PySem.W.clsIn K C = some cd ∧ cd.hasDict = true ∧ cd.mro = .ref C :: .ref L :: bmV := by
  obtain ⟨cd, h1, h2⟩ := PySem.W.any_some h
  rw [Bool.and_eq_true, beq_iff_eq] at h2
  exact ⟨cd, h1, h2.1, h2.2⟩
section
variable {prog : Program} {w : World} {A : Around} {E : Value → Shared → Prop} {s : Shared} {K : PySem.W.Frag} {x C L : Addr} {ox : Obj} {vs : Array Value} {name : Str} {v : Value}
theorem x_store {Q : Unit → Shared → Prop} (X : K.In s.heap) (hx : s.heap.get? x = some ox) (hc : ox.cls = .ref C) (hf : ox.data = .fields vs) (hd : ox.dict = none)
    (hs : PySem.W.findIn K (.ref C) "__setattr__" = some (some (.builtin "object.__setattr__"))) (hm : xcIn K C L = true) (ht : PySem.W.takerIn K C name = some none)
    (h : ∀ h' tk, h'.get? x = some { ox with dict := some s.heap.objs.size } → h'.Ns1 s.heap.objs.size (fun y => if y = name then some v else none) → (∀ b o, b ≠ x → s.heap.get? b = some o → h'.get? b = some o) → Q () { s with heap := h', toks := tk }) :
    wpAny (model prog w) A (setAttr (.ref x) name v) Q E s := by
  obtain ⟨cd, hcd, hdc, hmro⟩ := xc_of hm
  have I : PySem.W.InstAt s.heap x ox C none := ⟨hx, hc, by unfold PySem.W.notCls; rw [hf], by rw [hd]; trivial⟩
  refine PySem.W.set_plain X I hs ?_
  have SF := PySem.F.store_object
  have sub : PySem.W.Looks (model prog w) s.heap (isInstance (.ref x) (.type "object")) true := I.type.andThen (PySem.W.looks_mroIn X (by unfold PySem.W.mroIn; rw [hcd, Option.bind_some, hmro]; rfl))
  refine codeAny_call_builtin SF.slot.plain SF.entry (@PySem.W.check_slot (model prog w) _ _ { s with toks := s.toks + 1 } "object.__setattr__" "object" "__setattr__" (.ref x) [.str name s.toks, v] [] _ SF.kind SF.split sub (SF.args (.ref x) (.str name s.toks) v) ?_)
  obtain ⟨attr, ha, hr⟩ := Option.bind_eq_some_iff.mp ht
  have hmo : PySem.W.Looks (model prog w) s.heap (mroOf (.ref C)) cd.mro := (PySem.W.looks_clsIn X hcd).andThen .now
  have L3 : PySem.W.Looks (model prog w) s.heap (Builtin.ObjectAttr.storeTaker? attr) none := by
    cases attr with
    | none => exact .now
    | some a =>
      obtain ⟨b, hb, e⟩ := Option.map_eq_some_iff.mp hr
      refine (PySem.W.looks_takesIn X hb).andThen ?_
      cases b
      · exact .now
      · cases e
  rw [PySem.W.osa_eq, refuse_eq]
  refine wpAny_bind (wpAny_bind (PySem.W.Looks.here (s := { s with toks := s.toks + 1 }) I.type (wpAny_bind (PySem.W.Looks.here (s := { s with toks := s.toks + 1 }) hmo ?_))))
  rw [hmro, refuseLoop_ref, refuseLoop_ref, PySem.F.store_ValueError.passes]
  refine wpAny_pure (wpAny_bind (PySem.W.Looks.here (s := { s with toks := s.toks + 1 }) I.type (wpAny_bind (PySem.W.Looks.here (s := { s with toks := s.toks + 1 }) (PySem.W.looks_findIn X ha) (wpAny_bind (PySem.W.Looks.here (s := { s with toks := s.toks + 1 }) L3 ?_))))))
  obtain ⟨oc, od, oda, osl⟩ := ox
  dsimp only at hc hf hd
  subst hc hf hd
  refine wpAny_bind (wpAny_pure (wpAny_bind (wpAny_bind (wpAny_loadPart (s := { s with toks := s.toks + 1 }) hx (wpAny_bind (PySem.W.Looks.here (s := { s with toks := s.toks + 1 }) (PySem.W.looks_clsIn X hcd) ?_))))))
  rw [hdc]
  rw [if_neg (by decide)]
  show wpAny _ _ (if (!true || !typeHasDict (Value.ref C)) = true then pure none else (alloc { cls := .type "dict", data := .dict #[] } >>= fun d => update x (fun o => { o with dict := some d }) >>= fun _ => dictMade (Value.ref C) x d)) _ _ _
  rw [if_neg (by simp [typeHasDict])]
  have hx₁ : (s.heap.push { cls := .type "dict", data := .dict #[] }).get? x = some { cls := .ref C, data := .fields vs, slots := osl } := Heap.get?_push_of_some _ hx
  have hxs : x ≠ s.heap.objs.size := Nat.ne_of_lt (Heap.lt_size hx)
  refine wpAny_bind (wpAny_alloc (s := { s with toks := s.toks + 1 }) ?_)
  refine wpAny_bind (wpAny_update (s := { s with heap := s.heap.push { cls := .type "dict", data := .dict #[] }, toks := s.toks + 1 }) hx₁ ?_)
  refine wpAny_pure ?_
  have hgd : ((s.heap.push { cls := .type "dict", data := .dict #[] }).update x fun o => { o with dict := some s.heap.objs.size }).get? s.heap.objs.size = some { cls := .type "dict", data := .dict #[] } :=
    (Heap.get?_update_ne _ _ _ _ hxs.symm).trans (Heap.get?_push_at rfl rfl)
  have hnd : ((s.heap.push { cls := .type "dict", data := .dict #[] }).update x fun o => { o with dict := some s.heap.objs.size }).Ns s.heap.objs.size (fun _ => none) :=
    ⟨_, #[], _, hgd, rfl, fun e he => absurd he (by simp), fun _ => rfl⟩
  show wpAny _ _ (Builtin.ObjectAttr.storeInDict s.heap.objs.size (.str name s.toks) name v) _ _ _
  unfold Builtin.ObjectAttr.storeInDict Builtin.ObjectAttr.newKeyGuard
  refine wpAny_bind (wpAny_pure (wpAny_bind (wpAny_nsSet1 (s := { s with heap := (s.heap.push { cls := .type "dict", data := .dict #[] }).update x fun o => { o with dict := some s.heap.objs.size }, toks := s.toks + 1 }) (Heap.Ns1.of_empty hnd) fun h' hn' hs' => ?_)))
  obtain ⟨oD, esD, epD, hoD, hdD, hcD⟩ := hn'.count (Within.cons name v Within.nil)
  refine wpAny_bind (wpAny_lookBehind hoD (by rw [hdD]; exact pastItsLine_dict (Nat.le_trans hcD (by rw [List.length_cons, List.length_nil, sizeLine_eq]; omega))) ?_)
  refine wpAny_pure (h h' _ ?_ hn' fun b ob hbx hb => ?_)
  · refine (hs'.2 x hxs).trans (Heap.get?_update_self _ hx₁ rfl)
  · exact (hs'.2 b (Nat.ne_of_lt (Heap.lt_size hb))).trans ((Heap.get?_update_ne _ _ _ _ hbx).trans (Heap.get?_push_of_some _ hb))
end
theorem ns_some_of {K : PySem.W.Frag} {h : Heap} {N : Addr} {mg : Str → Option Value} {n : Str} {v : Value} (X : K.In h) (G : h.Ns N mg) (e : PySem.W.nsIn K N n = some (some v)) : mg n = some v := by
  obtain ⟨o, es, ep, ho, hd, _, hf⟩ := G
  unfold PySem.W.nsIn at e
  split at e
  · rename_i c d es' n' sl q
    have := X _ _ q
    rw [ho] at this
    cases this
    cases hd
    split at e
    · rename_i en he
      cases e
      rw [← hf]
      unfold nsFind findBy
      rw [← Array.find?_toList, he]
      rfl
    · split at e <;> cases e
  · cases e
/-- C is a class of exceptions under ValueError whose making is the def at f -/
def iniIn (K : PySem.W.Frag) (C f : Addr) : Bool := match K.lookup C with
  | some ⟨.type "type", _, .cls cd, sl⟩ => (match cd.mro, sl.toList with
    | .ref C' :: bm, [_, _, _, _, some (.builtin n), _] => C' == C && n == "ValueError.__new__" && !cd.hasDel && PySem.W.tailIn K bmV bm && PySem.W.nsOkIn K cd.ns && PySem.W.nsIn K cd.ns "__init__" == some (some (.ref f))
    | _, _ => false)
  | _ => false
theorem ini_obj {K : PySem.W.Frag} {C f : Addr} {h : Heap} (kin : K.In h) (e : iniIn K C f = true) :
    ∃ bm N nm q bs hdct sn sub ab col dd k0 k1 k2 k3 k5 mN, h.get? C = some (excClassObj nm q C N bs bm hdct sn sub ab col dd k0 k1 k2 k3 k5 "ValueError.__new__") ∧ h.Ns N mN ∧ mN "__init__" = some (.ref f) ∧ OwnTail h bmV bm := by
  unfold iniIn at e
  split at e
  · rename_i dd cd sl ho
    split at e
    · rename_i C' bm k0 k1 k2 k3 n k5 hm hs
      simp only [Bool.and_eq_true, beq_iff_eq, Bool.not_eq_true'] at e
      obtain ⟨⟨⟨⟨⟨e1, e2⟩, e3⟩, e4⟩, e5⟩, e6⟩ := e
      subst e1 e2
      obtain ⟨nm, bs, mro, ns, qn, hd, sn, sub, ab, col, del⟩ := cd
      dsimp only at hm e3 e5 e6
      subst hm e3
      have hl : sl = #[k0, k1, k2, k3, some (.builtin "ValueError.__new__"), k5] := by
        obtain ⟨l⟩ := sl
        simp only at hs
        rw [hs]
      subst hl
      have hN : h.Ns ns (h.nsMap ns) := .of_isNs (PySem.W.isNs_of_in kin e5)
      exact ⟨bm, ns, nm, qn, bs, hd, sn, sub, ab, col, dd, k0, k1, k2, k3, k5, _, kin _ _ ho, hN, ns_some_of kin hN e6, PySem.W.tail_of_in kin e4⟩
    · cases e
  · cases e
section
variable {prog : Program} {w : World} {A : Around} {E : Value → Shared → Prop} {h : Heap} {g : Array GenState} {d : Drawn} {t : Nat} {os : OsState}
variable {nm q : Str} {C N x : Addr} {bs bm : List Value} {hdct : Bool} {sn : List Str} {sub : List Value} {ab : Bool} {col : Option Bool} {dd : Option Addr} {k0 k1 k2 k3 k5 : Option Value} {ox : Obj} {vs : Array Value} {v : Value}
/-- the base's making, of an object that was just made -/
theorem x_init {t0 : Addr} {Q : Value → Shared → Prop} (T : OwnTail h bmV bm) (hC : h.get? C = some (excClassObj nm q C N bs bm hdct sn sub ab col dd k0 k1 k2 k3 k5 "ValueError.__new__")) (hx : h.get? x = some { cls := .ref C, data := .fields #[.ref t0, .none, .none, .none, .bool false, .none] })
    (hq : ∀ h' t1, h'.get? x = some { cls := .ref C, data := .fields #[.ref t1, .none, .none, .none, .bool false, .none] } → (∀ b o, b ≠ x → h.get? b = some o → h'.get? b = some o) → Q .none ⟨h', g, d, t, os⟩) :
    wpAny (model prog w) A (call (.builtin "ValueError.__init__") [.ref x, v]) Q E ⟨h, g, d, t, os⟩ := by
  have F0 := F.excBase_ValueError
  refine wpAny_call (codeAny_call_builtin F0.init.plain F0.initEntry (wpAny_check_init_subT F0 T hC hx rfl ?_))
  wp_walk
  refine hq _ h.objs.size ?_ fun b o hb q => ?_
  · rw [Heap.get?_update_self _ (Heap.get?_push_of_some _ hx) rfl]
    rfl
  · rw [Heap.get?_update_other _ _ (Ne.symm hb)]
    exact Heap.get?_push_of_some _ q
theorem type_call_ini {mN : Str → Option Value} {rest : List Value} {fI : Addr} {oI : Obj} {Q : Fin → Shared → Prop} (T : OwnTail h bmV bm) (hC : h.get? C = some (excClassObj nm q C N bs bm hdct sn sub ab col dd k0 k1 k2 k3 k5 "ValueError.__new__")) (hn : h.Ns N mN) (hi : mN "__init__" = some (.ref fI))
    (hfI : h.get? fI = some oI) (hfc : oI.cls = .type "function")
    (hq : ∀ h' e, Heap.MadeExcOf h h' e (.ref C) rest → wpAny (model prog w) A (call (.ref fI) (.ref e :: rest)) (fun r s' => r = .none ∧ Q (.done (.ret (.ref e))) s') E ⟨h', g, d, t, os⟩) (hrest : rest.length ≤ sizeLine) :
    wpAny (model prog w) A (Builtin.«type.__call__» ⟨.ref C :: rest, []⟩) Q E ⟨h, g, d, t, os⟩ := by
  have F0 := F.excBase_ValueError
  repeat (first | with_reducible refine wpAny_loadPart_at hC ?_ | with_reducible refine wpAny_madeBy_exc hC ?_ | wp_step)
  refine codeAny_call_builtin_code (Code.quiet_builtin _ F0.quiet) (wpAny_check_new_subT F0 T hC ?_)
  refine codeAny_exc_new_subT F0 T hC ?_ hrest
  show wpAny _ _ _ _ _ _
  generalize hh1 : (h.push { cls := .type "tuple", data := .seq rest.toArray }).push { cls := .ref C, data := .fields #[.ref h.objs.size, .none, .none, .none, .bool false, .none] } = h1
  have k1' : ∀ b o, h.get? b = some o → h1.get? b = some o := fun b o e => by rw [← hh1]; exact Heap.get?_push_of_some _ (Heap.get?_push_of_some _ e)
  have hC₁ := k1' _ _ hC
  have hn₁ : h1.Ns N mN := let ⟨o, es, ep, e, r⟩ := hn; ⟨o, es, ep, k1' _ _ e, r⟩
  have hget : h1.get? (h.objs.size + 1) = some { cls := .ref C, data := .fields #[.ref h.objs.size, .none, .none, .none, .bool false, .none] } := by rw [← hh1]; heap_get
  have hcC : (Value.ref C :: bm).contains (.ref C) = true := by simp
  have T₁ := T.keeps k1'
  unfold isInstance
  repeat (first | with_reducible refine wpAny_loadPart_at hget ?_ | (with_reducible refine wpAny_isSubtype_exc hC₁ ?_; rw [hcC]) | wp_step)
  show wpAny _ _ (typeLookup (.ref C) _) _ _ _
  refine wpAny_typeLookup_tail hC₁ hn₁ T₁ F0.mroIs F0.init.lookup ?_
  rw [hi]
  refine wpAny_holding (wpAny_bind ?_)
  unfold bindSpecial
  refine wpAny_bind (wpAny_typeOf (T := "function") ⟨_, k1' _ _ hfI, hfc⟩ ?_)
  rw [if_pos (by decide)]
  refine wpAny_pure (wpAny_bind (wpAny_mono (hq h1 (h.objs.size + 1) ⟨k1', Heap.get?_none_of_le (Nat.le_succ _), h.objs.size, hget, Heap.get?_none_of_le (Nat.le_refl _), ?_⟩) (fun r s' hr => ?_) fun _ _ x => x))
  · rw [← hh1]
    exact Heap.get?_push_of_some _ (Heap.get?_push_at rfl rfl)
  · obtain ⟨rfl, hQ⟩ := hr
    wp_walk
    exact hQ
theorem call_ini {mN : Str → Option Value} {rest : List Value} {fI : Addr} {oI : Obj} {Q : Value → Shared → Prop} (T : OwnTail h bmV bm) (hC : h.get? C = some (excClassObj nm q C N bs bm hdct sn sub ab col dd k0 k1 k2 k3 k5 "ValueError.__new__")) (hn : h.Ns N mN) (hi : mN "__init__" = some (.ref fI))
    (hfI : h.get? fI = some oI) (hfc : oI.cls = .type "function")
    (hq : ∀ h' e, Heap.MadeExcOf h h' e (.ref C) rest → wpAny (model prog w) (A.under (.builtin "type.__call__" ⟨.ref C :: rest, []⟩)) (call (.ref fI) (.ref e :: rest)) (fun r s' => r = .none ∧ Q (.ref e) s') E ⟨h', g, d, t, os⟩) (hrest : rest.length ≤ sizeLine) :
    wpAny (model prog w) A (call (.ref C) rest) Q E ⟨h, g, d, t, os⟩ := by
  have f1 := tc_lookup
  have f2 := tc_bind (.ref C)
  have hT : (⟨h, g, d, t, os⟩ : Shared).TypeIs (.ref C) "type" := ⟨_, hC, rfl⟩
  refine wpAny_call (codeAny_of_tree ?_)
  show wpAny _ _ (callAny (.ref C) _) _ _ _
  repeat (any_goals (first | assumption | with_reducible refine wpAny_loadPart_at hC ?_ | wp_step))
  refine ⟨rfl, ?_⟩
  exact codeAny_call_builtin_at (Code.quiet_builtin _ (by decide +kernel)) entry_typeCall (wpAny_check_type_call_sub hC (type_call_ini T hC hn hi hfI hfc hq hrest))
end
section
variable {prog : Program} {w : World} {A : Around} {E : Value → Shared → Prop} {s : Shared} {env : Env}
variable {nm q : Str} {C N : Addr} {bs bm : List Value} {hdct : Bool} {sn : List Str} {sub : List Value} {ab : Bool} {col : Option Bool} {dd : Option Addr} {k0 k1 k2 k3 k5 : Option Value}
/-- raise of an object that was made, perhaps with a dict -/
theorem raise_obj {M : Model} {x : Sem Value} {Q : Flow → Shared → Prop} (hbase : bm.contains (.type "BaseException") = true) (hh : A.handled = none)
    (h : wpAny M A x (fun v s₁ => ∃ e t D, v = .ref e ∧ s₁.heap.get? C = some (excClassObj nm q C N bs bm hdct sn sub ab col dd k0 k1 k2 k3 k5 "ValueError.__new__") ∧
      s₁.heap.get? e = some { cls := .ref C, dict := D, data := .fields #[.ref t, .none, .none, .none, .bool false, .none] } ∧ E (.ref e) s₁) E s) :
    wpAny M A (raiseStmt env (some x) none) Q E s := by
  have hcB : (Value.ref C :: bm).contains (.type "BaseException") = true := by rw [List.contains_cons, hbase, Bool.or_true]
  unfold raiseStmt
  refine wpAny_bind (wpAny_mono h (fun v s₁ h₁ => ?_) fun _ _ x => x)
  obtain ⟨e, t, D, rfl, hC, he, hE⟩ := h₁
  obtain ⟨hp, g, d, tk, os⟩ := s₁
  repeat (first | with_reducible refine wpAny_loadPart_at he ?_ | with_reducible refine wpAny_loadPart_at hC ?_ | (with_reducible refine wpAny_isSubtype_exc hC ?_; rw [hcB]) | wp_step)
  exact wpAny_raiseNew_none hh hE
end
end L2

namespace L2
open PySem PySem.Spec PyProof.Rows
/-- an exception's object, not yet raised -/
def xo (e C : Addr) (D : Option Addr) : HO := .ext fun h => ∃ t, h.get? e = some { cls := .ref C, dict := D, data := .fields #[.ref t, .none, .none, .none, .bool false, .none] }
/-- H without what is at e -/
def dropH (H : Hp) (e : Addr) : Hp := fun b => if b = e then none else H b
theorem dropH_ne {H : Hp} {e b : Addr} (h : b ≠ e) : dropH H e b = H b := by unfold dropH; rw [if_neg h]
theorem dropH_self {H : Hp} {e : Addr} : dropH H e e = none := by unfold dropH; rw [if_pos rfl]
theorem xo_ok {P : Program} {w : World} {H : Hp} {h : Heap} {e C t : Addr} {D : Option Addr} (q : h.get? e = some { cls := .ref C, dict := D, data := .fields #[.ref t, .none, .none, .none, .bool false, .none] }) : ObjOk P w H h e (xo e C D) :=
  ⟨⟨t, q⟩, ⟨_, q⟩, fun h1 h2 ⟨t, q⟩ k => ⟨t, k _ q⟩⟩
section
variable {X : Cx} {pins : List (Addr × Obj)} {σ : St} {H : Hp} {s : Shared} {e : Addr} {φ : Heap → Prop}
theorem Inv.adopt (I : Inv X pins σ H s) (hn : H e = none) (c : Ch X pins e) (ok : ObjOk X.prog X.w (upd H e (.ext φ)) s.heap e (.ext φ)) : Inv X pins σ (upd H e (.ext φ)) s := by
  have ne : ∀ b u, H b = some u → b ≠ e := fun b u q => ne_of_none q hn
  have := I.step (h' := s.heap) (H' := upd H e (.ext φ)) (g' := s.gens) (d' := s.drawn) (t' := s.toks) (ch := [e]) (fun b hb => ?_) (fun b o _ _ _ q _ => q) (fun b o _ _ _ q _ => ⟨o.slots, q⟩) (fun b o hc _ n => ?_) (fun b o _ q => ⟨o, q⟩) (fun b xs q => ?_) (fun b o u q => ?_) (fun b ps q => ?_) (fun m q => q) (fun b u q => ?_) I.bare
  · exact this
  · have z : b = e := by simpa using hb
    subst z
    exact c
  · rw [upd_ne (fun z => hc (by simp [z]))]; exact n
  · rw [upd_ne (ne _ _ q)]; exact q
  · rw [upd_ne (ne _ _ q)]; exact q
  · exact ⟨#[], by rw [upd_ne (ne _ _ q), q]; simp⟩
  · by_cases z : b = e
    · subst z
      rw [upd_same] at q
      cases q
      exact ok
    · rw [upd_ne z] at q
      exact (I.hok b u q).stay (fun _ _ _ r => r) (fun c r => by rw [upd_ne (ne _ _ r)]; exact r) fun c xs r => by rw [upd_ne (ne _ _ r)]; exact r
theorem Inv.forget (I : Inv X pins σ H s) (hn : H e = some (.ext φ)) (c : Ch X pins e) : Inv X pins σ (dropH H e) s := by
  have := I.step (h' := s.heap) (H' := dropH H e) (g' := s.gens) (d' := s.drawn) (t' := s.toks) (ch := [e]) (fun b hb => ?_) (fun b o _ _ _ q _ => q) (fun b o _ _ _ q _ => ⟨o.slots, q⟩) (fun b o hc _ n => ?_) (fun b o _ q => ⟨o, q⟩) (fun b xs q => ?_) (fun b o u q => ?_) (fun b ps q => ?_) (fun m q => q) (fun b u q => ?_) I.bare
  · exact this
  · have z : b = e := by simpa using hb
    subst z
    exact c
  · rw [dropH_ne (fun z => hc (by simp [z]))]; exact n
  · rw [dropH_ne (fun z => by rw [z, hn] at q; cases q)]; exact q
  · rw [dropH_ne (fun z => by rw [z, hn] at q; cases q)]; exact q
  · exact ⟨#[], by rw [dropH_ne (fun z => by rw [z, hn] at q; cases q), q]; simp⟩
  · by_cases z : b = e
    · subst z
      rw [dropH_self] at q
      cases q
    · rw [dropH_ne z] at q
      exact (I.hok b u q).stay (fun _ _ _ r => r) (fun c r => by rw [dropH_ne (fun z => by rw [z, hn] at r; cases r)]; exact r) fun c xs r => by rw [dropH_ne (fun z => by rw [z, hn] at r; cases r)]; exact r
end
/-- what LeafError must be -/
structure XBase (K : PySem.W.Frag) (mg : Str → Option Value) (x : Str) : Prop where
  at_ : mg x = some (.ref (clsA mg x))
  reads : PySem.W.readsIn K (clsA mg x) (.type "type") = true
  ini : PySem.W.findCls K (.ref (clsA mg x)) (.type "type") "__init__" = some (.val (.builtin "ValueError.__init__"))
  ga : PySem.W.specialIn K (.ref (clsA mg x)) "__getattribute__" = some (some (.builtin "type.__getattribute__"))
/-- a class of exceptions under the base Lx whose making is the def st, with the field fld -/
structure XIni (K : PySem.W.Frag) (mg : Str → Option Value) (Lx x qual fld : Str) (st : Stmt) : Prop where
  at_ : mg x = some (.ref (clsA mg x))
  ex : ∃ f fd, Fun K "__init__" qual st f fd ∧ iniIn K (clsA mg x) f = true ∧ PySem.W.isFn K (.ref f) = true
  sa : PySem.W.findIn K (.ref (clsA mg x)) "__setattr__" = some (some (.builtin "object.__setattr__"))
  tk : PySem.W.takerIn K (clsA mg x) fld = some none
  xc : xcIn K (clsA mg x) (clsA mg Lx) = true
/-- the making's promise -/
def spIni (C : Addr) (fld : Str) : Sp := fun vs H Q _ => ∃ e n, vs = [.ref e, .int n] ∧ n.natAbs < 10 ^ 60 ∧ H e = some (xo e C none) ∧
  ∀ D H', D ≠ e → H D = none → (∀ b o, b ≠ e → H b = some o → H' b = some o) → H' e = some (xo e C (some D)) → H' D = some (.xd [(fld, .int n)]) → Q .non H'
section
variable {X : Cx} {σ : St} {H : Hp} {Q : VK} {D : Ends} {Lx x f fld : Str} {np apos pos pos' cpos : Pos} {a o value : Expr} {es : List Expr} {Kx : St → XK}
/-- Base.__init__(..) -/
theorem ev_base {pl : Sem Bool} (B : XBase X.K X.mg Lx) (hg : Gl X Lx) (hd : (Lx == ("__debug__" : Str)) = false) (hst : starEach (a :: es) X.env = (false, eval a X.env) :: starEach es X.env) (hpl : (backTo pos (starEach es X.env)).any (·.1) = false)
    (ht : eval (.Call (.Attribute (.Name Lx np) "__init__" apos) (a :: es) [] pos) X.env = (do
      let ov ← eval (.Name Lx np) X.env
      standAt apos.atName
      let (f, first) ← holding [ov] (getMethod ov "__init__" pl)
      callWith pos f first (backTo pos (starEach (a :: es) X.env)) (backToKw pos (keywordEach [] X.env))))
    (h : EA X (a :: es) σ H fun vs H1 => CL X (.builtin "ValueError.__init__") vs H1 Q) : EV X (.Call (.Attribute (.Name Lx np) "__init__" apos) (a :: es) [] pos) σ H Q := by
  intro pins s I
  refine PySem.W.methodCall_KW (pl := pl) (ld_glob I hg B.at_ ?_ hd) ht
  refine PySem.W.method_cls I.kIn B.ga (PySem.W.cls_value I.kIn B.reads B.ini (by decide +kernel) ?_)
  have I1 := I.tok (s.toks + 1)
  have h' := h pos pins _ I1
  rw [hst] at h' ⊢
  refine Calls.callWith_builtin (by show (false || (backTo pos (starEach es X.env)).any (·.1)) = false; rw [hpl]; rfl) (Calls.evalArgs_plain ?_)
  refine thn h' fun us s2 ⟨vs, H2, I2, r2, c, h1, q2⟩ => ?_
  exact h1 pins s2 σ H2 vs us Q I2 r2 q2
theorem c_base {C ff : Addr} {e : Addr} {v : V} (hi : iniIn X.K C ff = true) (he : H e = some (xo e C none)) (q : Q .non H) : CL X (.builtin "ValueError.__init__") [.ref e, v] H Q := by
  refine cl_by (r := fun xs H Q => ∃ e v, xs = [.ref e, v] ∧ H e = some (xo e C none) ∧ Q .non H) ?_ ⟨e, v, rfl, he, q⟩
  intro pins s σ H xs us Q I r h
  obtain ⟨e, v, rfl, he, q⟩ := h
  obtain ⟨u1, u2, rfl, r1, r2⟩ := vals2 r
  cases (show u1 = Value.ref e from r1)
  obtain ⟨bm, N, nm, qn, bs, hdct, sn, sub, ab, col, dd, k0, k1, k2, k3, k5, mN, hC, hN, hni, T⟩ := ini_obj I.kIn hi
  obtain ⟨⟨t, ht⟩, _, _⟩ := I.hok e _ he
  obtain ⟨hp, g, d, tk, os⟩ := s
  refine x_init T hC ht fun h' t1 h1 k => ?_
  have hw := I.write (x := e) (e := e) (o := xo e C none) (h' := h') (t' := tk) (by rw [he]; trivial) (.inl rfl) (fun b u n q => k b u n q) ⟨_, h1⟩ (xo_ok h1)
  have hid : upd H e (xo e C none) = H := by
    funext b
    unfold upd
    split
    · rename_i z; rw [z, he]
    · rfl
  rw [hid] at hw
  exact ⟨.non, H, hw, rfl, q⟩
/-- self.f = v, of an exception that has no dict yet -/
theorem sx_xfld {C L : Addr} (hs : PySem.W.findIn X.K (.ref C) "__setattr__" = some (some (.builtin "object.__setattr__"))) (hm : xcIn X.K C L = true) (ht : PySem.W.takerIn X.K C f = some none)
    (hsw : swapsWith value (some (.Attribute o f pos')) pos.line X.env = pure false)
    (h : EV X value σ H fun y H1 => EV X o σ H1 fun x H2 => ∃ e, x = .ref e ∧ H2 e = some (xo e C none) ∧ ∀ E', H2 E' = none → E' ≠ e → D.nx σ (upd (upd H2 E' (.xd [(f, y)])) e (xo e C (some E')))) :
    SX X (.Assign [.Attribute o f pos'] value pos) D σ H := by
  intro pins s I
  refine plainObj_wpAny_Assign_Attribute (thn (h pins s I) fun u s1 ⟨y, H1, I1, ry, q⟩ => thn (q pins s1 I1) fun ov s2 ⟨x, H2, I2, rx, e, ex, he, q2⟩ => ?_) hsw
  subst ex
  obtain rfl : ov = Value.ref e := rx
  obtain ⟨⟨t, hte⟩, _, _⟩ := I2.hok e _ he
  refine x_store I2.kIn hte rfl rfl rfl hs hm ht fun h' tk g1 g2 g3 => ?_
  have hDn : H2 s2.heap.objs.size = none := I2.hok.fresh (Nat.le_refl _)
  have hDe : s2.heap.objs.size ≠ e := fun z => by rw [z] at hDn; rw [hDn] at he; cases he
  have ne : ∀ b u, H2 b = some u → u ≠ xo e C none → b ≠ e := fun b u q n z => by rw [z, he] at q; cases q; exact n rfl
  have nD : ∀ b u, H2 b = some u → b ≠ s2.heap.objs.size := fun b u q => ne_of_none q hDn
  refine ⟨σ, _, ?_, q2 s2.heap.objs.size hDn hDe⟩
  refine I2.step (h' := h') (g' := s2.gens) (d' := s2.drawn) (t' := tk) (ch := []) (fun b hb => absurd hb (by simp)) (fun b o _ _ _ q n => g3 b o (fun z => by rw [z, he] at n; cases n) q) (fun b o _ _ _ q n => ⟨o.slots, g3 b o (fun z => by rw [z, he] at n; cases n) q⟩) (fun b o _ q n => ?_) (fun b o _ q => ?_) (fun b xs q => ?_) (fun b o u q => ?_) (fun b ps q => ?_) (fun m hm' => ?_) (fun b u q => ?_) I2.bare
  · rw [upd_ne (fun z => by rw [z, he] at n; cases n), upd_ne (Nat.ne_of_lt (Heap.lt_size q))]
    exact n
  · by_cases z : b = e
    · subst z; exact ⟨_, g1⟩
    · exact ⟨o, g3 b o z q⟩
  · rw [upd_ne (ne _ _ q (fun z => nomatch z)), upd_ne (nD _ _ q)]; exact q
  · rw [upd_ne (ne _ _ q (fun z => nomatch z)), upd_ne (nD _ _ q)]; exact q
  · exact ⟨#[], by rw [upd_ne (ne _ _ q (fun z => nomatch z)), upd_ne (nD _ _ q), q]; simp⟩
  · obtain ⟨o, es, ep, ho, r⟩ := hm'
    exact ⟨o, es, ep, g3 _ _ (fun z => by have := I2.free; rw [z, he] at this; cases this) ho, r⟩
  · by_cases z : b = e
    · subst z
      rw [upd_same] at q
      cases q
      exact xo_ok g1
    · rw [upd_ne z] at q
      by_cases z2 : b = s2.heap.objs.size
      · subst z2
        rw [upd_same] at q
        cases q
        refine ⟨_, g2, fun n => ?_⟩
        by_cases hf : n = f
        · subst hf
          simp only [if_true, List.lookup_cons, beq_self_eq_true]
          exact ry
        · rw [if_neg hf, List.lookup_cons, beq_eq_false_iff_ne.mpr hf]
          trivial
      · rw [upd_ne z2] at q
        refine (I2.hok b u q).stay (fun c v hc r => g3 c v ?_ r) (fun c r => ?_) fun c xs r => ?_
        · rcases hc with y | y
          · rw [y]; exact z
          · exact ne _ _ y (fun z => nomatch z)
        · rw [upd_ne (ne _ _ r (fun z => nomatch z)), upd_ne (nD _ _ r)]; exact r
        · rw [upd_ne (ne _ _ r (fun z => nomatch z)), upd_ne (nD _ _ r)]; exact r
end
end L2

namespace L2
open PySem PySem.Spec PyProof.Rows
/-- a class of exceptions with a making of its own, as a promise -/
structure XDef (P : Program) (w : World) (K : PySem.W.Frag) (mg : Str → Option Value) (base : Heap) (cc : Bool) (k : Nat) (x fld : Str) : Prop where
  at_ : mg x = some (.ref (clsA mg x))
  ex : ∃ f fd ps oc od osl, FnOk P w K mg base (CX1 P w) cc k f fd ps (spIni (clsA mg x) fld) ∧ Binds K fd ps [] ∧ iniIn K (clsA mg x) f = true ∧ K.lookup f = some ⟨oc, od, .func fd, osl⟩ ∧ oc = .type "function"
section
variable {prog : Program} {w : World} {A : Around} {E : Value → Shared → Prop} {s : Shared} {env : Env}
variable {nm q : Str} {C N : Addr} {bs bm : List Value} {hdct : Bool} {sn : List Str} {sub : List Value} {ab : Bool} {col : Option Bool} {dd : Option Addr} {k0 k1 k2 k3 k5 : Option Value}
theorem raise_ini {mN : Str → Option Value} {fI : Addr} {oI : Obj} {x : Str} {np cpos pos : Pos} {args : List Expr} {Q : Flow → Shared → Prop}
    (hbase : bm.contains (.type "BaseException") = true) (hh : A.handled = none) (hplain : (backTo cpos (starEach args env)).any (·.1) = false) (hi : mN "__init__" = some (.ref fI)) (hfc : oI.cls = .type "function")
    (h : wpAny (model prog w) A (eval (.Name x np) env) (fun f s₁ => f = .ref C ∧ wpAny (model prog w) A (evalArgs (.ref C) true (backTo cpos (starEach args env)) [])
      (fun a s₂ => a.kw = [] ∧ a.pos.length ≤ sizeLine ∧ s₂.heap.get? C = some (excClassObj nm q C N bs bm hdct sn sub ab col dd k0 k1 k2 k3 k5 "ValueError.__new__") ∧ s₂.heap.Ns N mN ∧ OwnTail s₂.heap bmV bm ∧ s₂.heap.get? fI = some oI ∧
        ∀ h' e, Heap.MadeExcOf s₂.heap h' e (.ref C) a.pos → wpAny (model prog w) (A.under (.builtin "type.__call__" ⟨.ref C :: a.pos, []⟩)) (call (.ref fI) (.ref e :: a.pos))
          (fun r s' => r = .none ∧ ∃ t D, s'.heap.get? C = some (excClassObj nm q C N bs bm hdct sn sub ab col dd k0 k1 k2 k3 k5 "ValueError.__new__") ∧
            s'.heap.get? e = some { cls := .ref C, dict := D, data := .fields #[.ref t, .none, .none, .none, .bool false, .none] } ∧ E (.ref e) s') E { s₂ with heap := h' }) E s₁) E s) :
    wpAny (model prog w) A (exec (.Raise (some (.Call (.Name x np) args [] cpos)) none pos) env) Q E s := by
  rw [arm_exec_Raise]
  refine wpAny_bind (wpAny_standAt (raise_obj (C := C) (nm := nm) (q := q) (N := N) (bs := bs) (bm := bm) (hdct := hdct) (sn := sn) (sub := sub) (ab := ab) (col := col) (dd := dd) (k0 := k0) (k1 := k1) (k2 := k2) (k3 := k3) (k5 := k5) hbase hh ?_))
  refine wpAny_bind (wpAny_mono (wpAny_Call_ofName (wpAny_mono h (fun f s₁ h₁ => ?_) fun _ _ x => x)) (fun v s₃ h₃ => wpAny_bind (wpAny_standAt (wpAny_pure h₃))) fun _ _ x => x)
  obtain ⟨rfl, h₁⟩ := h₁
  unfold callWith
  refine wpAny_bind (wpAny_holding (wpAny_mono h₁ (fun a s₂ h₂ => wpAny_bind (wpAny_standAt ?_)) fun _ _ x => x))
  obtain ⟨apos, akw⟩ := a
  obtain ⟨hkw, hlen, hC, hn, T, hfI, h₂⟩ := h₂
  obtain rfl : akw = [] := hkw
  obtain ⟨hp, g, d, tk, os⟩ := s₂
  simp only [hplain]
  refine wpAny_bind (wpAny_keeperOf_exc hC ?_)
  refine wpAny_bind (call_ini T hC hn hi hfI hfc (fun h' e hm => ?_) hlen)
  refine wpAny_mono (h₂ h' e hm) (fun r s' hr => ⟨hr.1, ?_⟩) fun _ _ z => z
  obtain ⟨t, D, g1, g2, g3⟩ := hr.2
  exact wpAny_bind (wpAny_holding (wpAny_point (wpAny_pure ⟨e, t, D, rfl, g1, g2, g3⟩)))
end
section
variable {X : Cx} {Kx : St → XK} {D : Ends} {σ : St} {H : Hp} {x fld : Str} {np cpos pos : Pos} {e : Expr} {es : List Expr} {cc cc' : Bool} {k k' : Nat}
theorem sx_raiseI (O : XDef X.prog X.w X.K X.mg X.base cc' k x fld) (hr : Room cc k' X.A) (hk : k + 1 ≤ k') (hcc : cc' = true → cc = true) (hx : XOk X Kx) (hc : X.calm = true) (hg : Gl X x) (hd : (x == ("__debug__" : Str)) = false) (he : starEach (e :: es) X.env = (false, eval e X.env) :: starEach es X.env)
    (hpl : (backTo cpos (starEach es X.env)).any (·.1) = false)
    (h : EA X (e :: es) σ H fun vs H1 => ∃ n, vs = [.int n] ∧ n.natAbs < 10 ^ 60 ∧ ∀ E' H', Same H1 H' → H' E' = some (.xd [(fld, .int n)]) → Kx σ (.ref (clsA X.mg x)) (some E', true) H') :
    SX X (.Raise (some (.Call (.Name x np) (e :: es) [] cpos)) none pos) D σ H := by
  intro pins s I
  obtain ⟨f, fd, ps, oc, od, osl, Fn, hb, hi, hlk, hoc⟩ := O.ex
  obtain ⟨bm, N, nm, q, bs, hdct, sn, sub, ab, col, dd, k0, k1, k2, k3, k5, mN, hC, hN, hni, T⟩ := ini_obj I.ok.mod.kin hi
  have hr' : Room cc' (k + 1) X.A := (hr.mono hk).calmer hcc
  refine raise_ini (C := clsA X.mg x) (nm := nm) (q := q) (N := N) (bs := bs) (bm := bm) (hdct := hdct) (sn := sn) (sub := sub) (ab := ab) (col := col) (dd := dd) (k0 := k0) (k1 := k1) (k2 := k2) (k3 := k3) (k5 := k5) (mN := mN) (fI := f) (oI := ⟨oc, od, .func fd, osl⟩)
    (T.hasType (by decide +kernel)) (I.ok.hd hc) ?_ hni hoc (ld_glob I hg O.at_ ⟨rfl, ?_⟩ hd)
  · rw [he]
    show (false || (backTo cpos (starEach es X.env)).any (·.1)) = false
    rw [hpl]
    rfl
  · have h' := h cpos pins s I
    rw [he] at h' ⊢
    refine Calls.evalArgs_plain (thn h' fun us s2 ⟨vs, H1, I2, r, n, ev, hn, kq⟩ => ?_)
    subst ev
    obtain ⟨u, rfl, ru⟩ := vals1 r
    refine ⟨rfl, by show 1 ≤ sizeLine; rw [sizeLine_eq]; decide, I2.bk _ _ hC, hN.keeps I2.bk, T.keeps I2.bk, I2.kIn _ _ hlk, fun h3 a M => ?_⟩
    obtain ⟨t, m1, m2, m3⟩ := M.there
    have hfree : H1 a = none := I2.hok.free M.new
    have hch : Ch X pins a := I2.ch M.new
    have I3 : Inv X pins σ H1 { s2 with heap := h3 } := I2.kept (t' := s2.toks) M.keeps
    have I4 : Inv X pins σ (upd H1 a (xo a (clsA X.mg x) none)) { s2 with heap := h3 } := I3.adopt hfree hch (xo_ok m1)
    have rv : Vals [V.ref a, .int n] [Value.ref a, u] := .cons rfl (.cons ru .nil)
    have hsp : spIni (clsA X.mg x) fld [V.ref a, .int n] (upd H1 a (xo a (clsA X.mg x) none)) (fun v H' => v = .non ∧ ∃ E', H' a = some (xo a (clsA X.mg x) (some E')) ∧ H' E' = some (.xd [(fld, .int n)]) ∧ E' ≠ a ∧ ∀ b o, b ≠ a → H1 b = some o → H' b = some o) (fun _ _ _ => False) :=
      ⟨a, n, rfl, hn, upd_same, fun E' H' h1 h2 h3' h4 h5 => ⟨rfl, E', h4, h5, h1, fun b o hb q => h3' b o hb (by rw [upd_ne hb]; exact q)⟩⟩
    have hl : ([Value.ref a, u] : List Value).length = ps.length := by rw [← rv.length]; exact Fn.len _ _ _ _ hsp
    have hb' := hb { s2 with heap := h3 } [Value.ref a, u] I4.kIn (by simpa using hl)
    rw [List.append_nil] at hb'
    refine wpAny_call (codeAny_mono (Fn.run (X.A.under (.builtin "type.__call__" ⟨.ref (clsA X.mg x) :: [u], []⟩)) X.stack { s2 with heap := h3 } _ ⟨[Value.ref a, u], []⟩ [Value.ref a, u] [V.ref a, .int n] _ (fun _ _ _ => False) (hr'.make (clsA X.mg x) [u] [])
      (I4.env0.make (clsA X.mg x) [u] []) hb' rv hsp) fun r s' hq => ?_)
    cases r with
    | error e => exact (CX1.never hq).elim
    | ok fl =>
      cases fl with
      | ret v =>
        obtain ⟨v', H', I5, rr, ev, E', g1, g2, g3, g4⟩ := I4.after hq
        subst ev
        obtain ⟨⟨t', ht'⟩, _, _⟩ := I5.hok a _ g1
        have I6 := I5.forget g1 hch
        refine ⟨rr, t', some E', I5.bk _ _ hC, ht', ?_⟩
        refine hx pins σ _ s' a _ (some E', true) ⟨I6, none, .none, ⟨_, _, ht', rfl, rfl, rfl, rfl, by simp, Ctx.yes rfl, fun T z => nomatch z⟩, .inl rfl, fun b hb => ?_⟩ (kq E' _ (fun b o q => ?_) ?_)
        · have z : b = a := by simpa using hb
          subst z
          exact ⟨dropH_self, hch⟩
        · have hba : b ≠ a := ne_of_none q hfree
          rw [dropH_ne hba]
          exact g4 b o hba q
        · rw [dropH_ne g3]
          exact g2
      | next => exact False.elim hq
      | brk => exact False.elim hq
      | cont => exact False.elim hq
end
end L2

/-! an exception at hand: its fields, isinstance of it -/
namespace L2
open PySem PySem.Spec PyProof.Rows
/-- what is looked up at an exception's class -/
structure XAttr (K : PySem.W.Frag) (C : Addr) : Prop where
  hd : PySem.W.hasDictIn K C = true
  ga : PySem.W.findIn K (.ref C) "__getattribute__" = some (some (.builtin "BaseException.__getattribute__"))
  gt : PySem.W.findIn K (.ref C) "__getattr__" = some none
  cl : PySem.W.findIn K (.ref C) "__class__" = some (some (.builtin "object.__class__"))
  cg : PySem.W.specialIn K (.builtin "object.__class__") "__get__" = some (some (.builtin "getset_descriptor.__get__"))
  ct : PySem.W.takesIn K (.builtin "object.__class__") = some true
  mo : PySem.W.mroIn K C (.type "object") = some true
  mb : PySem.W.mroIn K C (.type "BaseException") = some true
section
variable {prog : Program} {w : World} {A : Around} {E : Value → Shared → Prop} {s : Shared} {K : PySem.W.Frag} {x C : Addr} {ox : Obj} {od : Option Obj} {name : Str} {v : Value}
/-- BaseException.__getattribute__ -/
theorem x_ga {tk : Tok} {fill expr : Bool} {Q : Value → Shared → Prop} (X : K.In s.heap) (I : PySem.W.InstAt s.heap x ox C od) (c : XAttr K C)
    (h : wpAny (model prog w) A.in1 (Builtin.«object.__getattribute__» ⟨[.ref x, .str name tk], []⟩) (fun fin s' => match fin with
      | .done (.ret v) => wpAny (model prog w) A (handedOut v) Q E s'
      | _ => False) (fun _ _ => False) s) : wpAny (model prog w) A (getAttrBy (.ref x) (.str name tk) fill expr) Q E s := by
  have FB := F.attrBase_ValueError
  have sub : PySem.W.Looks (model prog w) s.heap (isInstance (.ref x) (.type "BaseException")) true := I.type.andThen (PySem.W.looks_mroIn X c.mb)
  unfold getAttrBy
  refine wpAny_holding (wpAny_bind (I.type.here (wpAny_bind ((PySem.W.looks_findIn X c.ga).here ?_))))
  dsimp only
  have hx2 : (Value.builtin "BaseException.__getattribute__" == Value.builtin "object.__getattribute__") = false := by decide +kernel
  rw [if_neg (by rw [hx2, Bool.and_false]; exact Bool.false_ne_true)]
  unfold getAttrByItsOwn hookBefore
  rw [if_pos (show onTheHeap (Value.ref C) = true from rfl)]
  refine wpAny_bind ((PySem.W.looks_findIn X c.gt).here ?_)
  refine wpAny_bind (wpAny_attempt (wpAny_holding ?_))
  unfold callGetattribute
  rw [if_neg (by cases expr <;> exact Bool.false_ne_true)]
  unfold boundAndCalled
  rw [FB.ga.bind]
  refine wpAny_bind (wpAny_pure (wpAny_call (codeAny_call_builtin FB.ga.plain F.entry_bexc_ga (@PySem.W.check_slot (model prog w) _ _ s "BaseException.__getattribute__" "BaseException" "__getattribute__" (.ref x) [.str name tk] [] _ (by decide +kernel) (by decide +kernel) sub (F.args_bexc_ga _ _) ?_))))
  refine wpAny_mono h (fun fin s' z => ?_) fun _ _ z => z.elim
  rcases fin with (_ | _ | _ | _) | _ <;> first | exact z | exact z.elim
theorem x_val {tk : Tok} {Q : Fin → Shared → Prop} (X : K.In s.heap) (I : PySem.W.InstAt s.heap x ox C od) (hf : PySem.W.findObj K C od name = some (.value v)) (h : Q (.done (.ret v)) s) :
    wpAny (model prog w) A (Builtin.«object.__getattribute__» ⟨[.ref x, .str name tk], []⟩) Q E s := by
  have L1 := PySem.W.looks_find (M := model prog w) X I hf
  unfold Builtin.«object.__getattribute__»
  refine wpAny_bind (wpAny_pure ?_)
  dsimp only
  refine wpAny_bind (wpAny_pure (wpAny_bind (I.type.here (wpAny_bind (L1.here ?_)))))
  exact wpAny_pure h
theorem findObj_bind {a g : Value} (hc : (PySem.W.clsIn K C).isSome = true) (ha : PySem.W.findIn K (.ref C) name = some (some a)) (hg : PySem.W.specialIn K a "__get__" = some (some g)) (ht : PySem.W.takesIn K a = some true) : PySem.W.findObj K C od name = some (.bind g a) := by
  obtain ⟨cd, hc⟩ := Option.isSome_iff_exists.mp hc
  unfold PySem.W.findObj
  rw [hc, Option.bind_some, ha, Option.bind_some]
  simp [hg, ht]
theorem x_class {Q : Option Value → Shared → Prop} (X : K.In s.heap) (I : PySem.W.InstAt s.heap x ox C od) (c : XAttr K C) (h : Q (some (.ref C)) { s with toks := s.toks + 1 }) : wpAny (model prog w) A (getAttr? (.ref x) "__class__") Q E s := by
  have hf : PySem.W.findObj K C od "__class__" = some (.bind (.builtin "getset_descriptor.__get__") (.builtin "object.__class__")) := findObj_bind (by obtain ⟨cd, hc, _⟩ := PySem.W.any_some c.hd; rw [hc]; rfl) c.cl c.cg c.ct
  have L1 := PySem.W.looks_find (M := model prog w) X I hf
  unfold getAttr? getAttrBy?
  refine wpAny_bind (wpAny_mkText (wpAny_bind (wpAny_attempt (x_ga (s := { s with toks := s.toks + 1 }) X I c ?_))))
  unfold Builtin.«object.__getattribute__»
  refine wpAny_bind (wpAny_pure ?_)
  dsimp only
  refine wpAny_bind (wpAny_pure (wpAny_bind (PySem.W.Looks.here (s := { s with toks := s.toks + 1 }) I.type (wpAny_bind (PySem.W.Looks.here (s := { s with toks := s.toks + 1 }) L1 ?_)))))
  show wpAny _ _ (holding [.builtin "object.__class__"] (call (.builtin "getset_descriptor.__get__") [.builtin "object.__class__", .ref x, .ref C]) >>= ret) _ _ _
  refine wpAny_bind (wpAny_holding (wpAny_call (PySem.W.class_get (s := { s with toks := s.toks + 1 }) X I c.mo (wpAny_pure ?_))))
  exact PySem.W.handed_on rfl (wpAny_pure h)
theorem kitx_x (c : XAttr K C) : PySem.W.KitX K (.ref x) (.ref C) (fun h => ∃ ox od, PySem.W.InstAt h x ox C od) where
  ty := fun _ _ _ ⟨_, _, I⟩ => I.type
  it := fun _ _ X _ => by
    obtain ⟨cdD, hcD, _⟩ := PySem.W.any_some c.hd
    unfold PySem.W.clsIn at hcD
    split at hcD
    · rename_i c' d' cd' sl' ho
      intro A' Q' E' s' k q
      unfold isType loadHead
      exact wpAny_bind (wpAny_loadPart (k _ _ (X _ _ ho)) (wpAny_pure q))
    · cases hcD
  ne := fun h tp dd its n sl X htp => by
    obtain ⟨cdD, hcD, _⟩ := PySem.W.any_some c.hd
    refine Bool.eq_false_iff.mpr fun q => ?_
    have e : C = tp := Value.ref.inj (beq_iff_eq.mp q)
    subst e
    unfold PySem.W.clsIn at hcD
    split at hcD
    · rename_i c' d' cd' sl' ho
      have z := (X _ _ ho).symm.trans htp
      cases z
    · cases hcD
  ca := fun X ⟨_, _, I⟩ k => x_class X I c k
end
/-- an exception's object at a handler -/
def xw (e C : Addr) (D : Option Addr) : HO := .ext fun h => ∃ oe vs, h.get? e = some oe ∧ oe.cls = .ref C ∧ oe.dict = D ∧ oe.data = .fields vs
theorem xw_ok {P : Program} {w : World} {H : Hp} {h : Heap} {e C : Addr} {D : Option Addr} {oe : Obj} {vs : Array Value} (q : h.get? e = some oe) (hc : oe.cls = .ref C) (hd : oe.dict = D) (hf : oe.data = .fields vs) : ObjOk P w H h e (xw e C D) :=
  ⟨⟨oe, vs, q, hc, hd, hf⟩, ⟨_, q⟩, fun h1 h2 ⟨oe, vs, q, r⟩ k => ⟨oe, vs, k _ q, r⟩⟩
section
variable {X : Cx} {σ : St} {H : Hp} {Q : VK} {e C : Addr} {D : Option Addr} {k : Bool}
theorem Inv.inst {pins : List (Addr × Obj)} {s : Shared} (I : Inv X pins σ H s) (he : H e = some (xw e C D)) (hd : ∀ E', D = some E' → ∃ fs, H E' = some (.xd fs)) : ∃ ox od, PySem.W.InstAt s.heap e ox C od ∧ ∀ E' fs, D = some E' → H E' = some (.xd fs) → ∃ o, od = some o ∧ ∃ mA : Str → Option Value, (∀ f, RelO (fs.lookup f) (mA f)) ∧ ∀ n, PySem.W.lookIn n o = some (mA n) := by
  obtain ⟨⟨oe, vs, q, hc, hdd, hf⟩, _, _⟩ := I.hok e _ he
  cases D with
  | none => exact ⟨oe, none, ⟨q, hc, by unfold PySem.W.notCls; rw [hf], by rw [hdd]; trivial⟩, fun E' fs z => nomatch z⟩
  | some E' =>
    obtain ⟨fs, h1⟩ := hd E' rfl
    obtain ⟨mA, hns, hr⟩ := I.hok E' _ h1
    obtain ⟨o, ho, hl⟩ := lookIn_ns hns
    refine ⟨oe, some o, ⟨q, hc, by unfold PySem.W.notCls; rw [hf], by rw [hdd]; exact ho⟩, fun E2 fs2 z z2 => ?_⟩
    cases z
    rw [h1] at z2
    cases z2
    exact ⟨o, rfl, mA, hr, hl⟩
/-- isinstance(e, c) -/
theorem c_isX {c : V} {u : Value} (ca : XAttr X.K C) (he : H e = some (xw e C D)) (hd : ∀ E', D = some E' → ∃ fs, H E' = some (.xd fs)) (hu : ∀ u', RelV c u' → u' = u) (ek : PySem.W.kitOne X.K (.ref C) u = some k) (q : Q (.bl k) H) : CL X (.builtin "isinstance") [.ref e, c] H Q := by
  refine cl_by (r := fun xs H Q => xs = [.ref e, c] ∧ H e = some (xw e C D) ∧ (∀ E', D = some E' → ∃ fs, H E' = some (.xd fs)) ∧ Q (.bl k) H) ?_ ⟨rfl, he, hd, q⟩
  intro pins s σ H xs us Q I r h
  obtain ⟨rfl, he, hd, q⟩ := h
  obtain ⟨u1, u2, rfl, r1, r2⟩ := vals2 r
  cases (show u1 = Value.ref e from r1)
  rw [hu u2 r2]
  obtain ⟨ox, od, J, _⟩ := I.inst he hd
  exact PySem.W.kia_one (kitx_x ca) I.kIn ⟨ox, od, J⟩ ek (fun z => nomatch z) fun tk => ⟨.bl k, H, I.tok tk, rfl, q⟩
/-- e.f -/
theorem ev_xfld {o : Expr} {f : Str} {pos : Pos} {E' : Addr} {v : V} {fs : List (Str × V)} (hb : attributeBase o f X.env (eval o X.env) = eval o X.env) (ca : XAttr X.K C) (hn : PySem.W.findIn X.K (.ref C) f = some none)
    (hv : ∀ u, RelV v u → PySem.W.handedIn u = true)
    (h : EV X o σ H fun y H1 => y = .ref e ∧ H1 e = some (xw e C (some E')) ∧ H1 E' = some (.xd fs) ∧ fs.lookup f = some v ∧ Q v H1) : EV X (.Attribute o f pos) σ H Q := by
  intro pins s I
  refine attr_of hb (thn (h pins s I) fun u s1 ⟨y, H1, I1, ry, ey, he, hE, hl, q⟩ => ?_)
  subst ey
  obtain rfl : u = Value.ref e := ry
  obtain ⟨ox, od, J, g⟩ := I1.inst he fun E2 z => ⟨fs, by cases z; exact hE⟩
  obtain ⟨o', rfl, mA, hr, hlk⟩ := g E' fs rfl hE
  have hr' := hr f
  rw [hl] at hr'
  cases hm : mA f with
  | none => rw [hm] at hr'; cases hr'
  | some v' =>
    rw [hm] at hr'
    have hr2 : RelV v v' := hr'
    unfold getAttr
    refine wpAny_bind (wpAny_mkText (x_ga (s := { s1 with toks := s1.toks + 1 }) I1.kIn J ca (x_val (s := { s1 with toks := s1.toks + 1 }) I1.kIn J (PySem.W.findObj_own ca.hd hn rfl (by rw [hlk, hm])) ?_)))
    exact PySem.W.handed_on (hv v' hr2) ⟨v, H1, I1.tok _, hr2, q⟩
end
end L2

/-! except .. as e -/
namespace L2
open PySem PySem.Spec PyProof.Rows
section
variable {X : Cx} {pins : List (Addr × Obj)} {σ : St} {H : Hp} {s : Shared} {h' : Heap}
/-- a local name is gone -/
theorem Inv.relocal {n : Str} {i : Nat} {m m' : Str → Option Value} {t' : Nat} (I : Inv X pins σ H s) (hN : X.N.Nodup) (hi : X.N[i]? = some n) (hσ : σ[i]? = some none)
    (hl : ∀ (i : Nat) (x : Str) (v : V), X.N[i]? = some x → σ[i]? = some (some v) → Vis X.env.scope x → ∃ u, RelV v u ∧ Look X.env s.heap m x u)
    (hn : h'.Ns X.env.locals m') (ag : ∀ x, x ≠ n → m' x = m x) (sb : ∀ b o, b ≠ X.env.locals → s.heap.get? b = some o → h'.get? b = some o) (hL : ∃ o, h'.get? X.env.locals = some o) : Inv X pins σ H { s with heap := h', toks := t' } := by
  have neL : ∀ b o, X.s₀.heap.get? b = some o → b ≠ X.env.locals := fun b o e => Nat.ne_of_lt (Nat.lt_of_lt_of_le (Heap.lt_size e) I.ok.above)
  have cellK : ∀ x c, X.env.cells.lookup x = some c → ∀ v, s.heap.IsCell c v → h'.IsCell c v := fun x c e v ⟨o, ho, hd⟩ => ⟨o, sb c o (I.cne x c e) ho, hd⟩
  refine ⟨I.ok, I.os, I.bare, ⟨fun b o e n hb hx => sb b o (neL b o e) (I.base.keep b o e n hb hx), fun b o e n hb hx => ?_, I.base.free, fun b o e hx => ?_, I.base.tups, I.base.frzs, I.base.tbls⟩, ⟨m', hn, fun j x v e1 e2 e3 => ?_⟩, fun x c e => ?_, I.free, I.freeC, fun p hp => ?_, fun b u e => ?_, I.len⟩
  · obtain ⟨sl, e1⟩ := I.base.slot b o e n hb hx
    exact ⟨sl, sb b _ (neL b o e) e1⟩
  · obtain ⟨o', e1⟩ := I.base.there b o e hx
    exact ⟨o', sb b o' (neL b o e) e1⟩
  · obtain ⟨u, r, l⟩ := hl j x v e1 e2 e3
    refine ⟨u, r, ?_⟩
    have hne : x ≠ n := fun z => by
      subst z
      have := nodup_ix hN e1 hi
      subst this
      rw [hσ] at e2
      cases e2
    rcases l with l | ⟨k, c, e, z⟩
    · exact .inl ⟨l.1, by rw [ag x hne]; exact l.2⟩
    · exact .inr ⟨k, c, e, cellK x c e _ z⟩
  · obtain ⟨v, z⟩ := I.cell x c e
    exact ⟨v, cellK x c e v z⟩
  · obtain ⟨e, n, ne, nf, d⟩ := I.pin p hp
    exact ⟨sb _ _ ne e, n, ne, nf, d⟩
  · refine (I.hok b u e).stay (fun c v hc q => sb c v ?_ q) (fun _ q => q) fun _ _ q => q
    rcases hc with z | z
    · rw [z]; exact ne_of_none e I.free
    · exact ne_of_none z I.free
end
section
variable {X : Cx} {D : Ends} {σ : St} {H : Hp} {rest : List ExceptHandler} {suite : List Stmt} {b₀ : Stmt} {pos np : Pos} {x n : Str} {c : Value} {C : Addr} {d : Option Addr × Bool} {i : Nat}
/-- behind the suite: the name is gone, the exception let go -/
abbrev asEnds (D : Ends) (i : Nat) (e C : Addr) (dd : Option Addr) : Ends :=
  { nx := fun σ' H' => H' e = some (xw e C dd) ∧ D.nx (σ'.set i none) (dropH H' e), rt := fun v H' => H' e = some (xw e C dd) ∧ D.rt v (dropH H' e),
    bk := fun σ' H' => H' e = some (xw e C dd) ∧ D.bk (σ'.set i none) (dropH H' e), ct := fun σ' H' => H' e = some (xw e C dd) ∧ D.ct (σ'.set i none) (dropH H' e) }
theorem eh_as (hN : X.N.Nodup) (hi : nameAt X.N n = some i) (hloc : X.env.scope.names.lookup n = some .local) (hg : Gl X x) (hm : X.mg x = some c) (hd : (x == ("__debug__" : Str)) = false) (ex : PySem.W.exmOne X.K (.ref C) c = some true)
    (h : ∀ e pn, H e = none → SXs (X.inEx (.ref e) (fun _ _ => False) pn) (b₀ :: suite) (asEnds D i e C d.1) (σ.set i (some (.ref e))) (upd H e (xw e C d.1))) :
    EH X (.ExceptHandler (some (.Name x np)) (some n) (b₀ :: suite) pos :: rest) D σ (.ref C) d H := by
  intro pins s e T I F ch
  have hkind : (X.env.scope.kind == .class || (X.env.scope.kind == .module && X.env.locals != X.env.globals)) = false := by rw [I.ok.kind]; rfl
  have hil : i < X.N.length := (List.getElem?_eq_some_iff.mp (nameAt_get hi)).1
  obtain ⟨ce0, ce⟩ := ch e (by simp)
  refine wpAny_handleBy_cons (test_ok I F hg hm hd ex ?_) (by intro q; cases q)
  refine codeAny_handlers_suite_as (I.off F ch fun s2 I2 F2 => ?_)
  refine store_ok2 I2 hN (nameAt_get hi) (.inl hloc) (v := .ref e) rfl (fun s3 I3 hb => ?_) (.inr hloc)
  obtain ⟨a, sb, ha⟩ := hb
  have hea : e ≠ a := by
    rcases ha with z | z
    · rw [z]; exact ce.2.1
    · exact fun y => ce.2.2.1 n a z y.symm
  obtain ⟨oe, vs, he, hcl, hdx, hdt, _⟩ := F2
  have he3 : s3.heap.get? e = some oe := (sb.2 e hea).trans he
  have I4 := I3.adopt ce0 ce (φ := fun h => ∃ oe vs, h.get? e = some oe ∧ oe.cls = .ref C ∧ oe.dict = d.1 ∧ oe.data = .fields vs) (xw_ok he3 hcl hdx hdt)
  refine wpAny_mono (h e (X.pn ++ pins) ce0 [] s3 I4.inEx) (fun f s4 q => ?_) fun _ _ q => q.elim
  have gone : ∀ {σ' : St} {H' : Hp} {Q : Unit → Shared → Prop}, Inv X pins σ' H' s4 → H' e = some (xw e C d.1) → (∀ s5, Inv X pins (σ'.set i none) (dropH H' e) s5 → Q () s5) → wpAny (model X.prog X.w) X.A (do bindName X.env n .none; unbindBehindTheSuite X.env n pos) Q X.xe s4 := fun {σ' H' Q} J he' k => by
    have J2 := J.forget he' ce
    have J3 : Inv X pins (σ'.set i none) (dropH H' e) s4 := J2.weak (by simp) fun j v e2 => by
      by_cases z : j = i
      · subst z
        rw [List.getElem?_set_self (by rw [J.len]; exact hil)] at e2
        cases e2
      · rw [List.getElem?_set_ne (Ne.symm z)] at e2
        exact e2
    obtain ⟨m, hn, hl⟩ := id J3.loc
    refine wpAny_nameGoes_keeps (show X.env.kindOf n = some .local from hloc) hn hkind fun h' v hn' hsb => k _ ?_
    refine J3.relocal (m := m) (m' := fun x => if x = n then v else m x) hN (nameAt_get hi) (List.getElem?_set_self (by rw [J.len]; exact hil)) hl hn' (fun x hx => by rw [if_neg hx]) (fun b o hb q => (hsb.2 b hb).trans q) ?_
    obtain ⟨o, _, _, ho, _⟩ := hn'
    exact ⟨o, ho⟩
  cases f with
  | next =>
    obtain ⟨σ', H', J, q1, q2⟩ := q
    exact gone (Inv.uninEx I.ok J) q1 fun s5 I5 => ⟨_, _, I5, q2⟩
  | brk =>
    obtain ⟨σ', H', J, q1, q2⟩ := q
    exact gone (Inv.uninEx I.ok J) q1 fun s5 I5 => ⟨_, _, I5, q2⟩
  | cont =>
    obtain ⟨σ', H', J, q1, q2⟩ := q
    exact gone (Inv.uninEx I.ok J) q1 fun s5 I5 => ⟨_, _, I5, q2⟩
  | ret u =>
    obtain ⟨v, σ', H', J, r, q1, q2⟩ := q
    exact gone (Inv.uninEx I.ok J) q1 fun s5 I5 => ⟨v, _, _, I5, r, q2⟩
end
end L2

/-! the classes of refusals: which stands under which -/
namespace L2
open PySem PySem.Spec PyProof.Rows
/-- the base of all refusals -/
structure XTop (K : PySem.W.Frag) (mg : Str → Option Value) (x : Str) : Prop extends XBase K mg x where
  ty : PySem.W.typeIn K (.ref (clsA mg x)) = some (.type "type")
  mb : PySem.W.mroIn K (clsA mg x) (.type "BaseException") = some true
/-- a refusal's class straight under the base -/
structure XC (K : PySem.W.Frag) (mg : Str → Option Value) (Lx x : Str) : Prop where
  at_ : mg x = some (.ref (clsA mg x))
  xc : xcIn K (clsA mg x) (clsA mg Lx) = true
  ty : PySem.W.typeIn K (.ref (clsA mg x)) = some (.type "type")
  attr : XAttr K (clsA mg x)
section
variable {K : PySem.W.Frag} {mg : Str → Option Value} {Lx x y : Str}
theorem xc_mro (h : XC K mg Lx x) (v : Value) : PySem.W.mroIn K (clsA mg x) v = some ((Value.ref (clsA mg x) :: .ref (clsA mg Lx) :: bmV).contains v) := by
  obtain ⟨cd, h1, _, h2⟩ := xc_of h.xc
  unfold PySem.W.mroIn
  rw [h1, Option.bind_some, h2]
  rfl
theorem XC.cls (h : XC K mg Lx x) : (PySem.W.clsIn K (clsA mg x)).isSome = true := by
  obtain ⟨cd, h1, _, h2⟩ := xc_of h.xc
  rw [h1]
  rfl
theorem XTop.cls (h : XTop K mg x) : (PySem.W.clsIn K (clsA mg x)).isSome = true := by
  have := h.mb
  unfold PySem.W.mroIn at this
  cases e : PySem.W.clsIn K (clsA mg x) with
  | none => rw [e] at this; cases this
  | some cd => rfl
theorem kit_cls_of {C : Addr} (t : Value) (h1 : (PySem.W.clsIn K C).isSome = true) (h2 : PySem.W.typeIn K (.ref C) = some (.type "type")) : PySem.W.kitCls K t (.ref C) = PySem.W.subIn K t (.ref C) := by
  show (if ((PySem.W.clsIn K C).isSome && PySem.W.typeIn K (.ref C) == some (.type "type")) = true then PySem.W.subIn K t (.ref C) else none) = _
  rw [if_pos]
  rw [h1, h2]
  rfl
theorem xc_self (h : XC K mg Lx x) : PySem.W.subIn K (.ref (clsA mg x)) (.ref (clsA mg x)) = some true := by
  show PySem.W.mroIn K (clsA mg x) (.ref (clsA mg x)) = some true
  rw [xc_mro h, List.contains_cons, beq_self_eq_true]
  rfl
theorem xc_top (h : XC K mg Lx x) : PySem.W.subIn K (.ref (clsA mg x)) (.ref (clsA mg Lx)) = some true := by
  show PySem.W.mroIn K (clsA mg x) (.ref (clsA mg Lx)) = some true
  rw [xc_mro h, List.contains_cons, List.contains_cons, beq_self_eq_true]
  cases (Value.ref (clsA mg Lx) == Value.ref (clsA mg x)) <;> rfl
theorem kit_self (h : XC K mg Lx x) : PySem.W.kitOne K (.ref (clsA mg x)) (.ref (clsA mg x)) = some true := by
  unfold PySem.W.kitOne
  rw [if_pos (beq_self_eq_true _)]
theorem exm_is (g : XC K mg Lx y) (v : Value) : PySem.W.exmOne K v (.ref (clsA mg y)) = PySem.W.subIn K v (.ref (clsA mg y)) := by
  unfold PySem.W.exmOne
  have e : PySem.W.subIn K (.ref (clsA mg y)) (.type "BaseException") = some true := by
    show PySem.W.mroIn K (clsA mg y) (.type "BaseException") = some true
    rw [xc_mro g]
    rfl
  rw [e, if_pos (by decide), kit_cls_of _ g.cls g.ty]
theorem exm_self (h : XC K mg Lx x) : PySem.W.exmOne K (.ref (clsA mg x)) (.ref (clsA mg x)) = some true := by rw [exm_is h]; exact xc_self h
theorem exm_top (h : XC K mg Lx x) (b : XTop K mg Lx) : PySem.W.exmOne K (.ref (clsA mg x)) (.ref (clsA mg Lx)) = some true := by
  unfold PySem.W.exmOne
  have e : PySem.W.subIn K (.ref (clsA mg Lx)) (.type "BaseException") = some true := b.mb
  rw [e, if_pos (by decide), kit_cls_of _ b.cls b.ty]
  exact xc_top h
end
/-- a class whose making is a def: the promise -/
theorem xdef_of {P : Program} {w : World} {K : PySem.W.Frag} {mg : Str → Option Value} {base : Heap} {cc : Bool} {k : Nat} {Lx x qual fld : Str} {st : Stmt} {ps N : List Str} (O : XIni K mg Lx x qual fld st) (S : FnScope N ps (defScope st))
    (hb : ∀ (kV doc pm : Value) (an : Option Addr) (cdv ct : Value) (us : List Value), us.length = ps.length → bindArgs (PySem.W.fnOf "__init__" qual (defArgs st) (defBody st) (defScope st) .none kV doc pm an cdv ct) ⟨us, []⟩ = pure (ps.zip us))
    (len : ps.length = 2)
    (body : ∀ (f : Addr) (cdv : Value) (A : Around) (outer : List Env) (s : Shared) (H : Hp) (vs : List V) (Q : VK) (E : XK), iniIn K (clsA mg x) f = true → Room cc k (A.deeper (envOfC qual (defScope st) s.heap.objs.size f cdv)) → spIni (clsA mg x) fld vs H Q E →
      SXs (CxF cc P w K mg base N qual (defScope st) f cdv A outer s H E) (defBody st) { nx := fun _ H' => Q .non H', rt := Q } (start N vs) H) : XDef P w K mg base cc (k + 1) x fld := by
  obtain ⟨f, fd, F, h1, h2⟩ := O.ex
  obtain ⟨oc, od, kV, doc, pm, an, cdv, ct, osl, e, lk, hcd⟩ := id F.ex
  refine ⟨O.at_, f, fd, ps, oc, od, osl, fn_sx F S (fun vs H Q E h => by obtain ⟨a, n, rfl, _⟩ := h; exact len.symm) fun cdv A outer s H vs Q E hr h => body f cdv A outer s H vs Q E h1 hr h, F.binds hb, h1, lk, ?_⟩
  have h3 : PySem.W.typeIn K (.ref f) = some (.type "function") := beq_iff_eq.mp h2
  have h4 : Option.map (fun x : Obj => x.cls) (List.lookup f K) = some (.type "function") := h3
  rw [lk] at h4
  exact Option.some.inj h4
end L2
namespace L2
open PySem PySem.Spec PyProof.Rows
section
variable {K : PySem.W.Frag} {mg : Str → Option Value} {Lx x qual fld : Str} {C L f : Addr} {st : Stmt} {fd : FuncData}
theorem xtop_mk (h : mg x = some (.ref C)) (a1 : PySem.W.readsIn K C (.type "type") = true) (a2 : PySem.W.findCls K (.ref C) (.type "type") "__init__" = some (.val (.builtin "ValueError.__init__"))) (a3 : PySem.W.specialIn K (.ref C) "__getattribute__" = some (some (.builtin "type.__getattribute__")))
    (a4 : PySem.W.typeIn K (.ref C) = some (.type "type")) (a5 : PySem.W.mroIn K C (.type "BaseException") = some true) : XTop K mg x := by
  have e := clsA_eq h
  exact { at_ := by rw [e]; exact h, reads := by rw [e]; exact a1, ini := by rw [e]; exact a2, ga := by rw [e]; exact a3, ty := by rw [e]; exact a4, mb := by rw [e]; exact a5 }
theorem xc_mk (h : mg x = some (.ref C)) (hL : mg Lx = some (.ref L)) (a1 : xcIn K C L = true) (a2 : PySem.W.typeIn K (.ref C) = some (.type "type")) (a3 : PySem.W.hasDictIn K C = true) (a4 : PySem.W.findIn K (.ref C) "__getattribute__" = some (some (.builtin "BaseException.__getattribute__")))
    (a5 : PySem.W.findIn K (.ref C) "__getattr__" = some none) (a6 : PySem.W.findIn K (.ref C) "__class__" = some (some (.builtin "object.__class__"))) (a7 : PySem.W.specialIn K (.builtin "object.__class__") "__get__" = some (some (.builtin "getset_descriptor.__get__"))) (a8 : PySem.W.takesIn K (.builtin "object.__class__") = some true)
    (a9 : PySem.W.mroIn K C (.type "object") = some true) (a10 : PySem.W.mroIn K C (.type "BaseException") = some true) : XC K mg Lx x := by
  have e := clsA_eq h
  have eL := clsA_eq hL
  exact ⟨by rw [e]; exact h, by rw [e, eL]; exact a1, by rw [e]; exact a2, by rw [e]; exact ⟨a3, a4, a5, a6, a7, a8, a9, a10⟩⟩
theorem xini_mk (h : mg x = some (.ref C)) (hL : mg Lx = some (.ref L)) (F : Fun K "__init__" qual st f fd) (a1 : iniIn K C f = true) (a2 : PySem.W.isFn K (.ref f) = true) (a3 : PySem.W.findIn K (.ref C) "__setattr__" = some (some (.builtin "object.__setattr__")))
    (a4 : PySem.W.takerIn K C fld = some none) (a5 : xcIn K C L = true) : XIni K mg Lx x qual fld st := by
  have e := clsA_eq h
  have eL := clsA_eq hL
  exact ⟨by rw [e]; exact h, ⟨f, fd, F, by rw [e]; exact a1, a2⟩, by rw [e]; exact a3, by rw [e]; exact a4, by rw [e, eL]; exact a5⟩
end
end L2
namespace L2
open PySem PySem.Spec PyProof.Rows
end L2

/-! zip of three lists -/
namespace L2
open PySem PySem.Spec PyProof.Rows
abbrev IsTri (h : Heap) (T : Addr) (a b c : Value) : Prop := h.get? T = some { cls := .type "tuple", data := .seq #[a, b, c] }
section
variable {prog : Program} {w : World} {A : Around} {E : Value → Shared → Prop} {s : Shared}
end
abbrev z3a (h : Heap) (l1 : Addr) : Heap := h.push { cls := .type "list_iterator", data := .fields #[.ref l1, .int 0 0] }
abbrev z3b (h : Heap) (l1 l2 : Addr) : Heap := (z3a h l1).push { cls := .type "list_iterator", data := .fields #[.ref l2, .int 0 0] }
abbrev z3c (h : Heap) (l1 l2 l3 : Addr) : Heap := (z3b h l1 l2).push { cls := .type "list_iterator", data := .fields #[.ref l3, .int 0 0] }
abbrev z3d (h : Heap) (l1 l2 l3 : Addr) : Heap := (z3c h l1 l2 l3).push { cls := .type "tuple", data := .seq #[.ref h.objs.size, .ref (z3a h l1).objs.size, .ref (z3b h l1 l2).objs.size] }
abbrev z3e (h : Heap) (l1 l2 l3 : Addr) : Heap := (z3d h l1 l2 l3).push { cls := .type "tuple", data := .seq #[.none, .none, .none] }
abbrev z3f (h : Heap) (l1 l2 l3 : Addr) : Heap := (z3e h l1 l2 l3).push { cls := .type "zip", data := .fields #[.none, .bool false, .bool false, .ref (z3c h l1 l2 l3).objs.size, .ref (z3d h l1 l2 l3).objs.size] }
section
variable {prog : Program} {w : World} {A : Around} {E : Value → Shared → Prop} {s : Shared}
end
/-- (x, y, z) of three lists -/
def Itz3 (K : PySem.W.Frag) (l m q : Addr) : It :=
  ⟨fun i H => ∃ xs ys zs x y z, (SqL K H l xs ∧ SqL K H m ys ∧ SqL K H q zs) ∧ xs[i]? = some x ∧ ys[i]? = some y ∧ zs[i]? = some z,
   fun i H v H' => ∃ T x y z, v = .ref T ∧ H T = none ∧ H' = upd H T (.tup [x, y, z]) ∧ (∀ xs, SqL K H l xs → xs[i]? = some x) ∧ (∀ ys, SqL K H m ys → ys[i]? = some y) ∧ ∀ zs, SqL K H q zs → zs[i]? = some z,
   fun i H => ∃ xs ys zs, (SqL K H l xs ∧ SqL K H m ys ∧ SqL K H q zs) ∧ (xs.length ≤ i ∨ ys.length ≤ i ∨ zs.length ≤ i)⟩
end L2

namespace L2
open PySem PySem.Spec PyProof.Rows
section
variable {X : Cx} {σ : St} {H : Hp} {a b c : Expr} {elts : List Expr} {k : Nat} {tp p pos p' : Pos} {R : It → Hp → Prop} {D : Ends}
end
end L2

namespace L2
open PySem PySem.Spec PyProof.Rows
/-! ### list.index of texts -/
section
variable {X : Cx} {H : Hp} {Q : VK}
/-! ### None in a list of tuples -/
/-! ### t < u of tuples of one length -/
/-- what t < u gives, told by the items -/
def LexAt (A : Around) (s : Shared) : List Value → List Value → Bool → Prop
  | [], [], r => r = false
  | x :: xs, y :: ys, r => ∃ e, SeqAt.EqAt A s x y e ∧ (e = true → LexAt A s xs ys r) ∧ (e = false → ∀ (prog : Program) (w : World) (E : Value → Shared → Prop) (Q : Value → Shared → Prop), Q (.bool r) s → wpAny (model prog w) A (richCompare .Lt x y) Q E s)
  | _, _, _ => False
def ltV : V → V → Bool
  | .int i, .int j => decide (i < j)
  | .str x, .str y => decide (x.cps.toList < y.cps.toList)
  | _, _ => false
def ltP (i j : Int) (x y : V) : Bool := if i = j then ltV x y else decide (i < j)
end
end L2

namespace L2
open PySem PySem.Spec PyProof.Rows
/-! ### instances of own classes: fields, methods, making, at a state -/
/-- a method of the class at C, with its promise -/
structure MDef (P : Program) (w : World) (K : PySem.W.Frag) (mg : Str → Option Value) (base : Heap) (cc : Bool) (k : Nat) (C : Addr) (m : Str) (ps : List Str) (sp : Sp) : Prop where
  cls : Cls K C
  ex : ∃ f fd, Meth K C m f ∧ Binds K fd ps [] ∧ FnOk P w K mg base (CX1 P w) cc k f fd ps sp
/-- the class of the name x, with its making's promise -/
structure CDef (P : Program) (w : World) (K : PySem.W.Frag) (mg : Str → Option Value) (base : Heap) (cc : Bool) (k : Nat) (x : Str) (C : Addr) (ps : List Str) (sp : Sp) : Prop where
  at_ : mg x = some (.ref C)
  ex : ∃ f fd, Mk K C f ∧ Binds K fd ps [] ∧ FnOk P w K mg base (CX1 P w) cc k f fd ps sp
/-- a def of the class of the name x, asked of the class itself -/
structure BDef (P : Program) (w : World) (K : PySem.W.Frag) (mg : Str → Option Value) (base : Heap) (cc : Bool) (k : Nat) (x m : Str) (ps : List Str) (sp : Sp) : Prop where
  ex : ∃ C f fd, mg x = some (.ref C) ∧ PySem.W.readsIn K C (.type "type") = true ∧ PySem.W.findCls K (.ref C) (.type "type") m = some (.val (.ref f)) ∧
    PySem.W.specialIn K (.ref C) "__getattribute__" = some (some (.builtin "type.__getattribute__")) ∧ PySem.W.keepIn K (.ref f) = true ∧ Binds K fd ps [] ∧ FnOk P w K mg base (CX1 P w) cc k f fd ps sp
section
variable {X : Cx} {σ : St} {H : Hp} {Q : VK} {D : Ends} {x f m : Str} {p np apos pos pos' tpos : Pos} {a e o value : Expr} {es : List Expr} {Kx : St → XK} {cc : Bool} {k' : Nat}
theorem sx_setF (hs : swapsWith value (some (.Attribute o f pos')) pos.line X.env = pure false)
    (h : EV X value σ H fun y H1 => EV X o σ H1 fun x H2 => ∃ a C dx fs, x = .ref a ∧ H2 a = some (.ins C dx fs) ∧ Cls X.K C ∧ NoAttr X.K C f ∧ fs.length < 1000 ∧ D.nx σ (upd H2 a (.ins C dx (putF f y fs)))) : SX X (.Assign [.Attribute o f pos'] value pos) D σ H :=
  fun pins s I => ps_fld pe_self pe_self hs pins s σ H D I h
/-- Base.m(e, ..), a def asked of its class -/
theorem ev_basem {pl : Sem Bool} {cc' : Bool} {k : Nat} {ps : List Str} {sp : Sp} (B : BDef X.prog X.w X.K X.mg X.base cc' k x m ps sp) (hr : Room cc k' X.A) (hk : k ≤ k') (hcc : cc' = true → cc = true) (hx : XOk X Kx) (hg : Gl X x) (hd : (x == ("__debug__" : Str)) = false)
    (hst : starEach (e :: es) X.env = (false, eval e X.env) :: starEach es X.env) (hpl : (backTo pos (starEach es X.env)).any (·.1) = false)
    (ht : eval (.Call (.Attribute (.Name x np) m apos) (e :: es) [] pos) X.env = (do
      let ov ← eval (.Name x np) X.env
      standAt apos.atName
      let (f, first) ← holding [ov] (getMethod ov m pl)
      callWith pos f first (backTo pos (starEach (e :: es) X.env)) (backToKw pos (keywordEach [] X.env))))
    (h : EA X (e :: es) σ H fun vs H1 => sp vs H1 Q (Kx σ)) : EV X (.Call (.Attribute (.Name x np) m apos) (e :: es) [] pos) σ H Q := by
  obtain ⟨C, f, fd, hm, hrd, hf, hga, hkp, hb, F⟩ := B.ex
  intro pins s I
  refine PySem.W.methodCall_KW (pl := pl) (ld_glob I hg hm ?_ hd) ht
  refine PySem.W.method_cls I.kIn hga (PySem.W.cls_value I.kIn hrd hf (by rfl) ?_)
  have I1 := I.tok (s.toks + 1)
  refine PySem.W.callWith_K (first := []) (h₀ := X.base) I.ok.mod.kin hkp (thn (h pos pins _ I1) fun us s2 ⟨vs, H2, I2, r, q2⟩ => ⟨I2.kIn, ?_⟩) hst hpl
  exact run_fnX F ((hr.mono hk).calmer hcc) hb hx I2 r q2
theorem run_makeX {cc : Bool} {k : Nat} {C g : Addr} {fd : FuncData} {ps : List Str} {sp : Sp} {pins : List (Addr × Obj)} {s : Shared} {us : List Value} {vs : List V} (M : Mk X.K C g) (F : FnOk X.prog X.w X.K X.mg X.base (CX1 X.prog X.w) cc k g fd ps sp) (hr : Room cc (k + 1) X.A) (hb : Binds X.K fd ps []) (hx : XOk X Kx)
    (I : Inv X pins σ H s) (r : Vals vs us)
    (h : ∀ y dx, H y = none → H dx = none → dx ≠ y → sp (.ref y :: vs) (upd (upd H dx (.own y)) y (.ins C dx [])) (fun v H2 => v = .non ∧ Q (.ref y) H2) (Kx σ)) :
    wpAny (model X.prog X.w) X.A (call (.ref C) us) (EP X pins σ Q) X.xe s := by
  have hy : H (s.heap.objs.size + 1) = none := I.hok.fresh (Nat.le_succ _)
  have hdx : H s.heap.objs.size = none := I.hok.fresh (Nat.le_refl _)
  have q := h _ _ hy hdx (Nat.ne_of_lt (Nat.lt_succ_self _))
  have I2 := Inv.made (C := C) I
  have rr : Vals (V.ref (s.heap.objs.size + 1) :: vs) (Value.ref (s.heap.objs.size + 1) :: us) := .cons rfl r
  have hl : (Value.ref (s.heap.objs.size + 1) :: us).length = ps.length := by rw [← rr.length]; exact F.len _ _ _ _ q
  have hb' := hb { s with heap := (s.heap.push PySem.W.emptyDict).push (PySem.W.instObj C s.heap.objs.size) } (Value.ref (s.heap.objs.size + 1) :: us) I2.kIn (by simpa using hl)
  rw [List.append_nil] at hb'
  refine wpAny_call (make_map (f := g) I.kIn M.makes M.init (beq_iff_eq.mp M.fn) (codeAny_mono (F.run _ X.stack _ _ ⟨Value.ref (s.heap.objs.size + 1) :: us, []⟩ _ _ _ (Kx σ) (hr.make C us []) (I2.env0.make C us []) hb' rr q) fun res s' hq => ?_))
  match res, hq with
  | .error z, hq =>
    obtain ⟨b, cls, d, H', rfl, xa, w⟩ := I2.flown hq
    exact hx pins σ H' s' b cls d xa w
  | .ok (.ret u), hq =>
    obtain ⟨v, H', I3, rv, ev, q3⟩ := I2.after hq
    subst ev
    exact ⟨rv, ⟨V.ref (s.heap.objs.size + 1), H', I3, rfl, q3⟩⟩
  | .ok .next, hq => exact False.elim hq
  | .ok .brk, hq => exact False.elim hq
  | .ok .cont, hq => exact False.elim hq
/-- C(e, ..) -/
theorem ev_make {cc' : Bool} {k : Nat} {C : Addr} {ps : List Str} {sp : Sp} (M : CDef X.prog X.w X.K X.mg X.base cc' k x C ps sp) (hr : Room cc k' X.A) (hk : k + 1 ≤ k') (hcc : cc' = true → cc = true) (hx : XOk X Kx) (hg : Gl X x) (hd : (x == ("__debug__" : Str)) = false)
    (hst : starEach (e :: es) X.env = (false, eval e X.env) :: starEach es X.env) (hpl : (backTo pos (starEach es X.env)).any (·.1) = false)
    (h : EA X (e :: es) σ H fun vs H1 => ∀ y dx, H1 y = none → H1 dx = none → dx ≠ y → sp (.ref y :: vs) (upd (upd H1 dx (.own y)) y (.ins C dx [])) (fun v H2 => v = .non ∧ Q (.ref y) H2) (Kx σ)) :
    EV X (.Call (.Name x p) (e :: es) [] pos) σ H Q := by
  obtain ⟨f, fd, hm, hb, F⟩ := M.ex
  intro pins s I
  refine wpAny_Call_Name_kw (ld_glob I hg M.at_ ?_ hd)
  refine PySem.W.callWith_K (h₀ := X.base) I.ok.mod.kin hm.kp (thn (h pos pins s I) fun us s1 ⟨vs, H1, I1, r, q⟩ => ⟨I1.kIn, ?_⟩) hst hpl
  exact run_makeX hm F ((hr.mono hk).calmer hcc) hb hx I1 r q
end
end L2

namespace L2
open PySem PySem.Spec PyProof.Rows
/-- a method of the class at C: the def st -/
structure OM (K : PySem.W.Frag) (C : Addr) (m qual : Str) (st : Stmt) : Prop where
  ex : ∃ f fd, Fun K m qual st f fd ∧ Meth K C m f
/-- the making of the class at C: the def st -/
structure OI (K : PySem.W.Frag) (C : Addr) (qual : Str) (st : Stmt) : Prop where
  ex : ∃ f fd, Fun K "__init__" qual st f fd ∧ Mk K C f
/-- a def of the class at C, asked of the class -/
structure OB (K : PySem.W.Frag) (C : Addr) (m qual : Str) (st : Stmt) : Prop where
  rd : PySem.W.readsIn K C (.type "type") = true
  ga : PySem.W.specialIn K (.ref C) "__getattribute__" = some (some (.builtin "type.__getattribute__"))
  ex : ∃ f fd, Fun K m qual st f fd ∧ PySem.W.findCls K (.ref C) (.type "type") m = some (.val (.ref f))
/-- the promise of a def, wherever it stands -/
def FD (P : Program) (w : World) (K : PySem.W.Frag) (mg : Str → Option Value) (base : Heap) (cc : Bool) (k : Nat) (m qual : Str) (st : Stmt) (ps : List Str) (sp : Sp) : Prop :=
  ∀ f fd, Fun K m qual st f fd → Binds K fd ps [] ∧ FnOk P w K mg base (CX1 P w) cc k f fd ps sp
section
variable {P : Program} {w : World} {K : PySem.W.Frag} {mg : Str → Option Value} {base : Heap} {cc : Bool} {k : Nat} {x m qual : Str} {C : Addr} {st : Stmt} {ps N : List Str} {sp : Sp}
theorem fd_of (S : FnScope N ps (defScope st))
    (hb : ∀ (kV doc pm : Value) (an : Option Addr) (cdv ct : Value) (us : List Value), us.length = ps.length → bindArgs (PySem.W.fnOf m qual (defArgs st) (defBody st) (defScope st) .none kV doc pm an cdv ct) ⟨us, []⟩ = pure (ps.zip us))
    (len : ∀ vs H Q E, sp vs H Q E → vs.length = ps.length)
    (body : ∀ (f : Addr) (cdv : Value) (A : Around) (outer : List Env) (s : Shared) (H : Hp) (vs : List V) (Q : VK) (E : XK), Room cc k (A.deeper (envOfC qual (defScope st) s.heap.objs.size f cdv)) → sp vs H Q E →
      SXs (CxF cc P w K mg base N qual (defScope st) f cdv A outer s H E) (defBody st) { nx := fun _ H' => Q .non H', rt := Q } (start N vs) H) : FD P w K mg base cc (k + 1) m qual st ps sp :=
  fun f fd F => ⟨F.binds hb, fn_sx F S len fun cdv A outer s H vs Q E hr h => body f cdv A outer s H vs Q E hr h⟩
theorem FD.make (F : FD P w K mg base cc k "__init__" qual st ps sp) (hm : mg x = some (.ref C)) (O : OI K C qual st) : CDef P w K mg base cc k x C ps sp := by
  obtain ⟨f, fd, h1, h2⟩ := O.ex
  exact ⟨hm, f, fd, h2, F f fd h1⟩
theorem FD.asked (F : FD P w K mg base cc k m qual st ps sp) (hm : mg x = some (.ref C)) (O : OB K C m qual st) : BDef P w K mg base cc k x m ps sp := by
  obtain ⟨f, fd, h1, h2⟩ := O.ex
  obtain ⟨h3, h4⟩ := F f fd h1
  exact ⟨C, f, fd, hm, O.rd, h2, O.ga, h1.kp, h3, h4⟩
theorem om_mk {f : Addr} {fd : FuncData} (h : mg x = some (.ref C)) (F : Fun K m qual st f fd) (a : PySem.W.findIn K (.ref C) m = some (some (.ref f))) (b : PySem.W.isFn K (.ref f) = true) : OM K (clsA mg x) m qual st := by
  rw [clsA_eq h]
  exact ⟨f, fd, F, a, b, F.kp⟩
theorem oi_mk {f : Addr} {fd : FuncData} (h : mg x = some (.ref C)) (F : Fun K "__init__" qual st f fd) (a : PySem.W.findIn K (.ref C) "__init__" = some (some (.ref f))) (b : PySem.W.isFn K (.ref f) = true) (c : PySem.W.makesIn K C = true) (d : PySem.W.keepIn K (.ref C) = true) : OI K (clsA mg x) qual st := by
  rw [clsA_eq h]
  exact ⟨f, fd, F, c, a, b, d⟩
theorem ob_mk {f : Addr} {fd : FuncData} (h : mg x = some (.ref C)) (F : Fun K m qual st f fd) (a : PySem.W.findCls K (.ref C) (.type "type") m = some (.val (.ref f))) (b : PySem.W.readsIn K C (.type "type") = true) (c : PySem.W.specialIn K (.ref C) "__getattribute__" = some (some (.builtin "type.__getattribute__"))) : OB K (clsA mg x) m qual st := by
  rw [clsA_eq h]
  exact ⟨b, c, f, fd, F, a⟩
theorem cls_mk (h : mg x = some (.ref C)) (a : PySem.W.plainGet K C Str.empty = true) (b : PySem.W.hasDictIn K C = true) (c : PySem.W.plainOver K C = true) (d : PySem.W.findIn K (.ref C) "__setattr__" = some (some (.builtin "object.__setattr__"))) : Cls K (clsA mg x) := by
  rw [clsA_eq h]
  exact ⟨a, b, c, d⟩
end
/-- a, b = e, of a tuple -/
theorem sx_setT {X : Cx} {σ : St} {H : Hp} {D : Ends} {elts : List Expr} {k : Nat} {tp pos : Pos} {value : Expr} (hs : swapsWithSole [.Tuple elts k tp] value pos.line X.env = pure false) (hw : swappedStores [.Tuple elts k tp] value X.env = pure none)
    (h : EV X value σ H fun v H1 => EG X (.Tuple elts k tp) v σ H1 fun σ' H' => D.nx σ' H') : SX X (.Assign [.Tuple elts k tp] value pos) D σ H := by
  intro pins s I
  refine Assign_Tuple (thn (h pins s I) fun u s1 ⟨v, H1, I1, r1, q1⟩ => ?_) hs hw
  exact thn (q1 pins s1 u I1 r1) fun _ s2 ⟨σ', H', I2, q2⟩ => ⟨σ', H', I2, q2⟩
/-- what isinstance asks of an instance's class -/
structure OT (K : PySem.W.Frag) (C : Addr) : Prop where
  ty : ∀ (H : Hp) (a dx : Addr) (fs : List (Str × V)), H a = some (.ins C dx fs) → TyOf K H (.ref a) (.ref C)
end L2

namespace L2
open PySem PySem.Spec PyProof.Rows
section
variable {X : Cx} {σ : St} {H : Hp} {Q : VK} {D : Ends} {pos tpos : Pos} {o i value : Expr}
end
/-! a, b = e, of a list -/
section
variable {prog : Program} {w : World} {A : Around} {E : Value → Shared → Prop} {s : Shared}
end
section
variable {X : Cx} {H : Hp} {Q : VK} {D : Ends} {σ σ' : St} {e a b c elt tg : Expr} {scope : Scope} {pos spos py p p' : Pos} {x y : Str} {j : Nat}
/-- while c: body -/
theorem sx_while {body : List Stmt} (hp : PassesOwn (model X.prog X.w) X.A X.env X.xe) (W : Nat → St → Hp → Prop) (m0 : Nat) (h0 : W m0 σ H)
    (turn : ∀ m σ H, W m σ H → ET X c σ H fun k H1 => if k = true then ∃ N : St → Hp → Prop, (∀ σ' H', N σ' H' → ∃ m', m' < m ∧ W m' σ' H') ∧ SXs X body { D with nx := N, ct := N, bk := D.nx } σ H1 else D.nx σ H1) : SX X (.While c body [] pos) D σ H :=
  fun pins s I => ps_while (X := X) hp pt_self pss_self pins s σ H D I ⟨W, ⟨m0, h0⟩, turn⟩
end
end L2

/-! dicts at a state -/
namespace L2
open PySem PySem.Spec PyProof.Rows
section
variable {X : Cx} {σ : St} {H : Hp} {Q : VK} {D : Ends} {pos pos' tpos apos cpos : Pos} {o i e f value : Expr} {y v : V} {a : Addr} {r : Option V}
end
end L2

namespace My
open PySem
abbrev SGs : Str := Str.ofString "-0123456789abcdefghijklmnopqrstuvwxyz"
abbrev TSs : Str := Str.ofString "abcdefghijklmnopqrstuvwxyz0123456789-"
def SG : List Nat := SGs.cps.toList
def TS : List Nat := TSs.cps.toList
theorem sg_ts : ∀ c ∈ SG, c ∈ TS := by decide +kernel
/-- the law's own order of two texts -/
def tb : List Nat → List Nat → Bool
  | [], [] => false
  | [], _ :: _ => true
  | _ :: _, [] => false
  | x :: xs, y :: ys => if x = y then tb xs ys else decide (SG.idxOf x < SG.idxOf y)
end My

/-! what the laws of this program share: values, words, draws; places in lists and texts -/
namespace L2
open PySem PySem.Spec PyProof.Rows
theorem atI_map {α : Type} {xs : List α} {f : α → V} {i : Int} (d : α) (h0 : 0 ≤ i) (h1 : i < xs.length) : atI (xs.map f) i = some (f (xs.getD i.toNat d)) := by
  have e : i = ((i.toNat : Nat) : Int) := by omega
  have hl : i.toNat < xs.length := by omega
  have h2 : (xs.map f)[i.toNat]? = some (f (xs.getD i.toNat d)) := by
    rw [List.getElem?_map, List.getElem?_eq_getElem hl]
    simp [hl]
  have := atI_nat h2
  rw [← e] at this
  exact this
/-! texts as lists of codes -/
theorem str_ext {x y : Str} (h : x.cps.toList = y.cps.toList) : x = y := by
  obtain ⟨⟨a⟩⟩ := x
  obtain ⟨⟨b⟩⟩ := y
  simp only at h
  rw [h]
theorem cps_app (x y : Str) : (x ++ y).cps.toList = x.cps.toList ++ y.cps.toList := by
  show (x.cps ++ y.cps).toList = _
  simp
theorem len_list (z : Str) : z.length = z.cps.toList.length := by simp [Str.length]
theorem len_app (x y : Str) : (x ++ y).length = x.length + y.length := by rw [len_list, cps_app, List.length_append, len_list, len_list]
theorem cutS_le (z : Str) (lo hi : Option Int) : (cutS z lo hi).length ≤ z.length := by
  unfold cutS Str.length
  simp
  omega
theorem cutS_list (z : Str) (lo hi : Option Int) : (cutS z lo hi).cps.toList = (z.cps.toList.drop (HT.sIx z.length 0 lo)).take (HT.sIx z.length z.length hi - HT.sIx z.length 0 lo) := by
  unfold cutS
  simp
/-- z[k:] -/
theorem cutS_from (z : Str) (k : Nat) : (cutS z (some (k : Int)) none).cps.toList = z.cps.toList.drop k := by
  rw [cutS_list, HT.sIx_nat, HT.sIx_none]
  have hl := len_list z
  by_cases h : k ≤ z.length
  · rw [Nat.min_eq_left h, List.take_of_length_le (by rw [List.length_drop]; omega)]
  · have h' : z.length ≤ k := by omega
    rw [Nat.min_eq_right h', List.drop_of_length_le (by omega), List.drop_of_length_le (by omega)]
    simp
theorem starts_one (z : Str) (c : Nat) : Txt.startswith z ⟨#[c]⟩ = decide (z.cps.toList[0]? = some c) := by
  rw [Bool.eq_iff_iff, decide_eq_true_eq, ← StrLaws.subAt_one]
  unfold Txt.startswith
  rw [Bool.and_eq_true, decide_eq_true_eq]
end L2
namespace Vl
open PySem L2 PyProof.Rows My NumText
/-! ### values.py -/
def scalar : V → Bool
  | .non | .int _ | .str _ => true
  | _ => false
def isIntV : V → Bool
  | .int _ => true
  | _ => false
def isNum : V → Bool
  | .int i => decide (-1000000000000000000 ≤ i ∧ i ≤ 1000000000000000000)
  | _ => false
def madeOf (z g : Str) : Bool := z.cps.toList.all fun c => decide (c ∈ g.cps.toList)
def isTxt : V → Bool
  | .str z => decide (z.length ≤ 20) && madeOf z TSs
  | _ => false
def isVal (kind : Str) : V → Bool
  | .non => true
  | v => if kind = "number" then isNum v else isTxt v
def before : V → V → Bool
  | _, .non => false
  | .non, _ => true
  | .int i, .int j => decide (i < j)
  | .str x, .str y => decide (x.cps.toList < y.cps.toList)
  | _, _ => false
def short : V → Prop
  | .str z => z.length ≤ 4000
  | _ => True
def spWhole : Sp := fun vs H Q _ => ∃ v, vs = [v] ∧ scalar v = true ∧ Q (.bl (isIntV v)) H
def spMade : Sp := fun vs H Q _ => ∃ z g : Str, vs = [.str z, .str g] ∧ z.length ≤ 4000 ∧ ∀ H', Same H H' → Q (.bl (madeOf z g)) H'
def spNum : Sp := fun vs H Q _ => ∃ v, vs = [v] ∧ scalar v = true ∧ Q (.bl (isNum v)) H
def spTxt : Sp := fun vs H Q _ => ∃ v, vs = [v] ∧ scalar v = true ∧ short v ∧ ∀ H', Same H H' → Q (.bl (isTxt v)) H'
def spVal : Sp := fun vs H Q _ => ∃ (k : Str) (v : V), vs = [.str k, v] ∧ scalar v = true ∧ short v ∧ ∀ H', Same H H' → Q (.bl (isVal k v)) H'
def spBefore : Sp := fun vs H Q _ => ∃ x y : V, vs = [x, y] ∧ (x = .non ∨ y = .non ∨ (∃ i j, x = .int i ∧ y = .int j) ∨ ∃ i j, x = .str i ∧ y = .str j) ∧ Q (.bl (before x y)) H
/-! words -/
def isDig (c : Nat) : Bool := decide (48 ≤ c ∧ c ≤ 57)
abbrev FGs : Str := Str.ofString "0123456789"
theorem mem_fg : ∀ c : Nat, c ∈ FGs.cps.toList ↔ (48 ≤ c ∧ c ≤ 57) := by
  intro c
  have e : FGs.cps.toList = [48, 49, 50, 51, 52, 53, 54, 55, 56, 57] := by decide +kernel
  rw [e]
  simp only [List.mem_cons, List.not_mem_nil, or_false]
  omega
theorem madeOf_fg (z : Str) : madeOf z FGs = z.cps.toList.all isDig := by
  unfold madeOf isDig
  congr 1
  funext c
  rw [decide_eq_decide]
  exact mem_fg c
def areFig (l : List Nat) : Bool := decide (l = [48]) || (decide (l ≠ []) && (decide (l[0]? ≠ some 48) && l.all isDig))
def isNW (l : List Nat) : Bool := if l[0]? = some 45 then decide (l.drop 1 ≠ [48]) && areFig (l.drop 1) else areFig l
/-- the number that a word writes -/
def wordInt (l : List Nat) : Int := if l[0]? = some 45 then -((digitsVal (l.drop 1) : Nat) : Int) else ((digitsVal l : Nat) : Int)
theorem areFig_digits {l : List Nat} (h : areFig l = true) : AllDigits l ∧ l ≠ [] := by
  unfold areFig at h
  rw [Bool.or_eq_true, Bool.and_eq_true, Bool.and_eq_true, decide_eq_true_eq, decide_eq_true_eq] at h
  rcases h with h | ⟨h1, _, h2⟩
  · subst h
    exact ⟨fun c hc => by simp at hc; omega, by simp⟩
  · exact ⟨fun c hc => of_decide_eq_true (List.all_eq_true.mp h2 c hc), h1⟩
def readNum (l : List Nat) : Option Int := if isNW l = true ∧ l.length ≤ 20 ∧ -1000000000000000000 ≤ wordInt l ∧ wordInt l ≤ 1000000000000000000 then some (wordInt l) else none
def readTxt (z : Str) : Option Str := if z.cps.toList[0]? = some 39 ∧ isTxt (.str (cutS z (some 1) none)) = true then some (cutS z (some 1) none) else none
def numV : Option Int → Option V
  | some i => some (.int i)
  | none => none
def txtV : Option Str → Option V
  | some i => some (.str i)
  | none => none
/-- what read_value gives; none: refused -/
def readV (kind word : Str) : Option V := if word = "?" then some .non else if kind = "number" then numV (readNum word.cps.toList) else txtV (readTxt word)
def wordOf : V → Str
  | .non => "?"
  | .str z => Str.ofString "'" ++ z
  | .int i => Str.ofString (toString i)
  | _ => ""
def spWord : Sp := fun vs H Q _ => ∃ v, vs = [v] ∧ scalar v = true ∧ short v ∧ (∀ i, v = .int i → i.natAbs.log2 < 1920) ∧ Q (.str (wordOf v)) H
def spFig : Sp := fun vs H Q _ => ∃ z, vs = [.str z] ∧ z.length ≤ 4000 ∧ ∀ H', Same H H' → Q (.bl (areFig z.cps.toList)) H'
def spNW : Sp := fun vs H Q _ => ∃ z, vs = [.str z] ∧ z.length ≤ 4000 ∧ ∀ H', Same H H' → Q (.bl (isNW z.cps.toList)) H'
/-- a reading: a value, or the class's refusal -/
def orRefused (c : Value) (r : Option V) (H : Hp) (Q : VK) (E : XK) : Prop := ∀ H', Same H H' → match r with
  | some v => Q v H'
  | none => E c (none, true) H'
def spReadN (c : Value) : Sp := fun vs H Q E => ∃ z, vs = [.str z] ∧ z.length ≤ 4000 ∧ orRefused c (numV (readNum z.cps.toList)) H Q E
def spReadT (c : Value) : Sp := fun vs H Q E => ∃ z, vs = [.str z] ∧ z.length ≤ 4000 ∧ orRefused c (txtV (readTxt z)) H Q E
def spReadV (c : Value) : Sp := fun vs H Q E => ∃ k z, vs = [.str k, .str z] ∧ z.length ≤ 4000 ∧ orRefused c (readV k z) H Q E
/-! texts that are plain: short, of real signs -/
def okS (n : Nat) (z : Str) : Prop := z.length ≤ n ∧ ∀ c ∈ z.cps.toList, c < 1114112
/-- a scalar as data -/
def dV : V → PyData
  | .bl b => .bool b
  | .int i => .int i
  | .str x => .str x
  | _ => .none
def sca : V → Bool
  | .non | .int _ | .str _ | .bl _ => true
  | _ => false
/-! numbers as texts -/
theorem log_ok {i : Int} (h : i.natAbs < 10 ^ 60) : i.natAbs.log2 < 1920 := by
  by_cases h0 : i.natAbs = 0
  · rw [h0]; decide
  · rw [Nat.log2_lt h0]
    refine Nat.lt_of_lt_of_le h ?_
    decide +kernel
theorem num_list (m : Nat) : (Str.ofString (toString ((m : Nat) : Int))).cps.toList = (Nat.toDigits 10 m).map Char.toNat := PySem.W.KIN.signs_num m
theorem num_digits (m : Nat) : ∀ c ∈ (Str.ofString (toString ((m : Nat) : Int))).cps.toList, 48 ≤ c ∧ c ≤ 57 := by
  rw [num_list]
  intro c hc
  obtain ⟨d, hd, rfl⟩ := List.mem_map.mp hc
  have := Nat.isDigit_of_mem_toDigits (b := 10) (n := m) (by decide) (by decide) hd
  simp only [Char.isDigit, Bool.and_eq_true, decide_eq_true_eq] at this
  have h1 : (48 : UInt32).toNat ≤ d.val.toNat := this.1
  have h2 : d.val.toNat ≤ (57 : UInt32).toNat := this.2
  exact ⟨h1, h2⟩
theorem num_len {m k : Nat} (hk : 1 ≤ k) (h : m < 10 ^ k) : (Str.ofString (toString ((m : Nat) : Int))).length ≤ k := by
  rw [L2.len_list, num_list, List.length_map]
  exact PyProof.Rows.digits10_le hk h
theorem num_neg (m : Nat) (h : 0 < m) : Str.ofString (toString (-((m : Nat) : Int))) = Str.ofString "-" ++ Str.ofString (toString ((m : Nat) : Int)) := by
  obtain ⟨k, rfl⟩ : ∃ k, m = k + 1 := ⟨m - 1, by omega⟩
  have e : (-((k + 1 : Nat) : Int)) = Int.negSucc k := rfl
  rw [e]
  apply str_ext
  rw [cps_app]
  rw [PyProof.Rows.signs_ofString, PyProof.Rows.signs_ofString, PyProof.Rows.signs_ofString]
  show (("-" ++ Nat.repr (k + 1)).toList.map Char.toNat) = "-".toList.map Char.toNat ++ (Nat.repr (k + 1)).toList.map Char.toNat
  rw [String.toList_append, List.map_append]
end Vl
namespace Lw
open PySem L2 PyProof.Rows My NumText
/-! ### the draws of the laws -/
def cellF (ns : List Int) (k : Int) : Int := if 0 < ns.length then ns.getD (k % (ns.length : Int)).toNat 0 else 0
def drawF (ns : List Int) (k m : Int) : Int := (cellF ns k % 1000003 + 31 * k * k + 1) * 48271 % 999983 * 7919 % 524287 % m
theorem drawF_nn (ns : List Int) (k : Int) {m : Int} (h : 0 < m) : 0 ≤ drawF ns k m := Int.emod_nonneg _ (by omega)
theorem drawF_lt (ns : List Int) (k : Int) {m : Int} (h : 0 < m) : drawF ns k m < m := Int.emod_lt_of_pos _ h
def spDraw (K : PySem.W.Frag) : Sp := fun vs H Q _ => ∃ (a : Addr) (ns : List Int) (k m : Int), vs = [.ref a, .int k, .int m] ∧ SqL K H a (ns.map V.int) ∧ ns.length ≤ 63 ∧ 0 ≤ k ∧ k ≤ 100000 ∧ 0 < m ∧ Q (.int (drawF ns k m)) H
/-- the signs of a drawn text -/
def codesF (ns : List Int) (b : Int) (n : Nat) : List Nat := (List.range n).map fun k : Nat => SG.getD (drawF ns (b + (k : Int)) 37).toNat 0
def textF (ns : List Int) (b : Int) (n : Nat) : Str := ⟨(codesF ns b n).toArray⟩
def spText (K : PySem.W.Frag) : Sp := fun vs H Q _ => ∃ (a : Addr) (ns : List Int) (b n : Int), vs = [.ref a, .int b, .int n] ∧ SqL K H a (ns.map V.int) ∧ ns.length ≤ 63 ∧ 0 ≤ b ∧ b ≤ 50000 ∧ 0 ≤ n ∧ n ≤ 1000 ∧ ∀ H', Same H H' → Q (.str (textF ns b n.toNat)) H'
end Lw

namespace Vl
open PySem L2 PyProof.Rows My NumText
/-! ### columns.py -/
inductive All2 {α β : Type} (R : α → β → Prop) : List α → List β → Prop
  | nil : All2 R [] []
  | cons {a : α} {b : β} {l : List α} {m : List β} : R a b → All2 R l m → All2 R (a :: l) (b :: m)
theorem All2.len {α β : Type} {R : α → β → Prop} : ∀ {l : List α} {m : List β}, All2 R l m → l.length = m.length
  | _, _, .nil => rfl
  | _, _, .cons _ t => by rw [List.length_cons, List.length_cons, t.len]
theorem All2.imp {α β : Type} {R S : α → β → Prop} (h : ∀ a b, R a b → S a b) : ∀ {l : List α} {m : List β}, All2 R l m → All2 S l m
  | _, _, .nil => .nil
  | _, _, .cons r t => .cons (h _ _ r) (t.imp h)
theorem All2.get {α β : Type} {R : α → β → Prop} : ∀ {l : List α} {m : List β}, All2 R l m → ∀ {i : Nat} {a : α}, l[i]? = some a → ∃ b, m[i]? = some b ∧ R a b
  | _, _, .nil, i, a, e => by simp at e
  | _, _, .cons r t, 0, a, e => by simp at e; subst e; exact ⟨_, rfl, r⟩
  | _, _, .cons r t, i + 1, a, e => by simp at e; exact t.get e
theorem All2.get' {α β : Type} {R : α → β → Prop} : ∀ {l : List α} {m : List β}, All2 R l m → ∀ {i : Nat} {b : β}, m[i]? = some b → ∃ a, l[i]? = some a ∧ R a b
  | _, _, .nil, i, a, e => by simp at e
  | _, _, .cons r t, 0, a, e => by simp at e; subst e; exact ⟨_, rfl, r⟩
  | _, _, .cons r t, i + 1, a, e => by simp at e; exact t.get' e
theorem All2.app {α β : Type} {R : α → β → Prop} : ∀ {l l' : List α} {m m' : List β}, All2 R l m → All2 R l' m' → All2 R (l ++ l') (m ++ m')
  | _, _, _, _, .nil, h => h
  | _, _, _, _, .cons r t, h => .cons r (t.app h)
theorem All2.drop {α β : Type} {R : α → β → Prop} : ∀ {l : List α} {m : List β} (n : Nat), All2 R l m → All2 R (l.drop n) (m.drop n)
  | _, _, 0, h => h
  | _, _, n + 1, .nil => .nil
  | _, _, n + 1, .cons r t => t.drop n
theorem All2.take {α β : Type} {R : α → β → Prop} : ∀ {l : List α} {m : List β} (n : Nat), All2 R l m → All2 R (l.take n) (m.take n)
  | _, _, 0, h => .nil
  | _, _, n + 1, .nil => .nil
  | _, _, n + 1, .cons r t => .cons r (t.take n)
abbrev Col := Str × Str
/-- the tuple (name, kind) -/
def ColAt (H : Hp) (v : V) (c : Col) : Prop := ∃ t, v = .ref t ∧ H t = some (.tup [.str c.1, .str c.2])
theorem ColAt.same {H H' : Hp} {v : V} {c : Col} (h : ColAt H v c) (s : Same H H') : ColAt H' v c := by
  obtain ⟨t, e, q⟩ := h
  exact ⟨t, e, s _ _ q⟩
/-- the list of the columns -/
def Cols (H : Hp) (a : Addr) (cs : List Col) : Prop := ∃ vs : List V, H a = some (.lst vs) ∧ All2 (ColAt H) vs cs
theorem Cols.same {H H' : Hp} {a : Addr} {cs : List Col} (h : Cols H a cs) (s : Same H H') : Cols H' a cs := by
  obtain ⟨vs, e, q⟩ := h
  exact ⟨vs, s _ _ e, q.imp fun a b r => r.same s⟩
abbrev LTs : Str := Str.ofString "abcdefghijklmnopqrstuvwxyz"
def isName (z : Str) : Bool := decide (1 ≤ z.length ∧ z.length ≤ 8) && madeOf z LTs
def isKind (k : Str) : Bool := decide (k = "number" ∨ k = "text")
def okCols (cs : List Col) : Bool := decide (1 ≤ cs.length ∧ cs.length ≤ 6) && (cs.all fun c => isName c.1 && isKind c.2) && decide ((cs.map Prod.fst).Nodup)
def spName : Sp := fun vs H Q _ => ∃ z, vs = [.str z] ∧ z.length ≤ 4000 ∧ ∀ H', Same H H' → Q (.bl (isName z)) H'
def shortC (cs : List Col) : Prop := ∀ c ∈ cs, c.1.length ≤ 4000 ∧ c.2.length ≤ 4000
def spAsk (c : Value) : Sp := fun vs H Q E => ∃ a cs, vs = [.ref a] ∧ Cols H a cs ∧ cs.length ≤ 4000 ∧ shortC cs ∧ ∀ H', Same H H' → if okCols cs = true then Q .non H' else E c (none, true) H'
def placeF : List Col → Str → Nat → V
  | [], _, _ => .non
  | c :: r, z, i => if c.1 = z then .int i else placeF r z (i + 1)
def spPlace : Sp := fun vs H Q _ => ∃ a cs z, vs = [.ref a, .str z] ∧ Cols H a cs ∧ ∀ H', Same H H' → Q (placeF cs z 0) H'
def isRowN : V → Bool
  | .int i => decide (0 ≤ i ∧ i ≤ 1000000000)
  | _ => false
def spRowN : Sp := fun vs H Q _ => ∃ v, vs = [v] ∧ scalar v = true ∧ Q (.bl (isRowN v)) H
def allVal : List Col → List V → Bool
  | c :: cs, v :: vs => isVal c.2 v && allVal cs vs
  | _, _ => true
def isRow (cs : List Col) (v : V) (xs : List V) : Bool := isRowN v && decide (xs.length = cs.length) && allVal cs xs
def spRow : Sp := fun vs H Q _ => ∃ a cs v b xs, vs = [.ref a, v, .ref b] ∧ Cols H a cs ∧ cs.length ≤ 4000 ∧ scalar v = true ∧ H b = some (.lst xs) ∧ (∀ x ∈ xs, scalar x = true ∧ short x) ∧ ∀ H', Same H H' → Q (.bl (isRow cs v xs)) H'
/-! columns and values as data -/
def dCol (c : Col) : PyData := .tuple [.str c.1, .str c.2]
def layC (cs : List Col) : Prop := ∀ c ∈ cs, okS 4000 c.1 ∧ okS 4000 c.2
theorem cutV_to (xs : List V) (k : Nat) : cutV xs none (some (k : Int)) = xs.take k := by
  unfold cutV
  rw [HT.sIx_none, HT.sIx_nat]
  show ((xs.drop 0).take (min k xs.length - 0)) = _
  rw [List.drop_zero, Nat.sub_zero, List.take_eq_take_iff]
  omega
theorem cutV_from (xs : List V) (k : Nat) : cutV xs (some (k : Int)) none = xs.drop k := by
  unfold cutV
  rw [HT.sIx_none, HT.sIx_nat]
  by_cases h : k ≤ xs.length
  · rw [show min k xs.length = k from Nat.min_eq_left h]
    exact List.take_of_length_le (by rw [List.length_drop]; exact Nat.le_refl _)
  · rw [show min k xs.length = xs.length from Nat.min_eq_right (by omega), List.drop_eq_nil_of_le (Nat.le_refl _), List.drop_eq_nil_of_le (by omega)]
    simp
end Vl

namespace Vl
open PySem L2 PyProof.Rows My NumText
/-! ### checks.py -/
def checkR : List Nat → Int
  | [] => 0
  | c :: r => ((c : Int) + 137 * checkR r) % 9973
/-- the check, in four figures -/
def fourF (n : Int) : Str := Txt.zfill (Str.ofString (toString n)) 4
def figV (l : List Nat) : Nat := l.foldl (fun a c => a * 10 + (c - 48)) 0
def fourOk (n : Nat) : Bool := decide ((fourF n).length = 4) && ((fourF n).cps.toList.all isDig && decide (figV (fourF n).cps.toList = n))
def spCheck : Sp := fun vs H Q _ => ∃ z, vs = [.str z] ∧ z.length ≤ 100000 ∧ (∀ c ∈ z.cps.toList, c < 1114112) ∧ Q (.int (checkR z.cps.toList)) H
def spCheckW : Sp := fun vs H Q _ => ∃ z, vs = [.str z] ∧ z.length ≤ 100000 ∧ (∀ c ∈ z.cps.toList, c < 1114112) ∧ Q (.str (fourF (checkR z.cps.toList))) H
/-! ### figures read up to a bound -/
theorem dv_ge : ∀ (r : List Nat) (a : Nat), a * 10 ^ r.length ≤ r.foldl (fun acc c => acc * 10 + (c - 48)) a
  | [], a => by simp
  | c :: r, a => by
    have ih := dv_ge r (a * 10 + (c - 48))
    rw [List.foldl_cons, List.length_cons, Nat.pow_succ]
    refine Nat.le_trans ?_ ih
    have h1 : a * (10 ^ r.length * 10) = a * 10 * 10 ^ r.length := by rw [Nat.mul_comm (10 ^ r.length) 10, Nat.mul_assoc]
    rw [h1]
    exact Nat.mul_le_mul_right _ (Nat.le_add_right _ _)
theorem fig_ge {l : List Nat} (h : areFig l = true) (h1 : l ≠ [48]) : 10 ^ (l.length - 1) ≤ digitsVal l := by
  obtain ⟨hd, hne⟩ := areFig_digits h
  cases l with
  | nil => exact absurd rfl hne
  | cons c r =>
    have hc := hd c List.mem_cons_self
    have hc2 : c ≠ 48 := by
      intro e
      subst e
      unfold areFig at h
      rw [decide_eq_false h1, Bool.false_or] at h
      simp at h
    have := dv_ge r (0 * 10 + (c - 48))
    have h3 : 1 * 10 ^ r.length ≤ (0 * 10 + (c - 48)) * 10 ^ r.length := Nat.mul_le_mul_right _ (by omega)
    unfold digitsVal
    rw [List.foldl_cons]
    show 10 ^ r.length ≤ _
    omega
theorem fig_len {l : List Nat} {m : Int} {k : Nat} (h : areFig l = true) (hm : ((digitsVal l : Nat) : Int) ≤ m) (hk : m < ((10 ^ k : Nat) : Int)) (h1 : 1 ≤ k) : l.length ≤ k := by
  by_cases e : l = [48]
  · subst e
    exact h1
  · have h2 := fig_ge h e
    have h3 : 10 ^ (l.length - 1) < 10 ^ k := by omega
    have h4 := (Nat.pow_lt_pow_iff_right (a := 10) (by decide)).mp h3
    omega
theorem fig_zero {l : List Nat} (h : areFig l = true) : digitsVal l = 0 ↔ l = [48] := by
  constructor
  · intro e
    refine Classical.byContradiction fun n => ?_
    have h2 := fig_ge h n
    have h3 : 0 < 10 ^ (l.length - 1) := Nat.pow_pos (by decide)
    omega
  · intro e
    subst e
    rfl
def figN (l : List Nat) (m : Int) : Option Int := if areFig l = true ∧ ((digitsVal l : Nat) : Int) ≤ m then some ((digitsVal l : Nat) : Int) else none
def intO : Option Int → V
  | none => .non
  | some i => .int i
def spReadF : Sp := fun vs H Q _ => ∃ (z : Str) (m : Int) (k : Nat), vs = [.str z, .int m] ∧ z.length ≤ 4000 ∧ 0 ≤ m ∧ m.natAbs < 10 ^ 60 ∧ (Str.ofString (toString m)).length = k ∧ m < ((10 ^ k : Nat) : Int) ∧ 1 ≤ k ∧ k ≤ 600 ∧ ∀ H', Same H H' → Q (intO (figN z.cps.toList m)) H'
theorem readNum_above {l : List Nat} (h0 : ¬ l[0]? = some 45) : readNum l = figN l 1000000000000000000 := by
  unfold readNum figN isNW wordInt
  rw [if_neg h0, if_neg h0]
  by_cases h : areFig l = true ∧ ((digitsVal l : Nat) : Int) ≤ 1000000000000000000
  · have := fig_len (k := 19) h.1 h.2 (by decide) (by decide)
    rw [if_pos h, if_pos ⟨h.1, by omega, by omega, h.2⟩]
  · rw [if_neg h, if_neg fun x => h ⟨x.1, x.2.2.2⟩]
theorem readNum_below {l : List Nat} (h0 : l[0]? = some 45) : readNum l = match figN (l.drop 1) 1000000000000000000 with
    | some i => if i = 0 then none else some (-i)
    | none => none := by
  unfold readNum figN isNW wordInt
  rw [if_pos h0, if_pos h0]
  have hl : l.length = (l.drop 1).length + 1 := by
    cases l with
    | nil => simp at h0
    | cons c r => simp
  rw [hl]
  generalize l.drop 1 = r
  by_cases h : areFig r = true ∧ ((digitsVal r : Nat) : Int) ≤ 1000000000000000000
  · have h2 := fig_len (k := 19) h.1 h.2 (by decide) (by decide)
    have h3 := fig_zero h.1
    rw [if_pos h]
    show _ = if ((digitsVal r : Nat) : Int) = 0 then none else some (-((digitsVal r : Nat) : Int))
    by_cases e : r = [48]
    · have hz : ((digitsVal r : Nat) : Int) = 0 := by have := h3.mpr e; omega
      rw [if_pos hz]
      refine if_neg fun x => ?_
      rw [Bool.and_eq_true, decide_eq_true_eq] at x
      exact x.1.1 e
    · have hz : ¬ ((digitsVal r : Nat) : Int) = 0 := fun z => e (h3.mp (by omega))
      rw [if_neg hz]
      exact if_pos ⟨by rw [decide_eq_true e, h.1]; rfl, by omega, by omega, by omega⟩
  · rw [if_neg h]
    refine if_neg fun x => ?_
    rw [Bool.and_eq_true] at x
    exact h ⟨x.1.2, by omega⟩
end Vl
namespace Vl
open PySem L2 PyProof.Rows My NumText
/-- how long a number is written -/
theorem int_len {n : Int} (h : n.natAbs < 10 ^ 60) : (Str.ofString (toString n)).length ≤ 70 := by
  by_cases h0 : 0 ≤ n
  · obtain ⟨m, rfl⟩ := Int.eq_ofNat_of_zero_le h0
    have := num_len (m := m) (k := 60) (by decide) (by simpa using h)
    omega
  · have e : n = -((n.natAbs : Nat) : Int) := by omega
    rw [e, num_neg n.natAbs (by omega), len_app]
    have := num_len (m := n.natAbs) (k := 60) (by decide) h
    have l1 : (Str.ofString "-").length = 1 := by decide +kernel
    omega
end Vl

namespace Vl
open PySem L2 PyProof.Rows My NumText
/-! ### orders.py -/
abbrev Ord := Str × Bool
/-- the tuple (name, up) -/
def OrdAt (H : Hp) (v : V) (o : Ord) : Prop := ∃ t, v = .ref t ∧ H t = some (.tup [.str o.1, .bl o.2])
def Ords (H : Hp) (a : Addr) (os : List Ord) : Prop := ∃ vs : List V, H a = some (.lst vs) ∧ All2 (OrdAt H) vs os
def mapO {α β : Type} (f : α → Option β) : List α → Option (List β)
  | [] => some []
  | x :: r => match f x, mapO f r with
    | some y, some ys => some (y :: ys)
    | _, _ => none
/-- a word of an order -/
def ordOf (cs : List Col) (z : Str) : Option Ord :=
  if (z.cps.toList[0]? = some 43 ∨ z.cps.toList[0]? = some 45) ∧ placeF cs (cutS z (some 1) none) 0 ≠ .non then some (cutS z (some 1) none, decide (z.cps.toList[0]? = some 43)) else none
def readOrd (cs : List Col) (z : Str) : Option (List Ord) :=
  if z = "" then some [] else if 4 < (cutT 32 z).length then none else match mapO (ordOf cs) (cutT 32 z) with
    | none => none
    | some os => if (os.map Prod.fst).Nodup then some os else none
def spReadOW (c : Value) : Sp := fun vs H Q E => ∃ a cs z, vs = [.ref a, .str z] ∧ Cols H a cs ∧ z.length ≤ 4000 ∧
  (∀ H', Same H H' → ordOf cs z = none → E c (none, true) H') ∧ ∀ p o H', Same H H' → ordOf cs z = some o → H' p = some (.tup [.str o.1, .bl o.2]) → Q (.ref p) H'
def spReadO (c : Value) : Sp := fun vs H Q E => ∃ a cs z, vs = [.ref a, .str z] ∧ Cols H a cs ∧ z.length ≤ 4000 ∧
  (∀ H', Same H H' → readOrd cs z = none → E c (none, true) H') ∧ ∀ p os H', Same H H' → readOrd cs z = some os → H p = none → Ords H' p os → Q (.ref p) H'
/-- an order's word -/
def ordW (o : Ord) : Str := (if o.2 = true then Str.ofString "+" else Str.ofString "-") ++ o.1
def ordT (os : List Ord) : Str := Str.join " " (os.map ordW)
def spOrdT : Sp := fun vs H Q _ => ∃ a os, vs = [.ref a] ∧ Ords H a os ∧ os.length ≤ 4000 ∧ (∀ o ∈ os, o.1.length ≤ 1000) ∧ ∀ H', Same H H' → Q (.str (ordT os)) H'
theorem cutT_len (c : Nat) (z : Str) : (cutT c z).length ≤ z.length + 1 := by
  have h1 := cutAt_len c z.cps.toList
  unfold cutT
  rw [List.length_map]
  have h2 : z.cps.toList.length = z.length := rfl
  omega
end Vl

namespace Vl
open PySem L2 PyProof.Rows My NumText
/-! ### keys -/
def placeN : List Col → Str → Nat
  | [], _ => 0
  | c :: r, z => if c.1 = z then 0 else placeN r z + 1
theorem placeF_N : ∀ {cs : List Col} {z : Str} (i : Nat), (∃ c ∈ cs, c.1 = z) → placeF cs z i = .int ((i + placeN cs z : Nat) : Int)
  | [], _, _, h => by obtain ⟨c, hc, _⟩ := h; simp at hc
  | d :: r, z, i, h => by
    unfold placeF placeN
    split
    · rfl
    · rename_i hd
      rw [placeF_N (i + 1) (by
        obtain ⟨c, hc, e⟩ := h
        rcases List.mem_cons.mp hc with x | x
        · subst x; exact absurd e hd
        · exact ⟨c, x, e⟩)]
      congr 2
      omega
/-- a row's value at a name -/
def atN (cs : List Col) (xs : List V) (z : Str) : V := (xs[placeN cs z]?).getD .non
def keyL (cs : List Col) (os : List Ord) (xs : List V) : List V := os.map fun o => atN cs xs o.1
def inC (cs : List Col) (os : List Ord) : Prop := ∀ o ∈ os, ∃ c ∈ cs, c.1 = o.1
def spKey : Sp := fun vs H Q _ => ∃ a b n c cs os xs, vs = [.ref a, .ref b, .int n, .ref c] ∧ Cols H a cs ∧ Ords H b os ∧ H c = some (.lst xs) ∧ xs.length = cs.length ∧ cs.length ≤ 4000 ∧ os.length ≤ 4000 ∧ inC cs os ∧
  ∀ p l H', Same H H' → H p = none → H l = none → H' l = some (.lst (keyL cs os xs)) → H' p = some (.tup [.ref l, .int n]) → Q (.ref p) H'
/-- values that may be held against one another -/
def like (x y : V) : Prop := x = .non ∨ y = .non ∨ (∃ i j, x = .int i ∧ y = .int j) ∨ ∃ i j, x = .str i ∧ y = .str j
def aheadF : List Ord → List V → List V → Int → Int → Bool
  | o :: os, x :: xs, y :: ys, n, k => if x = y then aheadF os xs ys n k else decide (before x y = o.2)
  | _, _, _, n, k => decide (n < k)
def KeyAt (H : Hp) (p : Addr) (xs : List V) (n : Int) : Prop := ∃ l, H p = some (.tup [.ref l, .int n]) ∧ H l = some (.lst xs)
def spAhead : Sp := fun vs H Q _ => ∃ b p q os xs ys n k, vs = [.ref b, .ref p, .ref q] ∧ Ords H b os ∧ KeyAt H p xs n ∧ KeyAt H q ys k ∧ xs.length = os.length ∧ ys.length = os.length ∧ (∀ (i : Nat) x y, xs[i]? = some x → ys[i]? = some y → scalar x = true ∧ scalar y = true ∧ like x y) ∧
  ∀ H', Same H H' → Q (.bl (aheadF os xs ys n k)) H'
theorem drop_get {α : Type} {l : List α} {i : Nat} {x : α} (h : l[i]? = some x) : l.drop i = x :: l.drop (i + 1) := by
  obtain ⟨hi, e⟩ := List.getElem?_eq_some_iff.mp h
  rw [← e]
  exact List.drop_eq_getElem_cons hi
end Vl

namespace Vl
open PySem L2 PyProof.Rows My NumText
/-! ### numbers written and read back -/
theorem num_fig (m : Nat) : areFig (Str.ofString (toString ((m : Nat) : Int))).cps.toList = true ∧ digitsVal (Str.ofString (toString ((m : Nat) : Int))).cps.toList = m := by
  have hd : AllDigits (Str.ofString (toString ((m : Nat) : Int))).cps.toList := num_digits m
  have hv : digitsVal (Str.ofString (toString ((m : Nat) : Int))).cps.toList = m := by rw [num_list]; exact PySem.W.KIN.val_back m
  refine ⟨?_, hv⟩
  have hne : (Str.ofString (toString ((m : Nat) : Int))).cps.toList ≠ [] := by rw [num_list]; simp [Nat.toDigits_ne_nil]
  have hall := toDigits_all _ hd
  rw [hv] at hall
  have e := num_list m
  generalize (Str.ofString (toString ((m : Nat) : Int))).cps.toList = l at *
  have hl : l.length = (Nat.toDigits 10 m).length := by rw [e, List.length_map]
  unfold areFig
  rw [Bool.or_eq_true, Bool.and_eq_true, Bool.and_eq_true, decide_eq_true_eq, decide_eq_true_eq, decide_eq_true_eq]
  cases l with
  | nil => exact absurd rfl hne
  | cons c r =>
    by_cases h0 : c = 48
    · subst h0
      left
      rw [List.dropWhile_cons, if_pos (by decide)] at hall
      cases q : r.dropWhile (· == 48) with
      | nil =>
        rw [q] at hall
        rw [hall] at hl
        have : r = [] := by cases r with
          | nil => rfl
          | cons _ _ => simp at hl
        rw [this]
      | cons d t =>
        rw [q] at hall
        rw [hall, List.length_map, ← q] at hl
        have := (List.dropWhile_sublist (p := fun x : Nat => x == 48) (l := r)).length_le
        rw [List.length_cons] at hl
        omega
    · right
      refine ⟨by simp, by simpa using h0, ?_⟩
      rw [List.all_eq_true]
      exact fun x hx => decide_eq_true (hd x hx)
theorem readNum_num {i : Int} (h1 : -1000000000000000000 ≤ i) (h2 : i ≤ 1000000000000000000) : readNum (Str.ofString (toString i)).cps.toList = some i := by
  by_cases h0 : 0 ≤ i
  · obtain ⟨m, rfl⟩ := Int.eq_ofNat_of_zero_le h0
    obtain ⟨a, b⟩ := num_fig m
    have hd := num_digits m
    have hn : ¬ (Str.ofString (toString ((m : Nat) : Int))).cps.toList[0]? = some 45 := fun e => by
      have := hd 45 (List.mem_of_getElem? e)
      omega
    have e := readNum_above hn
    unfold figN at e
    rw [a, b, if_pos ⟨rfl, by omega⟩] at e
    exact e
  · obtain ⟨m, hm, rfl⟩ : ∃ m : Nat, 0 < m ∧ i = -((m : Nat) : Int) := ⟨i.natAbs, by omega, by omega⟩
    obtain ⟨a, b⟩ := num_fig m
    have hl := num_len (m := m) (k := 19) (by decide) (by omega)
    have e : (Str.ofString (toString (-((m : Nat) : Int)))).cps.toList = 45 :: (Str.ofString (toString ((m : Nat) : Int))).cps.toList := by
      rw [num_neg m hm, cps_app]
      have : (Str.ofString "-").cps.toList = [45] := by decide +kernel
      rw [this]
      rfl
    have hz := fig_zero a
    rw [b] at hz
    rw [L2.len_list] at hl
    rw [e]
    generalize (Str.ofString (toString ((m : Nat) : Int))).cps.toList = l at a b hz hl ⊢
    have hne : l ≠ [48] := fun q => by have := hz.mpr q; omega
    have w1 : isNW (45 :: l) = true := by
      unfold isNW
      rw [if_pos (show (45 :: l)[0]? = some 45 from rfl)]
      show (decide (l ≠ [48]) && areFig l) = true
      rw [a, decide_eq_true hne]
      rfl
    have w2 : wordInt (45 :: l) = -((m : Nat) : Int) := by
      unfold wordInt
      rw [if_pos (show (45 :: l)[0]? = some 45 from rfl)]
      show -((digitsVal l : Nat) : Int) = _
      rw [b]
    unfold readNum
    rw [w1, w2, if_pos ⟨rfl, by rw [List.length_cons]; omega, h1, h2⟩]
theorem word_int_free (i : Int) : ∀ c ∈ (Str.ofString (toString i)).cps.toList, c = 45 ∨ (48 ≤ c ∧ c ≤ 57) := by
  intro c hc
  by_cases h0 : 0 ≤ i
  · obtain ⟨m, rfl⟩ := Int.eq_ofNat_of_zero_le h0
    exact .inr (num_digits m c hc)
  · obtain ⟨m, hm, rfl⟩ : ∃ m : Nat, 0 < m ∧ i = -((m : Nat) : Int) := ⟨i.natAbs, by omega, by omega⟩
    rw [num_neg m hm, cps_app] at hc
    rcases List.mem_append.mp hc with h | h
    · left
      have : (Str.ofString "-").cps.toList = [45] := by decide +kernel
      rw [this] at h
      simpa using h
    · exact .inr (num_digits m c h)
theorem q_code : (Str.ofString "?").cps.toList = [63] := by decide +kernel
theorem ap_code : (Str.ofString "'").cps.toList = [39] := by decide +kernel
theorem readV_int {i : Int} (h1 : -1000000000000000000 ≤ i) (h2 : i ≤ 1000000000000000000) : readV "number" (wordOf (.int i)) = some (.int i) := by
  have hn : ¬ wordOf (.int i) = "?" := fun e => by
    have h : 63 ∈ (Str.ofString (toString i)).cps.toList := by
      have e' : Str.ofString (toString i) = Str.ofString "?" := e
      rw [e', q_code]
      simp
    have := word_int_free i 63 h
    omega
  unfold readV
  rw [if_neg hn, if_pos rfl]
  show numV (readNum (Str.ofString (toString i)).cps.toList) = _
  rw [readNum_num h1 h2]
  rfl
theorem isTxt_of {z : Str} (hl : z.length ≤ 20) (h : ∀ c ∈ z.cps.toList, c ∈ SG) : isTxt (.str z) = true := by
  show (decide (z.length ≤ 20) && madeOf z TSs) = true
  rw [decide_eq_true hl, Bool.true_and]
  unfold madeOf
  rw [List.all_eq_true]
  exact fun c hc => decide_eq_true (sg_ts c (h c hc))
theorem cut_ap (z : Str) : cutS (Str.ofString "'" ++ z) (some 1) none = z := by
  apply str_ext
  have := cutS_from (Str.ofString "'" ++ z) 1
  rw [show ((1 : Nat) : Int) = 1 from rfl] at this
  rw [this, cps_app, ap_code]
  rfl
theorem txt_ne_num : ¬ (("text" : Str) = "number") := by decide +kernel
theorem readV_str {z : Str} (hl : z.length ≤ 20) (h : ∀ c ∈ z.cps.toList, c ∈ SG) : readV "text" (wordOf (.str z)) = some (.str z) := by
  have e : wordOf (.str z) = Str.ofString "'" ++ z := rfl
  have h0 : (Str.ofString "'" ++ z).cps.toList[0]? = some 39 := by rw [cps_app, ap_code]; rfl
  have hn : ¬ Str.ofString "'" ++ z = "?" := fun e => by
    have e' : Str.ofString "'" ++ z = Str.ofString "?" := e
    rw [e', q_code] at h0
    simp at h0
  rw [e]
  unfold readV
  rw [if_neg hn, if_neg txt_ne_num]
  unfold readTxt
  rw [cut_ap, if_pos ⟨h0, isTxt_of hl h⟩]
  rfl
/-! ### words parted by blanks -/
theorem cut_join {ps : List Str} (h : ps ≠ []) (hf : ∀ p ∈ ps, 32 ∉ p.cps.toList) : cutT 32 (Str.join " " ps) = ps := by
  unfold cutT
  have e : (Str.join " " ps).cps.toList = glueL 32 (ps.map fun p => p.cps.toList) := join_glue 32 ps
  rw [e, cutAt_glue (by simpa using h) fun p hp => ?_, List.map_map]
  · have : ((fun l : List Nat => (⟨l.toArray⟩ : Str)) ∘ fun p : Str => p.cps.toList) = id := by
      funext p
      rfl
    rw [this, List.map_id]
  · obtain ⟨q, hq, rfl⟩ := List.mem_map.mp hp
    exact hf q hq
/-! ### places of names -/
/-! ### before, as the laws walk it -/
/-! ### a sign some times -/
end Vl

/-! list.insert; sorted of a dict of ints, at a state -/
namespace L2
open PySem PySem.Spec PyProof.Rows PySem.W
section
variable {X : Cx} {σ : St} {H : Hp} {Q : VK} {a : Addr}
/-- xs with y put in at the place k -/
def insAt {α : Type} (xs : List α) (k : Nat) (y : α) : List α := xs.take k ++ y :: xs.drop k
def rInsert : V → List V → Hp → VK → Prop := fun x vs H Q => ∃ l xs k y, x = .ref l ∧ vs = [.int (k : Nat), y] ∧ H l = some (.lst xs) ∧ k ≤ xs.length ∧ xs.length < sizeLine ∧ Q .non (upd H l (.lst (insAt xs k y)))
end
end L2

/-! dicts of ints as data; books -/
namespace Vl
open PySem L2 PyProof.Rows My
section
variable {α β : Type}
def aGet (m : List (Int × α)) (i : Int) : Option α := (m.find? fun p => decide (p.1 = i)).map (·.2)
def aPut (m : List (Int × α)) (i : Int) (x : α) : List (Int × α) := if (m.any fun p => decide (p.1 = i)) = true then m.map (fun p => if p.1 = i then (p.1, x) else p) else m ++ [(i, x)]
def aDrop (m : List (Int × α)) (i : Int) : List (Int × α) := m.filter fun p => decide (p.1 ≠ i)
/-- keys and what stands at them -/
abbrev PR (R : V → α → Prop) (kv : Key × V) (p : Int × α) : Prop := kv.1 = Sum.inl p.1 ∧ R kv.2 p.2
def DictAt (R : V → α → Prop) (H : Hp) (a : Addr) (m : List (Int × α)) : Prop := ∃ kvs, H a = some (.dK kvs) ∧ All2 (PR R) kvs m
/-- the same but for some -/
def Out (S : List Addr) (H H' : Hp) : Prop := ∀ b o, b ∉ S → H b = some o → H' b = some o
/-! ### books -/
def TupAt (H : Hp) (v : V) (xs : List V) : Prop := ∃ t, v = .ref t ∧ H t = some (.tup xs)
def OptAt (H : Hp) (v : V) : Option (List V) → Prop
  | none => v = .non
  | some xs => TupAt H v xs
structure Deed where
  at_ : Int
  row : Int
  was : Option (List V)
  is : Option (List V)
def DeedAt (H : Hp) (v : V) (d : Deed) : Prop := ∃ t w u, v = .ref t ∧ H t = some (.tup [.int d.at_, .int d.row, w, u]) ∧ OptAt H w d.was ∧ OptAt H u d.is
structure Bk where
  heads : List Col
  rows : List (Int × List V)
  touched : List (Int × Int)
  done : List Deed
  known : Int
  now : Int
/-- where a book's things stand -/
structure BA where
  b : Addr
  dx : Addr
  h : Addr
  r : Addr
  t : Addr
  d : Addr
def IntAt (v : V) (i : Int) : Prop := v = .int i
structure BookAt (C : Addr) (H : Hp) (A : BA) (B : Bk) : Prop where
  ins : H A.b = some (.ins C A.dx [("heads", .ref A.h), ("rows", .ref A.r), ("touched", .ref A.t), ("done", .ref A.d), ("known", .int B.known), ("now", .int B.now)])
  own : H A.dx = some (.own A.b)
  heads : Cols H A.h B.heads
  rows : DictAt (TupAt H) H A.r B.rows
  touched : DictAt IntAt H A.t B.touched
  done : ∃ xs, H A.d = some (.lst xs) ∧ All2 (DeedAt H) xs B.done
  rt : A.r ≠ A.t
  hd : A.h ≠ A.d
/-- what a book may write -/
def BA.fp (A : BA) : List Addr := [A.b, A.r, A.t, A.d]
section
variable {C : Addr} {H H' : Hp} {A : BA} {B : Bk}
end
end
end Vl

/-! list(reversed(a list)) -/
namespace L2
open PySem PySem.Spec PyProof.Rows PySem.W
section
variable {prog : Program} {w : World} {A : Around} {E : Value → Shared → Prop} {s : Shared}
variable {I : Addr} {fp wr : List Addr} {G : Array GenState → Array GenState → Prop} {n : Nat} {P : Nat → Value → Prop} {St : Nat → Shared → Prop}
end
section
variable {X : Cx} {σ : St} {H : Hp} {Q : VK} {a : Expr} {p pos p' pos' : Pos}
end
end L2

/-! dict.pop with a default; for over a tuple -/
namespace L2
open PySem PySem.Spec PyProof.Rows PySem.W
section
variable {X : Cx} {σ : St} {H : Hp} {Q : VK} {D : Ends} {o e f : Expr} {apos cpos pos : Pos}
end
end L2

/-! for over a dict of ints that is the function's own; it is out of sight meanwhile and behind it -/
namespace L2
open PySem PySem.Spec PyProof.Rows PySem.W
section
variable {X : Cx} {pins : List (Addr × Obj)} {σ : St} {H : Hp} {s : Shared} {d : Addr}
end
def Itd (ks : List Int) : It := ⟨fun i _ => i < ks.length, fun i H x H' => H' = H ∧ ∃ k, ks[i]? = some k ∧ x = .int k, fun i _ => i = ks.length⟩
section
variable {X : Cx} {σ : St} {H : Hp} {a e : Expr} {tg : Expr} {pos : Pos} {R : It → Hp → Prop} {D : Ends}
end
end L2

/-! isinstance(e, (a, b, ..)) of an exception -/
namespace L2
open PySem PySem.Spec PyProof.Rows PySem.W
section
variable {X : Cx} {H : Hp} {Q : VK} {e C : Addr} {D : Option Addr} {k : Bool}
end
section
variable {X : Cx} {σ σ' : St} {H : Hp} {Q : VK} {a b tg elt : Expr} {scope : Scope} {p p' pos : Pos}
end
end L2

/-! list.count of True or False -/
namespace L2
open PySem PySem.Spec PyProof.Rows PySem.W
section
variable {X : Cx} {H : Hp} {Q : VK}
end
end L2
/-! x is not False; for over range(a, b) -/
namespace L2
open PySem PySem.Spec PyProof.Rows PySem.W
section
variable {X : Cx} {H : Hp} {Q : VK}
variable {σ : St} {a b tg : Expr} {p p' pos : Pos} {D : Ends}
end
end L2

/-! a dict of three written pairs -/
namespace L2
open PySem PySem.Spec PyProof.Rows PySem.W
section
variable {X : Cx} {σ : St} {H : Hp} {Q : VK} {pos : Pos}
end
end L2

/-! raise .. from None within an except suite -/
namespace L2
open PySem PySem.Spec PyProof.Rows
def refAt : Option Addr → Value
  | none => .none
  | some b => .ref b
theorem Linked.nodes {h : Heap} : ∀ {L : List Addr} {c : Option Value}, Linked h c L → ∀ {i : Nat} {a : Addr}, L[i]? = some a → ∃ o vs, h.get? a = some o ∧ o.data = .fields vs ∧ vs[2]? = some (refAt L[i + 1]?)
  | [], _, _, i, a, e => by simp at e
  | b :: r, c, ⟨_, o, vs, q2, q3, q4⟩, 0, a, e => by
    have z : b = a := by simpa using e
    subst z
    refine ⟨o, vs, q2, q3, ?_⟩
    cases r with
    | nil => exact q4
    | cons x r => exact q4.1
  | b :: r, c, ⟨_, o, vs, q2, q3, q4⟩, i + 1, a, e => by
    have e' : r[i]? = some a := by simpa using e
    obtain ⟨o', vs', k1, k2, k3⟩ := q4.nodes e'
    exact ⟨o', vs', k1, k2, by simpa using k3⟩
section
variable {prog : Program} {w : World} {A : Around} {E : Value → Shared → Prop} {s : Shared} {env : Env}
theorem entry_unchain : entryFor table "proto.unchain" = some Builtin.«proto.unchain» := entryFor_of_tree (by kernel_rfl)
theorem unchain_from {e : Addr} {R : Result → Shared → Prop} {L : List Addr} {c : Option Value} (hL : Linked s.heap c L) (hn : L.Nodup) (he : e ∉ L) (k : R (.ok (.ret .none)) s) :
    ∀ (n i j : Nat) (o sl : Addr) (tg : Bool), L.length - i = n → L[i]? = some o → L[j]? = some sl → j ≤ i → codeAny (model prog w) A (.builtin "proto.unchain" ⟨[.ref e, .ref o, .ref sl, .bool tg], []⟩) R s
  | 0, i, j, o, sl, tg, hni, hi, hj, hji => by
    have := (List.getElem?_eq_some_iff.mp hi).1
    omega
  | n + 1, i, j, o, sl, tg, hni, hi, hj, hji => by
    obtain ⟨oo, vs, q1, q2, q3⟩ := hL.nodes hi
    cases hb : L[i + 1]? with
    | none =>
      rw [hb] at q3
      refine codeAny_builtin entry_unchain ?_
      unfold Builtin.«proto.unchain»
      refine wpAny_bind (wpAny_field (x := Value.none) q1 q2 q3 ?_)
      rw [if_pos (by rfl)]
      exact wpAny_pure k
    | some b =>
      rw [hb] at q3
      refine codeAny_builtin entry_unchain ?_
      unfold Builtin.«proto.unchain»
      refine wpAny_bind (wpAny_field (x := Value.ref b) q1 q2 q3 ?_)
      have hbm : b ∈ L := List.mem_of_getElem? hb
      have hbe : b ≠ e := fun z => he (z ▸ hbm)
      have hbs : b ≠ sl := fun z => by
        obtain ⟨p1, r1⟩ := List.getElem?_eq_some_iff.mp hb
        obtain ⟨p2, r2⟩ := List.getElem?_eq_some_iff.mp hj
        have := (List.getElem_inj hn (h₀ := p1) (h₁ := p2)).mp (r1.trans (z.trans r2.symm))
        omega
      rw [if_neg (show ¬ ((Value.ref b == Value.none) = true) from by simp)]
      rw [if_neg (show ¬ ((Value.ref b == Value.ref e) = true) from by simpa using hbe)]
      rw [if_neg (show ¬ ((Value.ref b == Value.ref sl) = true) from by simpa using hbs)]
      have hlt := (List.getElem?_eq_some_iff.mp hb).1
      cases tg with
      | false =>
        refine wpAny_bind (wpAny_pure ?_)
        refine wpAny_pure ⟨Code.quiet_builtin _ (by decide +kernel), ?_⟩
        exact unchain_from hL hn he k n (i + 1) j b sl true (by omega) hb hj (by omega)
      | true =>
        obtain ⟨os, ws, t1, t2, t3⟩ := hL.nodes hj
        have hj1 : j + 1 < L.length := by omega
        rw [List.getElem?_eq_getElem hj1] at t3
        refine wpAny_bind (wpAny_field (x := Value.ref L[j + 1]) t1 t2 t3 ?_)
        refine wpAny_pure ⟨Code.quiet_builtin _ (by decide +kernel), ?_⟩
        exact unchain_from hL hn he k n (i + 1) (j + 1) b _ false (by omega) hb (List.getElem?_eq_getElem hj1) (by omega)
theorem unchain_ok {e h : Addr} {b : Bool} {oh : Obj} {vs : Array Value} {Q : Value → Shared → Prop} (hh : s.heap.get? h = some oh) (hd : oh.data = .fields vs) (hc : Ctx s.heap h b vs[2]?) (hev : ∀ l, Linked s.heap vs[2]? l → e ∉ l) (hne : h ≠ e) (k : Q .none s) :
    wpAny (model prog w) A (runValue (.builtin "proto.unchain" ⟨[.ref e, .ref h, .ref h, .bool false], []⟩)) Q E s := by
  refine wpAny_runValue ?_
  obtain ⟨_, l, q1, q2, q3⟩ := hc
  have hL : Linked s.heap (some (.ref h)) (h :: l) := ⟨rfl, oh, vs, hh, hd, q1⟩
  refine unchain_from hL (List.nodup_cons.mpr ⟨q2, q3⟩) (fun z => ?_) k (l.length + 1) 0 0 h h false rfl rfl rfl (Nat.le_refl _)
  rcases List.mem_cons.mp z with z | z
  · exact hne z.symm
  · exact hev l q1 z
end
section
variable {prog : Program} {w : World} {A : Around} {E : Value → Shared → Prop} {s : Shared} {env : Env}
variable {nm q : Str} {C N : Addr} {bs bm : List Value} {hdct : Bool} {sn : List Str} {sub : List Value} {ab : Bool} {col : Option Bool} {dd : Option Addr} {k0 k1 k2 k3 k5 : Option Value}
theorem fields_turned {h : Heap} {e : Addr} {o : Obj} {vs : Array Value} {i : Nat} {x : Value} (he : h.get? e = some o) (hd : o.data = .fields vs) : (h.update e (Obj.mapFields (·.setIfInBounds i x))).get? e = some { o with data := .fields (vs.setIfInBounds i x) } := by
  rw [Heap.get?_update_self _ he (Obj.isFreed_of_fields (Obj.data_mapFields hd _))]
  obtain ⟨c, d, dt, sl⟩ := o
  cases hd
  rfl
theorem updateField_ok {M : Model} {a : Addr} {o : Obj} {vs : Array Value} {i : Nat} {x : Value} {Q : Unit → Shared → Prop} (ho : s.heap.get? a = some o)
    (hd : o.data = .fields vs) (hi : i < vs.size) (h : Q () { s with heap := s.heap.update a (Obj.mapFields (·.setIfInBounds i x)) }) :
    wpAny M A (updateField a i x) Q E s := by
  have := wpAny_setField (M := M) (A := A) (E := E) (i := i) (x := x) ho hd hi h
  exact this
/-- raise of an object that was made, from None, while h is handled -/
theorem raise_obj_from {h : Addr} {x c : Sem Value} {Q : Flow → Shared → Prop} (hbase : bm.contains (.type "BaseException") = true) (hh : A.handled = some (.ref h))
    (hc : ∀ (P : Value → Shared → Prop) s', P .none s' → wpAny (model prog w) A c P E s')
    (hx : wpAny (model prog w) A x (fun v s₁ => ∃ e t D oh vs b, v = .ref e ∧ s₁.heap.get? C = some (excClassObj nm q C N bs bm hdct sn sub ab col dd k0 k1 k2 k3 k5 "ValueError.__new__") ∧
      s₁.heap.get? e = some { cls := .ref C, dict := D, data := .fields #[.ref t, .none, .none, .none, .bool false, .none] } ∧ h ≠ e ∧ s₁.heap.get? h = some oh ∧ oh.data = .fields vs ∧ Ctx s₁.heap h b vs[2]? ∧ (∀ l, Linked s₁.heap vs[2]? l → e ∉ l) ∧
      ∀ h', (∀ b, b ≠ e → h'.get? b = s₁.heap.get? b) → h'.get? e = some { cls := .ref C, dict := D, data := .fields #[.ref t, .none, .ref h, .none, .bool true, .none] } → E (.ref e) { s₁ with heap := h' }) E s) :
    wpAny (model prog w) A (raiseStmt env (some x) (some c)) Q E s := by
  have hcB : (Value.ref C :: bm).contains (.type "BaseException") = true := by rw [List.contains_cons, hbase, Bool.or_true]
  unfold raiseStmt
  refine wpAny_bind (wpAny_mono hx (fun v s₁ h₁ => ?_) fun _ _ x => x)
  obtain ⟨e, t, D, oh, vs, b, rfl, hC, he, hne, hoh, hod, hcx, hev, hE⟩ := h₁
  obtain ⟨hp, g, d, tk, os⟩ := s₁
  have hCe : C ≠ e := fun z => by rw [z, he] at hC; cases hC
  have ex : ∀ (P : Value → Shared → Prop), P (.ref e) ⟨hp, g, d, tk, os⟩ → wpAny (model prog w) A (excFromValue (.ref e) "exceptions must derive from BaseException") P E ⟨hp, g, d, tk, os⟩ := by
    intro P hP
    unfold excFromValue
    repeat (first | with_reducible refine wpAny_loadPart_at he ?_ | with_reducible refine wpAny_loadPart_at hC ?_ | (with_reducible refine wpAny_isSubtype_exc hC ?_; rw [hcB]) | wp_step)
    exact hP
  refine wpAny_bind (wpAny_holding (hc _ _ ?_))
  refine wpAny_bind (wpAny_pure ?_)
  refine wpAny_bind (wpAny_holding (ex _ ?_))
  dsimp only
  rw [if_pos (by rfl)]
  refine wpAny_bind (wpAny_pure ?_)
  refine wpAny_bind (wpAny_setField he rfl (by simp) ?_)
  have e1 := fields_turned (i := 3) (x := Value.none) he rfl
  have o1 : ∀ b, b ≠ e → (hp.update e (Obj.mapFields (·.setIfInBounds 3 Value.none))).get? b = hp.get? b := fun b hb => Heap.get?_update_other _ _ (Ne.symm hb)
  generalize hp.update e (Obj.mapFields (·.setIfInBounds 3 Value.none)) = hp1 at e1 o1 ⊢
  refine wpAny_bind (wpAny_setField e1 rfl (by simp) ?_)
  have e2 := fields_turned (i := 4) (x := Value.bool true) e1 rfl
  have o2 : ∀ b, b ≠ e → (hp1.update e (Obj.mapFields (·.setIfInBounds 4 (Value.bool true)))).get? b = hp.get? b := fun b hb => (Heap.get?_update_other _ _ (Ne.symm hb)).trans (o1 b hb)
  dsimp only
  generalize hp1.update e (Obj.mapFields (·.setIfInBounds 4 (Value.bool true))) = hp2 at e2 o2 ⊢
  have e2' : hp2.get? e = some { cls := .ref C, dict := D, data := .fields #[.ref t, .none, .none, .none, .bool true, .none] } := e2
  have hC2 := (o2 C hCe).trans hC
  have step : ∀ (P : Flow → Shared → Prop), wpAny (model prog w) A (raiseNew (.ref e)) P E ⟨hp2, g, d, tk, os⟩ → wpAny (model prog w) A (do
      let e ← if ← isType (.ref e) then holding [.ref e] (raisedFor (.ref e) (.ref e)) else raisedInstance (.ref e)
      setFlight e none
      raiseNew e) P E ⟨hp2, g, d, tk, os⟩ := by
    intro P hP
    repeat (first | with_reducible refine wpAny_loadPart_at e2' ?_ | with_reducible refine wpAny_loadPart_at hC2 ?_ | (with_reducible refine wpAny_isSubtype_exc hC2 ?_; rw [hcB]) | wp_step)
    exact hP
  refine step _ ?_
  unfold raiseNew
  refine wpAny_bind (wpAny_handled ?_)
  rw [hh]
  dsimp only
  rw [if_pos (show (Value.ref h != Value.ref e) = true from by simpa using hne)]
  have kk : ∀ v o ws, v ≠ e → hp.get? v = some o → o.data = .fields ws → ∃ o' ws', hp2.get? v = some o' ∧ o'.data = .fields ws' ∧ ws'[2]? = ws[2]? := fun v o ws hv q1 q2 => ⟨o, ws, (o2 v hv).trans q1, q2, rfl⟩
  have kb : ∀ v o ws, v ≠ e → hp2.get? v = some o → o.data = .fields ws → ∃ o' ws', hp.get? v = some o' ∧ o'.data = .fields ws' ∧ ws'[2]? = ws[2]? := fun v o ws hv q1 q2 => ⟨o, ws, (o2 v hv).symm.trans q1, q2, rfl⟩
  have hcx2 : Ctx hp2 h b vs[2]? := by
    obtain ⟨c1, l, c2, c3, c4⟩ := hcx
    exact ⟨c1, l, c2.stay kk (hev l c2), c3, c4⟩
  have hev2 : ∀ l, Linked hp2 vs[2]? l → e ∉ l := by
    intro l hl
    obtain ⟨_, l', c2, _, _⟩ := hcx
    have n1 := hev l' c2
    have c2' := c2.stay kk n1
    have uniq : ∀ (l l' : List Addr) (c : Option Value), Linked hp2 c l → Linked hp2 c l' → l = l' := by
      intro l
      induction l with
      | nil =>
        intro l' c a1 a2
        cases l' with
        | nil => rfl
        | cons y l' => rw [a2.1] at a1; cases a1
      | cons y l ih =>
        intro l' c a1 a2
        cases l' with
        | nil => have z := a1.1; rw [show c = _ from a2] at z; cases z
        | cons y' l' =>
          obtain ⟨b1, o, ws, b2, b3, b4⟩ := a1
          obtain ⟨b1', o', ws', b2', b3', b4'⟩ := a2
          rw [b1] at b1'
          cases b1'
          rw [b2] at b2'
          cases b2'
          rw [b3] at b3'
          cases b3'
          rw [ih l' _ b4 b4']
    rw [uniq l l' _ hl c2']
    exact n1
  refine wpAny_bind (wpAny_holding (unchain_ok (s := ⟨hp2, g, d, tk, os⟩) ((o2 h hne).trans hoh) hod hcx2 hev2 hne ?_))
  refine wpAny_bind (updateField_ok (i := 2) (x := Value.ref h) e2' rfl (by simp) ?_)
  refine wpAny_throw (hE _ (fun b hb => ?_) ?_)
  · exact (Heap.get?_update_other _ _ (Ne.symm hb)).trans (o2 b hb)
  · exact fields_turned e2' rfl
end
end L2

namespace L2
open PySem PySem.Spec PyProof.Rows
section
variable {X : Cx} {Kx : St → XK} {D : Ends} {σ : St} {H : Hp} {rest : List ExceptHandler} {pos np ynp cpos rpos p0 : Pos} {x y fld : Str} {cls c : Value} {d : Option Addr × Bool} {a : Expr} {as : List Expr} {cc : Bool} {k k' j0 : Nat}
theorem Ch.uninEx {e : Value} {F : Value → Shared → Prop} {pins pins' : List (Addr × Obj)} {b : Addr} (c : Ch (X.inEx e F (X.pn ++ pins)) pins' b) : Ch X pins b := ⟨c.1, c.2.1, c.2.2.1, fun p hp => c.2.2.2 p (List.mem_append_left _ hp)⟩
/-- an exception raised in an except suite comes back to the code around it -/
theorem back_ok {F : Value → Shared → Prop} {pins pins' : List (Addr × Obj)} {s : Shared} {h : Value} {e : Addr} (hx : XOk X Kx) (hst : X.stack = X.env :: X.outer) (hf : X.env.frame = some X.env.locals) (ok : X.Ok) (xa : XAt (X.inEx h F (X.pn ++ pins)) pins' σ H s e cls d) (q : Kx σ cls d H) :
    notedBy (model X.prog X.w) (X.A.mark (some h)) X.env (cameBackBy (model X.prog X.w) X.A X.env X.xe) (.ref e) s := by
  unfold notedBy
  refine XAt.note (X := X.inEx h F (X.pn ++ pins)) xa hst hf fun s1 T I1 F1 c1 => ?_
  obtain ⟨oe, vs, he, hc, hdx, hd, h1, hz, h2, hT⟩ := id F1
  obtain ⟨hne, oT, ws, t1, t2, t3⟩ := hT T rfl
  have h3 : 3 < ws.size := (Array.getElem?_eq_some_iff.mp t3).1
  have h1' : vs[1]? = some (Value.ref T) := h1
  unfold cameBackBy
  refine wpAny_bind (wpAny_field he hd h1' ?_)
  rw [if_neg (show ¬ ((Value.ref T == Value.none) = true) from by simp)]
  unfold setFlight
  refine wpAny_bind (wpAny_field he hd h1' ?_)
  rw [if_pos (show (Value.ref T != Value.none) = true from by simp), hf]
  refine wpAny_setField t1 t2 h3 ?_
  have I2 := Inv.uninEx ok I1
  have oth : ∀ b, b ≠ T → (s1.heap.update T (Obj.mapFields (·.setIfInBounds 3 (rawInt X.env.locals)))).get? b = s1.heap.get? b := fun b hb => Heap.get?_update_other _ _ (Ne.symm hb)
  have slf := Heap.get?_update_self (Obj.mapFields (·.setIfInBounds 3 (rawInt X.env.locals))) t1 (Obj.isFreed_of_fields (Obj.data_mapFields t2 _))
  have N : Noted s1.heap (s1.heap.update T (Obj.mapFields (·.setIfInBounds 3 (rawInt X.env.locals)))) [T] (frs X.stack) := by
    refine ⟨fun b o q _ n => (oth b (fun z => n (by simp [z]))).trans q, fun b o q n => ⟨o.slots, (oth b (fun z => n (by simp [z]))).trans q⟩, fun b o q => ?_⟩
    by_cases z : b = T
    · subst z; exact ⟨_, slf⟩
    · exact ⟨o, (oth b z).trans q⟩
  have ch : ∀ b ∈ [e, T], H b = none ∧ Ch X pins b := fun b hb => ⟨(c1 b hb).1, (c1 b hb).2.uninEx⟩
  refine hx pins σ H _ e cls d ⟨I2.noted N fun b hb => ?_, some T, rawInt X.env.locals, ⟨oe, vs, (oth e (Ne.symm hne)).trans he, hc, hdx, hd, h1, hz, h2.stay fun v o ws' hv q1 q2 => ?_, fun T' eT => ?_⟩, .inr ⟨rfl, rfl⟩, fun b hb => ch b (by simpa using hb)⟩ q
  · have z : b = T := by simpa using hb
    subst z
    exact ch b (by simp)
  · by_cases z : v = T
    · subst z
      rw [t1] at q1
      cases q1
      exact ⟨_, _, slf, Obj.data_mapFields q2 _, by rw [Array.getElem?_setIfInBounds_ne (by decide)]⟩
    · exact ⟨o, ws', (oth v z).trans q1, q2, rfl⟩
  · cases eT
    exact ⟨hne, _, _, slf, Obj.data_mapFields t2 _, by simp [h3]⟩
theorem not_frame {pins : List (Addr × Obj)} {s : Shared} (I : Inv X pins σ H s) {e : Addr} {oe : Obj} {vs : Array Value} (he : s.heap.get? e = some oe) (hd : oe.data = .fields vs) : e ∉ X.fs := fun m => by
  obtain ⟨_, o, ho, nf⟩ := I.funs.mem m
  rw [he] at ho
  cases ho
  exact nf vs hd
theorem none_ok {M : Model} {A : Around} {E : Value → Shared → Prop} {env : Env} {p p' : Pos} {j : Nat} (P : Value → Shared → Prop) (s : Shared) (h : P .none s) : wpAny M A (do let v ← eval (.Constant .none j p) env; standAt p'; pure v) P E s :=
  wpAny_bind (Constant_none (wpAny_bind (wpAny_standAt (wpAny_pure h))))
/-- except C: raise Y(n) from None, Y having its own making; the handled one has no context -/
theorem eh_fromI (hx : XOk X Kx) (hst : X.stack = X.env :: X.outer) (hf : X.env.frame = some X.env.locals) (hg : Gl X x) (hm : X.mg x = some c) (hd : (x == ("__debug__" : Str)) = false) (ex : PySem.W.exmOne X.K cls c = some true) (hd2 : d.2 = true)
    (O : XDef X.prog X.w X.K X.mg X.base false k y fld) (hr : Room cc k' X.A) (hk : k + 1 ≤ k') (hgy : Gl X y) (hdy : (y == ("__debug__" : Str)) = false) (he : starEach (a :: as) X.env = (false, eval a X.env) :: starEach as X.env)
    (hpl : (backTo cpos (starEach as X.env)).any (·.1) = false)
    (h : ∀ e pn, EA (X.inEx (.ref e) (fun _ _ => False) pn) (a :: as) σ H fun vs H1 => ∃ n, vs = [.int n] ∧ n.natAbs < 10 ^ 60 ∧ ∀ E' H', Same H1 H' → H' E' = some (.xd [(fld, .int n)]) → Kx σ (.ref (clsA X.mg y)) (some E', false) H') :
    EH X (.ExceptHandler (some (.Name x np)) none [.Raise (some (.Call (.Name y ynp) (a :: as) [] cpos)) (some (.Constant .none j0 p0)) rpos] pos :: rest) D σ cls d H := by
  intro pins s e T I F ch
  refine wpAny_handleBy_cons (test_ok I F hg hm hd ex ?_) (by intro q; cases q)
  refine codeAny_handlers_suite (I.off F ch fun s2 I2 F2 => ?_)
  obtain ⟨oe, ves, hoe, hcl, hdx, hdt, _, hsz2, hctx, _⟩ := F2
  obtain ⟨f, fd, ps, oc, od, osl, Fn, hb, hi, hlk, hoc⟩ := O.ex
  obtain ⟨bm, N, nm, q, bs, hdct, sn, sub, ab, col, dd, k0, k1, k2, k3, k5, mN, hC, hN, hni, T'⟩ := ini_obj I.ok.mod.kin hi
  -- the handled one is pinned
  obtain ⟨c0, c1⟩ := ch e (by simp)
  let Y : Cx := X.inEx (.ref e) (fun _ _ => False) (X.pn ++ pins)
  have J0 : Inv Y [] σ H s2 := I2.inEx
  have J : Inv Y [(e, oe)] σ H s2 := J0.pins_of fun p hp => by
    have z : p = (e, oe) := by simpa using hp
    subst z
    exact ⟨hoe, c0, c1.2.1, not_frame I2 hoe hdt, fun v z => by rw [hdt] at z; cases z⟩
  have hr' : Room false (k + 1) Y.A := ⟨(fun z => nomatch z), (hr.mono hk).dp, (hr.mono hk).un⟩
  refine wpAny_execs_cons (wpAny_mono (Q := fun _ _ => False) (E := notedBy (model X.prog X.w) (X.A.mark (some (.ref e))) X.env (cameBackBy (model X.prog X.w) X.A X.env X.xe)) ?_ (fun _ _ z => z.elim) fun _ _ z => z)
  rw [arm_exec_Raise]
  refine wpAny_bind (wpAny_standAt (raise_obj_from (h := e) (C := clsA X.mg y) (nm := nm) (q := q) (N := N) (bs := bs) (bm := bm) (hdct := hdct) (sn := sn) (sub := sub) (ab := ab) (col := col) (dd := dd) (k0 := k0) (k1 := k1) (k2 := k2) (k3 := k3) (k5 := k5) (T'.hasType (by decide +kernel)) rfl (fun P s' hP => none_ok P s' hP) ?_))
  refine wpAny_bind (wpAny_mono (wpAny_Call_ofName (ld_glob (X := Y) J hgy O.at_ ?_ hdy)) (fun v s₃ h₃ => wpAny_bind (wpAny_standAt (wpAny_pure h₃))) fun _ _ x => x)
  unfold callWith
  have h' := h e (X.pn ++ pins) cpos [(e, oe)] s2 J
  have he' : starEach (a :: as) Y.env = (false, eval a Y.env) :: starEach as Y.env := he
  show wpAny _ _ (holding _ (evalArgs _ _ (backTo cpos (starEach (a :: as) Y.env)) _) >>= _) _ _ _
  rw [he'] at h' ⊢
  refine wpAny_bind (wpAny_holding (Calls.evalArgs_plain (wpAny_mono h' (fun us s3 hu => wpAny_bind (wpAny_standAt ?_)) fun _ _ z => z.elim)))
  obtain ⟨vs, H1, J2, r, n, ev, hn, kq⟩ := hu
  subst ev
  obtain ⟨u, rfl, ru⟩ := vals1 r
  obtain ⟨hp, g, d3, tk, os⟩ := s3
  have hpl' : (backTo cpos ((false, eval a Y.env) :: starEach as Y.env)).any (·.1) = false := by
    show (false || (backTo cpos (starEach as X.env)).any (·.1)) = false
    rw [hpl]
    rfl
  simp only [hpl']
  have hC3 := J2.bk _ _ hC
  refine wpAny_bind (wpAny_keeperOf_exc hC3 ?_)
  refine wpAny_bind (call_ini (T'.keeps J2.bk) hC3 (hN.keeps J2.bk) hni (J2.kIn _ _ hlk) hoc (fun h3 b M => ?_) (by show 1 ≤ sizeLine; rw [sizeLine_eq]; decide))
  obtain ⟨t, m1, m2, m3⟩ := M.there
  have hfree : H1 b = none := J2.hok.free M.new
  have hch : Ch Y [(e, oe)] b := J2.ch M.new
  have J3 : Inv Y [(e, oe)] σ H1 ⟨h3, g, d3, tk, os⟩ := J2.kept (t' := tk) M.keeps
  have J4 : Inv Y [(e, oe)] σ (upd H1 b (xo b (clsA X.mg y) none)) ⟨h3, g, d3, tk, os⟩ := J3.adopt hfree hch (xo_ok m1)
  have rv : Vals [V.ref b, .int n] [Value.ref b, u] := .cons rfl (.cons ru .nil)
  have hsp : spIni (clsA X.mg y) fld [V.ref b, .int n] (upd H1 b (xo b (clsA X.mg y) none)) (fun v H' => v = .non ∧ ∃ E', H' b = some (xo b (clsA X.mg y) (some E')) ∧ H' E' = some (.xd [(fld, .int n)]) ∧ E' ≠ b ∧ ∀ c o, c ≠ b → H1 c = some o → H' c = some o) (fun _ _ _ => False) :=
    ⟨b, n, rfl, hn, upd_same, fun E' H' h1 h2 h3' h4 h5 => ⟨rfl, E', h4, h5, h1, fun c o hb q => h3' c o hb (by rw [upd_ne hb]; exact q)⟩⟩
  have hl : ([Value.ref b, u] : List Value).length = ps.length := by rw [← rv.length]; exact Fn.len _ _ _ _ hsp
  have hb' := hb ⟨h3, g, d3, tk, os⟩ [Value.ref b, u] J4.kIn (by simpa using hl)
  rw [List.append_nil] at hb'
  refine wpAny_call (codeAny_mono (Fn.run (Y.A.under (.builtin "type.__call__" ⟨.ref (clsA X.mg y) :: [u], []⟩)) Y.stack ⟨h3, g, d3, tk, os⟩ _ ⟨[Value.ref b, u], []⟩ [Value.ref b, u] [V.ref b, .int n] _ (fun _ _ _ => False) (hr'.make (clsA X.mg y) [u] [])
    (J4.env0.make (clsA X.mg y) [u] []) hb' rv hsp) fun r s' hq => ?_)
  cases r with
  | error e => exact (CX1.never hq).elim
  | ok fl =>
    cases fl with
    | ret v =>
      obtain ⟨v', H', J5, rr, ev, E', g1, g2, g3, g4⟩ := J4.after hq
      subst ev
      refine ⟨rr, ?_⟩
      obtain ⟨⟨t', ht'⟩, _, _⟩ := J5.hok b _ g1
      have J6 := J5.forget g1 hch
      have pe := J6.pin (e, oe) (List.mem_append_right _ (List.mem_singleton.mpr rfl))
      have hbe : e ≠ b := fun z => by
        have h0 := (J2.pin (e, oe) (List.mem_append_right _ (List.mem_singleton.mpr rfl))).1
        rw [z] at h0
        rw [show hp.get? b = none from M.new] at h0
        cases h0
      have hnone : ves[2]? = some Value.none := hctx.1 hd2
      refine wpAny_bind (wpAny_holding (wpAny_point (wpAny_pure ⟨b, t', some E', oe, ves, true, rfl, J5.bk _ _ hC, ht', hbe, pe.1, hdt, Ctx.yes hnone, fun l hl z => ?_, fun h7 o7 e7 => ?_⟩)))
      · rw [hnone] at hl
        cases l with
        | nil => simp at z
        | cons y l => exact absurd hl.1 (by simp)
      · have N7 : Noted s'.heap h7 [b] (frs Y.stack) := by
          refine ⟨fun c o q _ n => (o7 c fun z => n (by simp [z])).trans q, fun c o q n => ⟨o.slots, (o7 c fun z => n (by simp [z])).trans q⟩, fun c o q => ?_⟩
          by_cases z : c = b
          · subst z; exact ⟨_, e7⟩
          · exact ⟨o, (o7 c z).trans q⟩
        have J7 : Inv Y [(e, oe)] σ (dropH H' b) { s' with heap := h7 } := J6.noted N7 fun c hc => by
          have z : c = b := by simpa using hc
          subst z
          exact ⟨dropH_self, hch⟩
        refine back_ok (F := fun _ _ => False) (pins := pins) (pins' := [(e, oe)]) (σ := σ) (H := dropH H' b) (cls := .ref (clsA X.mg y)) (d := (some E', false)) hx hst hf I.ok ⟨J7, none, .none, ⟨_, _, e7, rfl, rfl, rfl, rfl, by simp, ⟨(fun z => nomatch z), [e], ⟨rfl, oe, ves, (o7 e hbe).trans pe.1, hdt, hnone⟩, by simpa using Ne.symm hbe, by simp⟩, (fun T z => nomatch z)⟩, .inl rfl, fun c hc => ?_⟩ (kq E' _ (fun c o q => ?_) ?_)
        · have z : c = b := by simpa using hc
          subst z
          exact ⟨dropH_self, hch⟩
        · have hcb : c ≠ b := ne_of_none q hfree
          rw [dropH_ne hcb]
          exact g4 c o hcb q
        · rw [dropH_ne g3]
          exact g2
    | next => exact False.elim hq
    | brk => exact False.elim hq
    | cont => exact False.elim hq
end
end L2

/-! str.rpartition by one sign -/
namespace L2
open PySem PySem.Spec PyProof.Rows PySem.Builtin PySem.Builtin.Str
def lastP (p : Nat → Bool) : Nat → Option Nat
  | 0 => none
  | n + 1 => if p n = true then some n else lastP p n
section
variable {X : Cx} {H : Hp} {Q : VK} {z : Str}
end
end L2

/-! comprehensions with a test, over a list, whose elements are plain values -/
namespace L2
open PySem PySem.Spec PyProof.Rows
def keptF (keep : Nat → Bool) (val : Nat → V) (n : Nat) : List V := ((List.range n).filter keep).map val
section
variable {X : Cx} {e c : Expr} {σ σ' : St} {H : Hp} {Q : VK} {D : Ends} {pos spos py : Pos} {tg elt : Expr} {scope : Scope} {y : Str} {j : Nat}
/-- what is wanted of a comprehension with a test -/
def CompF (X : Cx) (N' : List Str) (scope : Scope) (tg elt c : Expr) (σ' : St) (H1 : Hp) (Q : VK) (xs : List V) : Prop :=
  ∃ (Tp : St → Prop) (keep : Nat → Bool) (val : Nat → V), Tp σ' ∧
    (∀ (fp : List Addr) (E C : Addr) (s3 : Shared) (H0 : Hp) (i : Nat) (τ : St) (x : V) (H2 : Hp), H1 E = none → xs[i]? = some x → Tp τ → Same H1 H2 →
      EG (blk X N' scope (closL scope X.env) C s3 H0 fp) tg x τ H2 fun τ2 H3 => ET (blk X N' scope (closL scope X.env) C s3 H0 fp) c τ2 H3 fun k H4 => k = keep i ∧ Tp τ2 ∧ Same H2 H4 ∧ (k = true → EV (blk X N' scope (closL scope X.env) C s3 H0 fp) elt τ2 H4 fun v H5 => v = val i ∧ Same H4 H5)) ∧
    ∀ (E : Addr) (H2 : Hp), H1 E = none → H2 E = some (.lst (keptF keep val xs.length)) → Same H1 H2 → Q (.ref E) H2
end
end L2

/-! own words for the steps (keys of one's own at the library's walk_at) -/
local macro_rules | `(tactic| walk_at "nm") => `(tactic| refine L2.ev_name (by rfl) (by first | exact Or.inl rfl | exact Or.inr (Or.inl rfl) | exact Or.inr (Or.inr rfl)) ?_ (by decide) (by decide))
local macro_rules | `(tactic| walk_at "gc") => `(tactic| refine L2.ev_gc (by assumption) (by rfl) ?_ (by decide))
local macro_rules | `(tactic| walk_at "ty") => `(tactic| first
  | ((with_reducible show L2.EV _ (PySem.Expr.Name "str" _) _ _ _); refine L2.ty_str (by rfl) (by assumption) ?_)
  | ((with_reducible show L2.EV _ (PySem.Expr.Name "list" _) _ _ _); refine L2.ty_list (by rfl) (by assumption) ?_)
  | ((with_reducible show L2.EV _ (PySem.Expr.Name "tuple" _) _ _ _); refine L2.ty_tuple (by rfl) (by assumption) ?_)
  | ((with_reducible show L2.EV _ (PySem.Expr.Name "int" _) _ _ _); refine L2.ty_int (by rfl) (by assumption) ?_)
  | ((with_reducible show L2.EV _ (PySem.Expr.Name "set" _) _ _ _); refine L2.ty_set (by rfl) (by assumption) ?_)
  | ((with_reducible show L2.EV _ (PySem.Expr.Name "bool" _) _ _ _); refine L2.ty_bool (by rfl) (by assumption) ?_)
  | ((with_reducible show L2.EV _ (PySem.Expr.Name "dict" _) _ _ _); refine L2.ty_dict (by rfl) (by assumption) ?_))
local macro_rules | `(tactic| walk_at "cb") => `(tactic| first
  | ((with_reducible show L2.EV _ (PySem.Expr.Call (PySem.Expr.Name "len" _) _ _ _) _ _ _); refine L2.cb_len (by rfl) (by assumption) (by rfl) (by rfl) ?_)
  | ((with_reducible show L2.EV _ (PySem.Expr.Call (PySem.Expr.Name "isinstance" _) _ _ _) _ _ _); refine L2.cb_isinstance (by rfl) (by assumption) (by rfl) (by rfl) ?_)
  | ((with_reducible show L2.EV _ (PySem.Expr.Call (PySem.Expr.Name "all" _) _ _ _) _ _ _); refine L2.cb_all (by rfl) (by assumption) (by rfl) (by rfl) ?_)
  | ((with_reducible show L2.EV _ (PySem.Expr.Call (PySem.Expr.Name "any" _) _ _ _) _ _ _); refine L2.cb_any (by rfl) (by assumption) (by rfl) (by rfl) ?_)
  | ((with_reducible show L2.EV _ (PySem.Expr.Call (PySem.Expr.Name "min" _) _ _ _) _ _ _); refine L2.cb_min (by rfl) (by assumption) (by rfl) (by rfl) ?_)
  | ((with_reducible show L2.EV _ (PySem.Expr.Call (PySem.Expr.Name "max" _) _ _ _) _ _ _); refine L2.cb_max (by rfl) (by assumption) (by rfl) (by rfl) ?_)
  | ((with_reducible show L2.EV _ (PySem.Expr.Call (PySem.Expr.Name "abs" _) _ _ _) _ _ _); refine L2.cb_abs (by rfl) (by assumption) (by rfl) (by rfl) ?_)
  | ((with_reducible show L2.EV _ (PySem.Expr.Call (PySem.Expr.Name "sum" _) _ _ _) _ _ _); refine L2.cb_sum (by rfl) (by assumption) (by rfl) (by rfl) ?_)
  | ((with_reducible show L2.EV _ (PySem.Expr.Call (PySem.Expr.Name "sorted" _) _ _ _) _ _ _); refine L2.cb_sorted (by rfl) (by assumption) (by rfl) (by rfl) ?_)
  | ((with_reducible show L2.EV _ (PySem.Expr.Call (PySem.Expr.Name "ord" _) _ _ _) _ _ _); refine L2.cb_ord (by rfl) (by assumption) (by rfl) (by rfl) ?_)
  | ((with_reducible show L2.EV _ (PySem.Expr.Call (PySem.Expr.Name "divmod" _) _ _ _) _ _ _); refine L2.cb_divmod (by rfl) (by assumption) (by rfl) (by rfl) ?_))
local macro_rules | `(tactic| walk_at "ct") => `(tactic| first
  | ((with_reducible show L2.EV _ (PySem.Expr.Call (PySem.Expr.Name "str" _) _ _ _) _ _ _); refine L2.ct_str (by rfl) (by assumption) (by rfl) (by rfl) ?_)
  | ((with_reducible show L2.EV _ (PySem.Expr.Call (PySem.Expr.Name "list" _) _ _ _) _ _ _); refine L2.ct_list (by rfl) (by assumption) (by rfl) (by rfl) ?_)
  | ((with_reducible show L2.EV _ (PySem.Expr.Call (PySem.Expr.Name "tuple" _) _ _ _) _ _ _); refine L2.ct_tuple (by rfl) (by assumption) (by rfl) (by rfl) ?_)
  | ((with_reducible show L2.EV _ (PySem.Expr.Call (PySem.Expr.Name "int" _) _ _ _) _ _ _); refine L2.ct_int (by rfl) (by assumption) (by rfl) (by rfl) ?_)
  | ((with_reducible show L2.EV _ (PySem.Expr.Call (PySem.Expr.Name "set" _) _ _ _) _ _ _); refine L2.ct_set (by rfl) (by assumption) (by rfl) (by rfl) ?_)
  | ((with_reducible show L2.EV _ (PySem.Expr.Call (PySem.Expr.Name "bool" _) _ _ _) _ _ _); refine L2.ct_bool (by rfl) (by assumption) (by rfl) (by rfl) ?_)
  | ((with_reducible show L2.EV _ (PySem.Expr.Call (PySem.Expr.Name "dict" _) _ _ _) _ _ _); refine L2.ct_dict (by rfl) (by assumption) (by rfl) (by rfl) ?_))
local macro_rules | `(tactic| walk_at "xo") => `(tactic| first | exact L2.xok_fn | assumption | exact L2.xok_false rfl)
local macro_rules | `(tactic| walk_at "po") => `(tactic| first | exact L2.passes_fn | assumption | exact PySem.PassesOwn.never)
local macro_rules | `(tactic| walk_at "cl") => `(tactic| first
  | refine L2.ev_call (by assumption) (by assumption) (by first | decide | omega) (by decide) (by rfl) (by walk_at "xo") (by decide) (by rfl) (by rfl) ?_
  | refine L2.ev_call0 (by assumption) (by assumption) (by first | decide | omega) (by decide) (by rfl) (by walk_at "xo") (by decide) ?_)
local macro_rules | `(tactic| walk_at "bm") => `(tactic| first
  | refine L2.ev_bm PySem.F.plainAttrs_str PySem.F.slot_str_join PySem.F.type_str_join (by rfl) (by rfl) (by rfl) (by rfl) (by rfl) ?_
  | refine L2.ev_bm PySem.F.plainAttrs_str PySem.F.slot_str_index PySem.F.type_str_index (by rfl) (by rfl) (by rfl) (by rfl) (by rfl) ?_
  | refine L2.ev_bm PySem.F.plainAttrs_str PySem.F.slot_str_startswith PySem.F.type_str_startswith (by rfl) (by rfl) (by rfl) (by rfl) (by rfl) ?_)
/-- one step of an expression -/
local macro_rules | `(tactic| walk_at "e") => `(tactic| first
  | ((with_reducible show L2.EV _ (PySem.Expr.Name _ _) _ _ _); first | (walk_at "ty") | (walk_at "nm") | (walk_at "gc"))
  | (with_reducible refine L2.ev_int ?_)
  | (with_reducible refine L2.ev_str ?_)
  | (with_reducible refine L2.ev_bl ?_)
  | (with_reducible refine L2.ev_non ?_)
  | (with_reducible refine L2.ev_bin ?_)
  | ((with_reducible show L2.EV _ (PySem.Expr.Compare _ [_] [_] _) _ _ _); refine L2.ev_cmp (by first | exact L2.nomark _ (by decide) (by decide) | rfl) ?_)
  | ((with_reducible show L2.EV _ (PySem.Expr.Compare _ [_, _] [_, _] _) _ _ _); refine L2.ev_chain (by with_unfolding_all rfl) ?_)
  | (with_reducible refine L2.ev_one ?_)
  | (with_reducible refine L2.ev_and ?_)
  | (with_reducible refine L2.ev_or ?_)
  | (with_reducible refine L2.ev_notV ?_)
  | (with_reducible refine L2.ev_un ?_)
  | (with_reducible refine L2.ev_ifE ?_)
  | (with_reducible refine L2.ev_tup ?_)
  | (with_reducible refine L2.ev_lst ?_)
  | (with_reducible refine L2.ev_sl ?_)
  | ((with_reducible show L2.EV _ (PySem.Expr.Subscript _ _ _) _ _ _); refine L2.ev_ix (fun _ _ => by rfl) ?_)
  | ((with_reducible show L2.EV _ (PySem.Expr.Call (PySem.Expr.Name _ _) _ _ _) _ _ _); first | (walk_at "cb") | (walk_at "ct") | (walk_at "cl"))
  | ((with_reducible show L2.EV _ (PySem.Expr.Call (PySem.Expr.Attribute _ _ _) _ _ _) _ _ _); (walk_at "bm"))
  | (with_reducible refine L2.ev_fstrL ?_)
  | ((with_reducible show L2.EJL _ (PySem.Expr.Constant _ _ _ :: _) _ _ _ _); refine L2.ejl_cons (L2.ev_str ⟨_, 200, rfl, by decide +kernel, by omega, ?_⟩))
  | ((with_reducible show L2.EJL _ (PySem.Expr.FormattedValue _ _ _ _ :: _) _ _ _ _); refine L2.ejl_cons ?_)
  | ((with_reducible show L2.EJL _ [] _ _ _ _); refine L2.ejl_nil (by omega) ?_)
  | (with_reducible refine L2.ea_nil ?_)
  | ((with_reducible show L2.EA _ (_ :: _) _ _ _); refine L2.ea_cons (by rfl) ?_)
  | (with_reducible refine L2.eo_none ?_)
  | (with_reducible refine L2.eo_some ?_)
  | ((with_reducible show L2.ET _ (PySem.Expr.Compare _ [_] [_] _) _ _ _); refine L2.et_cmp (by first | exact L2.nomark _ (by decide) (by decide) | rfl) ?_)
  | ((with_reducible show L2.ET _ (PySem.Expr.Compare _ [_, _] [_, _] _) _ _ _); refine L2.et_chain (by with_unfolding_all rfl) ?_)
  | (with_reducible refine L2.et_not ?_)
  | ((with_reducible show L2.ET _ (PySem.Expr.BoolOp _ _ _) _ _ _); refine L2.et_w ?_)
  | (with_reducible refine L2.ew_and1 ?_)
  | (with_reducible refine L2.ew_or1 ?_)
  | (with_reducible refine L2.ew_and ?_)
  | (with_reducible refine L2.ew_or ?_)
  | ((with_reducible show L2.ET _ (PySem.Expr.Name _ _) _ _ _); refine L2.et_val (fun _ => by rfl) ?_)
  | ((with_reducible show L2.ET _ (PySem.Expr.Call _ _ _ _) _ _ _); refine L2.et_val (fun _ => by rfl) ?_)
  | ((with_reducible show L2.ET _ (PySem.Expr.Subscript _ _ _) _ _ _); refine L2.et_val (fun _ => by rfl) ?_)
  | ((with_reducible show L2.ET _ (PySem.Expr.Constant _ _ _) _ _ _); refine L2.et_val (fun _ => by rfl) ?_))
/-- one operation on values -/
local macro_rules | `(tactic| walk_at "o") => `(tactic| with_reducible first
  | refine L2.o_add ?_ | refine L2.o_sub ?_ | refine L2.o_lt ?_ | refine L2.o_le ?_ | refine L2.o_gt ?_ | refine L2.o_ge ?_
  | refine L2.o_isN ?_ | refine L2.o_notN ?_ | refine L2.o_ltS ?_ | refine L2.o_inS ?_ | refine L2.o_ninS ?_ | refine L2.u_neg ?_
  | refine L2.o_p18 ?_ | refine L2.o_p9 ?_ | refine L2.o_p17 ?_ | refine L2.o_p19 ?_)
local macro_rules | `(tactic| walk_at "o2") => `(tactic| first
  | ((with_reducible show L2.OP _ (PySem.compareOp PySem.CmpOp.Eq) _ _ _ _); refine L2.o_eq (by rfl) ?_)
  | ((with_reducible show L2.OP _ (PySem.compareOp PySem.CmpOp.NotEq) _ _ _ _); refine L2.o_ne (by rfl) ?_)
  | ((with_reducible show L2.OP _ (PySem.binaryOp PySem.Operator.Mod) (L2.V.int _) (L2.V.int _) _ _); refine L2.o_mod (by first | decide | omega) ?_)
  | ((with_reducible show L2.OP _ (PySem.binaryOp PySem.Operator.Mult) (L2.V.int _) (L2.V.int _) _ _); refine L2.o_mul (by first | exact Or.inr ⟨by decide, by decide⟩ | exact Or.inl ⟨by decide, by decide⟩ | exact Or.inl ⟨by omega, by omega⟩ | exact Or.inr ⟨by omega, by omega⟩) ?_)
  | ((with_reducible show L2.OP _ (PySem.binaryOp PySem.Operator.Pow) (L2.V.int _) (L2.V.int _) _ _); refine L2.o_pow ⟨by decide, by decide, by decide⟩ ?_)
  | ((with_reducible show L2.CL _ (PySem.Value.builtin "len") [L2.V.ref _] _ _); refine L2.c_len (Or.inl (by assumption)) ?_)
  | ((with_reducible show L2.CL _ (PySem.Value.builtin "len") [L2.V.str _] _ _); refine L2.c_lenS (by omega) ?_)
  | ((with_reducible show L2.CL _ (PySem.Value.builtin "ord") [L2.V.str _] _ _); refine L2.c_ord ?_)
  | ((with_reducible show L2.CL _ (PySem.Value.builtin "isinstance") _ _ _); with_reducible first | refine L2.is_int_int ?_ | refine L2.is_int_bool ?_ | refine L2.is_int_str ?_ | refine L2.is_int_list ?_ | refine L2.is_int_tuple ?_ | refine L2.is_int_dict ?_ | refine L2.is_bool_int ?_ | refine L2.is_bool_bool ?_ | refine L2.is_bool_str ?_ | refine L2.is_bool_list ?_ | refine L2.is_bool_tuple ?_ | refine L2.is_bool_dict ?_ | refine L2.is_str_int ?_ | refine L2.is_str_bool ?_ | refine L2.is_str_str ?_ | refine L2.is_str_list ?_ | refine L2.is_str_tuple ?_ | refine L2.is_str_dict ?_ | refine L2.is_NoneType_int ?_ | refine L2.is_NoneType_bool ?_ | refine L2.is_NoneType_str ?_ | refine L2.is_NoneType_list ?_ | refine L2.is_NoneType_tuple ?_ | refine L2.is_NoneType_dict ?_))
/-- a test's value that is a truth -/
local macro_rules | `(tactic| walk_at "t") => `(tactic| first
  | (with_reducible refine L2.iteT ?_)
  | (with_reducible refine L2.iteF ?_)
  | (with_reducible refine L2.iteNT ?_)
  | (with_reducible refine L2.iteNF ?_)
  | (with_reducible first | refine L2.iteZ ?_ | refine L2.iteZi ?_ | refine L2.iteZs ?_ | refine L2.iteZr ?_ | refine L2.iteZb ?_ | refine L2.iteY ?_ | refine L2.iteYi ?_ | refine L2.iteYs ?_ | refine L2.iteYr ?_ | refine L2.iteYb ?_)
  | ((with_reducible show ∃ k, L2.V.bl _ = L2.V.bl k ∧ _); refine ⟨_, rfl, ?_⟩)
  | ((with_reducible show ∃ k, L2.TruV _ (L2.V.bl _) _ k ∧ _); refine ⟨_, rfl, ?_⟩)
  | ((with_reducible show ∃ i, L2.V.int _ = L2.V.int i ∧ _); refine ⟨_, rfl, ?_⟩)
  | ((with_reducible show L2.tyV _ _ (L2.V.str _) _ ∧ _); refine ⟨by rfl, ?_⟩))
/-- statements -/
local macro_rules | `(tactic| walk_at "s") => `(tactic| first
  | (with_reducible refine L2.sxs_nil ?_)
  | (with_reducible refine L2.sxs_one ?_)
  | (with_reducible refine L2.sxs_cons ?_)
  | (with_reducible refine L2.sx_ret ?_)
  | (with_reducible refine L2.sx_retN ?_)
  | (with_reducible refine L2.sx_pass ?_)
  | (with_reducible refine L2.sx_if ?_)
  | ((with_reducible show L2.SX _ (PySem.Stmt.Assign [PySem.Expr.Name _ _] _ _) _ _ _); refine L2.sx_set (by assumption) (by rfl) (by first | exact Or.inl rfl | exact Or.inr rfl) (by rfl) (by first | exact Or.inl rfl | exact Or.inr rfl) ?_)
  | ((with_reducible show L2.SX _ (PySem.Stmt.Expr _ _) _ _ _); refine L2.sx_expr (by rfl) ?_))
local macro_rules | `(tactic| walk_at "go") => `(tactic| repeat' (first | (walk_at "e") | (walk_at "o") | (walk_at "o2") | (walk_at "t") | (walk_at "s")))
local macro_rules | `(tactic| walk_at "ex") => `(tactic| repeat' (first | (walk_at "e") | (walk_at "o") | (walk_at "o2") | (walk_at "t")))
namespace K08
open PySem L2 PyProof.Rows
def top (i : Nat) : Stmt := PySem.Challenge.pw_turnleaf_k08_sieves_refused.main.body.getD i (.Pass ⟨0, 0, 0, 0⟩)
abbrev s__wall : Stmt := top 0
abbrev s_made_of : Stmt := top 15
abbrev s_is_text_value : Stmt := top 16
abbrev s_are_figures : Stmt := top 17
abbrev s_read_figures : Stmt := top 18
abbrev s_read_number_word : Stmt := top 19
abbrev s_read_text_word : Stmt := top 20
abbrev s_read_value : Stmt := top 21
abbrev s_place_of : Stmt := top 23
abbrev s_word_at : Stmt := top 49
abbrev s_text_between : Stmt := top 50
abbrev s_read_column : Stmt := top 51
abbrev s_read_word : Stmt := top 52
abbrev s_read_none : Stmt := top 53
abbrev s_read_of_value : Stmt := top 54
abbrev s_read_of_sieves : Stmt := top 55
abbrev s_read_part : Stmt := top 56
abbrev s_read_sieve : Stmt := top 57
abbrev s__law_draw : Stmt := top 59
abbrev s__law_look : Stmt := top 60
abbrev s__law_tree : Stmt := top 61
abbrev s__law_strange : Stmt := top 62
abbrev s__law_over : Stmt := top 63
abbrev s__law_deep : Stmt := top 64
abbrev s__law_spoiled : Stmt := top 65
abbrev s__law_asked : Stmt := top 66
abbrev s_law : Stmt := top 67
abbrev s_NoSieve : Stmt := inClass (top 4) 0
abbrev s_Sieve___init__ : Stmt := inClass (top 25) 0
abbrev s_Sieve_lets : Stmt := inClass (top 25) 1
abbrev s_Sieve_shown : Stmt := inClass (top 25) 2
abbrev s_NoneSieve___init__ : Stmt := inClass (top 27) 0
abbrev s_NoneSieve_lets : Stmt := inClass (top 27) 1
abbrev s_ValueSieve___init__ : Stmt := inClass (top 28) 0
abbrev s_ValueSieve_lets : Stmt := inClass (top 28) 1
abbrev s_ValueSieve_fits : Stmt := inClass (top 28) 2
abbrev s_UnderSieve_fits : Stmt := inClass (top 30) 0
abbrev s_OverSieve_fits : Stmt := inClass (top 31) 0
abbrev s_HoldsSieve_fits : Stmt := inClass (top 32) 0
abbrev s_NotSieve___init__ : Stmt := inClass (top 33) 0
abbrev s_NotSieve_lets : Stmt := inClass (top 33) 1
abbrev s_PairSieve___init__ : Stmt := inClass (top 34) 0
abbrev s_BothSieve_lets : Stmt := inClass (top 35) 0
abbrev s_EitherSieve_lets : Stmt := inClass (top 36) 0
/-- what the top has made -/
structure Txt (K : PySem.W.Frag) (mg : Str → Option Value) : Prop where
  d__wall : ∃ f fd, Fun K "_wall" "_wall" s__wall f fd ∧ mg "_wall" = some (.ref f)
  d_made_of : ∃ f fd, Fun K "made_of" "made_of" s_made_of f fd ∧ mg "made_of" = some (.ref f)
  d_is_text_value : ∃ f fd, Fun K "is_text_value" "is_text_value" s_is_text_value f fd ∧ mg "is_text_value" = some (.ref f)
  d_are_figures : ∃ f fd, Fun K "are_figures" "are_figures" s_are_figures f fd ∧ mg "are_figures" = some (.ref f)
  d_read_figures : ∃ f fd, Fun K "read_figures" "read_figures" s_read_figures f fd ∧ mg "read_figures" = some (.ref f)
  d_read_number_word : ∃ f fd, Fun K "read_number_word" "read_number_word" s_read_number_word f fd ∧ mg "read_number_word" = some (.ref f)
  d_read_text_word : ∃ f fd, Fun K "read_text_word" "read_text_word" s_read_text_word f fd ∧ mg "read_text_word" = some (.ref f)
  d_read_value : ∃ f fd, Fun K "read_value" "read_value" s_read_value f fd ∧ mg "read_value" = some (.ref f)
  d_place_of : ∃ f fd, Fun K "place_of" "place_of" s_place_of f fd ∧ mg "place_of" = some (.ref f)
  d_word_at : ∃ f fd, Fun K "word_at" "word_at" s_word_at f fd ∧ mg "word_at" = some (.ref f)
  d_text_between : ∃ f fd, Fun K "text_between" "text_between" s_text_between f fd ∧ mg "text_between" = some (.ref f)
  d_read_column : ∃ f fd, Fun K "read_column" "read_column" s_read_column f fd ∧ mg "read_column" = some (.ref f)
  d_read_word : ∃ f fd, Fun K "read_word" "read_word" s_read_word f fd ∧ mg "read_word" = some (.ref f)
  d_read_none : ∃ f fd, Fun K "read_none" "read_none" s_read_none f fd ∧ mg "read_none" = some (.ref f)
  d_read_of_value : ∃ f fd, Fun K "read_of_value" "read_of_value" s_read_of_value f fd ∧ mg "read_of_value" = some (.ref f)
  d_read_of_sieves : ∃ f fd, Fun K "read_of_sieves" "read_of_sieves" s_read_of_sieves f fd ∧ mg "read_of_sieves" = some (.ref f)
  d_read_part : ∃ f fd, Fun K "read_part" "read_part" s_read_part f fd ∧ mg "read_part" = some (.ref f)
  d_read_sieve : ∃ f fd, Fun K "read_sieve" "read_sieve" s_read_sieve f fd ∧ mg "read_sieve" = some (.ref f)
  d__law_draw : ∃ f fd, Fun K "_law_draw" "_law_draw" s__law_draw f fd ∧ mg "_law_draw" = some (.ref f)
  d__law_look : ∃ f fd, Fun K "_law_look" "_law_look" s__law_look f fd ∧ mg "_law_look" = some (.ref f)
  d__law_tree : ∃ f fd, Fun K "_law_tree" "_law_tree" s__law_tree f fd ∧ mg "_law_tree" = some (.ref f)
  d__law_strange : ∃ f fd, Fun K "_law_strange" "_law_strange" s__law_strange f fd ∧ mg "_law_strange" = some (.ref f)
  d__law_over : ∃ f fd, Fun K "_law_over" "_law_over" s__law_over f fd ∧ mg "_law_over" = some (.ref f)
  d__law_deep : ∃ f fd, Fun K "_law_deep" "_law_deep" s__law_deep f fd ∧ mg "_law_deep" = some (.ref f)
  d__law_spoiled : ∃ f fd, Fun K "_law_spoiled" "_law_spoiled" s__law_spoiled f fd ∧ mg "_law_spoiled" = some (.ref f)
  d__law_asked : ∃ f fd, Fun K "_law_asked" "_law_asked" s__law_asked f fd ∧ mg "_law_asked" = some (.ref f)
  d_law : ∃ f fd, Fun K "law" "law" s_law f fd ∧ mg "law" = some (.ref f)
  g_NUMBER : Gc mg "NUMBER" (.str "number")
  g_TEXT : Gc mg "TEXT" (.str "text")
  g_FIGURES : Gc mg "FIGURES" (.str "0123456789")
  g_TEXT_SIGNS : Gc mg "TEXT_SIGNS" (.str "abcdefghijklmnopqrstuvwxyz0123456789-")
  g_LARGEST : Gc mg "LARGEST" (.int 1000000000000000000)
  g_LONGEST : Gc mg "LONGEST" (.int 20)
  g_NONE_WORD : Gc mg "NONE_WORD" (.str "?")
  g_TEXT_AHEAD : Gc mg "TEXT_AHEAD" (.str "'")
  g_BELOW_AHEAD : Gc mg "BELOW_AHEAD" (.str "-")
  g_MOST_WORDS : Gc mg "MOST_WORDS" (.int 60)
  g_MOST_WITHIN : Gc mg "MOST_WITHIN" (.int 20)
  g_ALL : Gc mg "ALL" (.str "all")
  g_NONE : Gc mg "NONE" (.str "none")
  g_IS : Gc mg "IS" (.str "is")
  g_UNDER : Gc mg "UNDER" (.str "under")
  g_OVER : Gc mg "OVER" (.str "over")
  g_HOLDS : Gc mg "HOLDS" (.str "holds")
  g_NOT : Gc mg "NOT" (.str "not")
  g_BOTH : Gc mg "BOTH" (.str "both")
  g_EITHER : Gc mg "EITHER" (.str "either")
  n_ValueError : mg "ValueError" = none
  n_all : mg "all" = none
  n_bool : mg "bool" = none
  n_enumerate : mg "enumerate" = none
  n_int : mg "int" = none
  n_isinstance : mg "isinstance" = none
  n_len : mg "len" = none
  n_max : mg "max" = none
  n_range : mg "range" = none
  n_str : mg "str" = none
  m_LeafError : mg "LeafError" = some (.ref (clsA mg "LeafError"))
  m_NoValue : mg "NoValue" = some (.ref (clsA mg "NoValue"))
  m_NoSieve : mg "NoSieve" = some (.ref (clsA mg "NoSieve"))
  m_Sieve : mg "Sieve" = some (.ref (clsA mg "Sieve"))
  m_AllSieve : mg "AllSieve" = some (.ref (clsA mg "AllSieve"))
  m_NoneSieve : mg "NoneSieve" = some (.ref (clsA mg "NoneSieve"))
  m_ValueSieve : mg "ValueSieve" = some (.ref (clsA mg "ValueSieve"))
  m_IsSieve : mg "IsSieve" = some (.ref (clsA mg "IsSieve"))
  m_UnderSieve : mg "UnderSieve" = some (.ref (clsA mg "UnderSieve"))
  m_OverSieve : mg "OverSieve" = some (.ref (clsA mg "OverSieve"))
  m_HoldsSieve : mg "HoldsSieve" = some (.ref (clsA mg "HoldsSieve"))
  m_NotSieve : mg "NotSieve" = some (.ref (clsA mg "NotSieve"))
  m_PairSieve : mg "PairSieve" = some (.ref (clsA mg "PairSieve"))
  m_BothSieve : mg "BothSieve" = some (.ref (clsA mg "BothSieve"))
  m_EitherSieve : mg "EitherSieve" = some (.ref (clsA mg "EitherSieve"))
  x_NoValue : XCls K mg "NoValue"
  b_LeafError : XTop K mg "LeafError"
  c_NoValue : XC K mg "LeafError" "NoValue"
  c_NoSieve : XC K mg "LeafError" "NoSieve"
  i_NoSieve : XIni K mg "LeafError" "NoSieve" "NoSieve.__init__" "at" s_NoSieve
  f_NoSieve : PySem.W.findIn K (.ref (clsA mg "NoSieve")) "at" = some none
  nd_cls : [clsA mg "LeafError", clsA mg "NoValue", clsA mg "NoSieve"].Nodup
  k_Sieve : Cls K (clsA mg "Sieve")
  oi_Sieve : OI K (clsA mg "Sieve") "Sieve.__init__" s_Sieve___init__
  o_Sieve_lets : OM K (clsA mg "Sieve") "lets" "Sieve.lets" s_Sieve_lets
  o_Sieve_shown : OM K (clsA mg "Sieve") "shown" "Sieve.shown" s_Sieve_shown
  na_Sieve_text : NoAttr K (clsA mg "Sieve") "text"
  k_AllSieve : Cls K (clsA mg "AllSieve")
  oi_AllSieve : OI K (clsA mg "AllSieve") "Sieve.__init__" s_Sieve___init__
  o_AllSieve_lets : OM K (clsA mg "AllSieve") "lets" "Sieve.lets" s_Sieve_lets
  o_AllSieve_shown : OM K (clsA mg "AllSieve") "shown" "Sieve.shown" s_Sieve_shown
  na_AllSieve_text : NoAttr K (clsA mg "AllSieve") "text"
  k_NoneSieve : Cls K (clsA mg "NoneSieve")
  oi_NoneSieve : OI K (clsA mg "NoneSieve") "NoneSieve.__init__" s_NoneSieve___init__
  o_NoneSieve_lets : OM K (clsA mg "NoneSieve") "lets" "NoneSieve.lets" s_NoneSieve_lets
  o_NoneSieve_shown : OM K (clsA mg "NoneSieve") "shown" "Sieve.shown" s_Sieve_shown
  na_NoneSieve_text : NoAttr K (clsA mg "NoneSieve") "text"
  na_NoneSieve_place : NoAttr K (clsA mg "NoneSieve") "place"
  k_ValueSieve : Cls K (clsA mg "ValueSieve")
  oi_ValueSieve : OI K (clsA mg "ValueSieve") "ValueSieve.__init__" s_ValueSieve___init__
  o_ValueSieve_fits : OM K (clsA mg "ValueSieve") "fits" "ValueSieve.fits" s_ValueSieve_fits
  o_ValueSieve_lets : OM K (clsA mg "ValueSieve") "lets" "ValueSieve.lets" s_ValueSieve_lets
  o_ValueSieve_shown : OM K (clsA mg "ValueSieve") "shown" "Sieve.shown" s_Sieve_shown
  na_ValueSieve_text : NoAttr K (clsA mg "ValueSieve") "text"
  na_ValueSieve_place : NoAttr K (clsA mg "ValueSieve") "place"
  na_ValueSieve_value : NoAttr K (clsA mg "ValueSieve") "value"
  k_IsSieve : Cls K (clsA mg "IsSieve")
  oi_IsSieve : OI K (clsA mg "IsSieve") "ValueSieve.__init__" s_ValueSieve___init__
  o_IsSieve_fits : OM K (clsA mg "IsSieve") "fits" "ValueSieve.fits" s_ValueSieve_fits
  o_IsSieve_lets : OM K (clsA mg "IsSieve") "lets" "ValueSieve.lets" s_ValueSieve_lets
  o_IsSieve_shown : OM K (clsA mg "IsSieve") "shown" "Sieve.shown" s_Sieve_shown
  na_IsSieve_text : NoAttr K (clsA mg "IsSieve") "text"
  na_IsSieve_place : NoAttr K (clsA mg "IsSieve") "place"
  na_IsSieve_value : NoAttr K (clsA mg "IsSieve") "value"
  k_UnderSieve : Cls K (clsA mg "UnderSieve")
  oi_UnderSieve : OI K (clsA mg "UnderSieve") "ValueSieve.__init__" s_ValueSieve___init__
  o_UnderSieve_fits : OM K (clsA mg "UnderSieve") "fits" "UnderSieve.fits" s_UnderSieve_fits
  o_UnderSieve_lets : OM K (clsA mg "UnderSieve") "lets" "ValueSieve.lets" s_ValueSieve_lets
  o_UnderSieve_shown : OM K (clsA mg "UnderSieve") "shown" "Sieve.shown" s_Sieve_shown
  na_UnderSieve_text : NoAttr K (clsA mg "UnderSieve") "text"
  na_UnderSieve_place : NoAttr K (clsA mg "UnderSieve") "place"
  na_UnderSieve_value : NoAttr K (clsA mg "UnderSieve") "value"
  k_OverSieve : Cls K (clsA mg "OverSieve")
  oi_OverSieve : OI K (clsA mg "OverSieve") "ValueSieve.__init__" s_ValueSieve___init__
  o_OverSieve_fits : OM K (clsA mg "OverSieve") "fits" "OverSieve.fits" s_OverSieve_fits
  o_OverSieve_lets : OM K (clsA mg "OverSieve") "lets" "ValueSieve.lets" s_ValueSieve_lets
  o_OverSieve_shown : OM K (clsA mg "OverSieve") "shown" "Sieve.shown" s_Sieve_shown
  na_OverSieve_text : NoAttr K (clsA mg "OverSieve") "text"
  na_OverSieve_place : NoAttr K (clsA mg "OverSieve") "place"
  na_OverSieve_value : NoAttr K (clsA mg "OverSieve") "value"
  k_HoldsSieve : Cls K (clsA mg "HoldsSieve")
  oi_HoldsSieve : OI K (clsA mg "HoldsSieve") "ValueSieve.__init__" s_ValueSieve___init__
  o_HoldsSieve_fits : OM K (clsA mg "HoldsSieve") "fits" "HoldsSieve.fits" s_HoldsSieve_fits
  o_HoldsSieve_lets : OM K (clsA mg "HoldsSieve") "lets" "ValueSieve.lets" s_ValueSieve_lets
  o_HoldsSieve_shown : OM K (clsA mg "HoldsSieve") "shown" "Sieve.shown" s_Sieve_shown
  na_HoldsSieve_text : NoAttr K (clsA mg "HoldsSieve") "text"
  na_HoldsSieve_place : NoAttr K (clsA mg "HoldsSieve") "place"
  na_HoldsSieve_value : NoAttr K (clsA mg "HoldsSieve") "value"
  k_NotSieve : Cls K (clsA mg "NotSieve")
  oi_NotSieve : OI K (clsA mg "NotSieve") "NotSieve.__init__" s_NotSieve___init__
  o_NotSieve_lets : OM K (clsA mg "NotSieve") "lets" "NotSieve.lets" s_NotSieve_lets
  o_NotSieve_shown : OM K (clsA mg "NotSieve") "shown" "Sieve.shown" s_Sieve_shown
  na_NotSieve_text : NoAttr K (clsA mg "NotSieve") "text"
  na_NotSieve_one : NoAttr K (clsA mg "NotSieve") "one"
  k_PairSieve : Cls K (clsA mg "PairSieve")
  oi_PairSieve : OI K (clsA mg "PairSieve") "PairSieve.__init__" s_PairSieve___init__
  o_PairSieve_lets : OM K (clsA mg "PairSieve") "lets" "Sieve.lets" s_Sieve_lets
  o_PairSieve_shown : OM K (clsA mg "PairSieve") "shown" "Sieve.shown" s_Sieve_shown
  na_PairSieve_text : NoAttr K (clsA mg "PairSieve") "text"
  na_PairSieve_one : NoAttr K (clsA mg "PairSieve") "one"
  na_PairSieve_other : NoAttr K (clsA mg "PairSieve") "other"
  k_BothSieve : Cls K (clsA mg "BothSieve")
  oi_BothSieve : OI K (clsA mg "BothSieve") "PairSieve.__init__" s_PairSieve___init__
  o_BothSieve_lets : OM K (clsA mg "BothSieve") "lets" "BothSieve.lets" s_BothSieve_lets
  o_BothSieve_shown : OM K (clsA mg "BothSieve") "shown" "Sieve.shown" s_Sieve_shown
  na_BothSieve_text : NoAttr K (clsA mg "BothSieve") "text"
  na_BothSieve_one : NoAttr K (clsA mg "BothSieve") "one"
  na_BothSieve_other : NoAttr K (clsA mg "BothSieve") "other"
  k_EitherSieve : Cls K (clsA mg "EitherSieve")
  oi_EitherSieve : OI K (clsA mg "EitherSieve") "PairSieve.__init__" s_PairSieve___init__
  o_EitherSieve_lets : OM K (clsA mg "EitherSieve") "lets" "EitherSieve.lets" s_EitherSieve_lets
  o_EitherSieve_shown : OM K (clsA mg "EitherSieve") "shown" "Sieve.shown" s_Sieve_shown
  na_EitherSieve_text : NoAttr K (clsA mg "EitherSieve") "text"
  na_EitherSieve_one : NoAttr K (clsA mg "EitherSieve") "one"
  na_EitherSieve_other : NoAttr K (clsA mg "EitherSieve") "other"
  ob_Sieve___init__ : OB K (clsA mg "Sieve") "__init__" "Sieve.__init__" s_Sieve___init__
abbrev N_Sieve___init__ : List Str := ["self", "text"]
theorem sc_Sieve___init__ : FnScope N_Sieve___init__ ["self", "text"] (defScope s_Sieve___init__) := ⟨rfl, rfl, rfl, by decide +kernel, rfl, by decide +kernel, by decide +kernel⟩
abbrev N_Sieve_lets : List Str := ["self", "values"]
abbrev N_Sieve_shown : List Str := ["self"]
abbrev N_NoneSieve___init__ : List Str := ["self", "text", "place"]
theorem sc_NoneSieve___init__ : FnScope N_NoneSieve___init__ ["self", "text", "place"] (defScope s_NoneSieve___init__) := ⟨rfl, rfl, rfl, by decide +kernel, rfl, by decide +kernel, by decide +kernel⟩
abbrev N_NoneSieve_lets : List Str := ["self", "values"]
abbrev N_ValueSieve___init__ : List Str := ["self", "text", "place", "value"]
theorem sc_ValueSieve___init__ : FnScope N_ValueSieve___init__ ["self", "text", "place", "value"] (defScope s_ValueSieve___init__) := ⟨rfl, rfl, rfl, by decide +kernel, rfl, by decide +kernel, by decide +kernel⟩
abbrev N_ValueSieve_lets : List Str := ["self", "values"]
abbrev N_ValueSieve_fits : List Str := ["self", "value"]
abbrev N_UnderSieve_fits : List Str := ["self", "value"]
abbrev N_OverSieve_fits : List Str := ["self", "value"]
abbrev N_HoldsSieve_fits : List Str := ["self", "value"]
abbrev N_NotSieve___init__ : List Str := ["self", "text", "one"]
theorem sc_NotSieve___init__ : FnScope N_NotSieve___init__ ["self", "text", "one"] (defScope s_NotSieve___init__) := ⟨rfl, rfl, rfl, by decide +kernel, rfl, by decide +kernel, by decide +kernel⟩
abbrev N_NotSieve_lets : List Str := ["self", "values"]
abbrev N_PairSieve___init__ : List Str := ["self", "text", "one", "other"]
theorem sc_PairSieve___init__ : FnScope N_PairSieve___init__ ["self", "text", "one", "other"] (defScope s_PairSieve___init__) := ⟨rfl, rfl, rfl, by decide +kernel, rfl, by decide +kernel, by decide +kernel⟩
abbrev N_BothSieve_lets : List Str := ["self", "values"]
abbrev N_EitherSieve_lets : List Str := ["self", "values"]
abbrev N_NoSieve : List Str := ["self", "at"]
theorem sc_NoSieve : FnScope N_NoSieve ["self", "at"] (defScope s_NoSieve) := ⟨rfl, rfl, rfl, by decide +kernel, rfl, by decide +kernel, by decide +kernel⟩
abbrev N__wall : List Str := ["k"]
abbrev N_made_of : List Str := ["text", "signs"]
theorem sc_made_of : FnScope N_made_of ["text", "signs"] (defScope s_made_of) := ⟨rfl, rfl, rfl, by decide +kernel, rfl, by decide +kernel, by decide +kernel⟩
abbrev N_is_text_value : List Str := ["value"]
theorem sc_is_text_value : FnScope N_is_text_value ["value"] (defScope s_is_text_value) := ⟨rfl, rfl, rfl, by decide +kernel, rfl, by decide +kernel, by decide +kernel⟩
abbrev N_are_figures : List Str := ["word"]
theorem sc_are_figures : FnScope N_are_figures ["word"] (defScope s_are_figures) := ⟨rfl, rfl, rfl, by decide +kernel, rfl, by decide +kernel, by decide +kernel⟩
abbrev N_read_figures : List Str := ["word", "most", "number"]
theorem sc_read_figures : FnScope N_read_figures ["word", "most"] (defScope s_read_figures) := ⟨rfl, rfl, rfl, by decide +kernel, rfl, by decide +kernel, by decide +kernel⟩
abbrev N_read_number_word : List Str := ["word", "below", "number"]
theorem sc_read_number_word : FnScope N_read_number_word ["word"] (defScope s_read_number_word) := ⟨rfl, rfl, rfl, by decide +kernel, rfl, by decide +kernel, by decide +kernel⟩
abbrev N_read_text_word : List Str := ["word"]
theorem sc_read_text_word : FnScope N_read_text_word ["word"] (defScope s_read_text_word) := ⟨rfl, rfl, rfl, by decide +kernel, rfl, by decide +kernel, by decide +kernel⟩
abbrev N_read_value : List Str := ["kind", "word"]
theorem sc_read_value : FnScope N_read_value ["kind", "word"] (defScope s_read_value) := ⟨rfl, rfl, rfl, by decide +kernel, rfl, by decide +kernel, by decide +kernel⟩
abbrev N_place_of : List Str := ["columns", "name", "place", "column"]
theorem sc_place_of : FnScope N_place_of ["columns", "name"] (defScope s_place_of) := ⟨rfl, rfl, rfl, by decide +kernel, rfl, by decide +kernel, by decide +kernel⟩
abbrev N_word_at : List Str := ["words", "place"]
theorem sc_word_at : FnScope N_word_at ["words", "place"] (defScope s_word_at) := ⟨rfl, rfl, rfl, by decide +kernel, rfl, by decide +kernel, by decide +kernel⟩
abbrev N_text_between : List Str := ["words", "start", "behind"]
theorem sc_text_between : FnScope N_text_between ["words", "start", "behind"] (defScope s_text_between) := ⟨rfl, rfl, rfl, by decide +kernel, rfl, by decide +kernel, by decide +kernel⟩
abbrev N_read_column : List Str := ["columns", "words", "place", "column"]
theorem sc_read_column : FnScope N_read_column ["columns", "words", "place"] (defScope s_read_column) := ⟨rfl, rfl, rfl, by decide +kernel, rfl, by decide +kernel, by decide +kernel⟩
abbrev N_read_word : List Str := ["kind", "words", "place", "word", "value"]
theorem sc_read_word : FnScope N_read_word ["kind", "words", "place"] (defScope s_read_word) := ⟨rfl, rfl, rfl, by decide +kernel, rfl, by decide +kernel, by decide +kernel⟩
abbrev N_read_none : List Str := ["columns", "words", "start", "column"]
theorem sc_read_none : FnScope N_read_none ["columns", "words", "start"] (defScope s_read_none) := ⟨rfl, rfl, rfl, by decide +kernel, rfl, by decide +kernel, by decide +kernel⟩
abbrev N_read_of_value : List Str := ["columns", "words", "start", "word", "column", "kind", "value", "text"]
theorem sc_read_of_value : FnScope N_read_of_value ["columns", "words", "start"] (defScope s_read_of_value) := ⟨rfl, rfl, rfl, by decide +kernel, rfl, by decide +kernel, by decide +kernel⟩
abbrev N_read_of_sieves : List Str := ["columns", "words", "start", "within", "word", "one", "behind", "other", "text"]
theorem sc_read_of_sieves : FnScope N_read_of_sieves ["columns", "words", "start", "within"] (defScope s_read_of_sieves) := ⟨rfl, rfl, rfl, by decide +kernel, rfl, by decide +kernel, by decide +kernel⟩
abbrev N_read_part : List Str := ["columns", "words", "start", "within", "word"]
theorem sc_read_part : FnScope N_read_part ["columns", "words", "start", "within"] (defScope s_read_part) := ⟨rfl, rfl, rfl, by decide +kernel, rfl, by decide +kernel, by decide +kernel⟩
abbrev N_read_sieve : List Str := ["columns", "text", "words", "sieve", "behind"]
theorem sc_read_sieve : FnScope N_read_sieve ["columns", "text"] (defScope s_read_sieve) := ⟨rfl, rfl, rfl, by decide +kernel, rfl, by decide +kernel, by decide +kernel⟩
abbrev N__law_draw : List Str := ["_law_script", "_law_k", "_law_many", "_law_cell", "_law_seed"]
theorem sc__law_draw : FnScope N__law_draw ["_law_script", "_law_k", "_law_many"] (defScope s__law_draw) := ⟨rfl, rfl, rfl, by decide +kernel, rfl, by decide +kernel, by decide +kernel⟩
abbrev N__law_look : List Str := ["_law_script", "_law_base", "_law_names", "_law_number", "_law_text", "_law_way", "_law_column", "_law_look_here"]
theorem sc__law_look : FnScope N__law_look ["_law_script", "_law_base", "_law_names"] (defScope s__law_look) := ⟨rfl, rfl, rfl, by decide +kernel, rfl, by decide +kernel, by decide +kernel⟩
abbrev N__law_tree : List Str := ["_law_script", "_law_names", "_law_words", "_law_open_now", "_law_k", "_law_deep_here", "_law_way"]
theorem sc__law_tree : FnScope N__law_tree ["_law_script", "_law_names"] (defScope s__law_tree) := ⟨rfl, rfl, rfl, by decide +kernel, rfl, by decide +kernel, by decide +kernel⟩
abbrev N__law_strange : List Str := ["_law_script", "_law_role", "_law_names", "_law_some"]
theorem sc__law_strange : FnScope N__law_strange ["_law_script", "_law_role", "_law_names"] (defScope s__law_strange) := ⟨rfl, rfl, rfl, by decide +kernel, rfl, by decide +kernel, by decide +kernel⟩
abbrev N__law_over : List Str := ["_law_script", "_law_names", "_law_many", "_law_k", "_law_at"]
theorem sc__law_over : FnScope N__law_over ["_law_script", "_law_names"] (defScope s__law_over) := ⟨rfl, rfl, rfl, by decide +kernel, rfl, by decide +kernel, by decide +kernel⟩
abbrev N__law_deep : List Str := ["_law_script", "_law_words", "_law_k", "_law_way", "_law_last"]
theorem sc__law_deep : FnScope N__law_deep ["_law_script"] (defScope s__law_deep) := ⟨rfl, rfl, rfl, by decide +kernel, rfl, by decide +kernel, by decide +kernel⟩
abbrev N__law_spoiled : List Str := ["_law_script", "_law_words", "_law_names", "_law_at", "_law_way", "_law_over_here"]
theorem sc__law_spoiled : FnScope N__law_spoiled ["_law_script", "_law_words", "_law_names"] (defScope s__law_spoiled) := ⟨rfl, rfl, rfl, by decide +kernel, rfl, by decide +kernel, by decide +kernel⟩
abbrev N__law_asked : List Str := ["_law_columns", "_law_words", "_law_told", "e"]
theorem sc__law_asked : FnScope N__law_asked ["_law_columns", "_law_words"] (defScope s__law_asked) := ⟨rfl, rfl, rfl, by decide +kernel, rfl, by decide +kernel, by decide +kernel⟩
abbrev N_law : List Str := ["_law_script", "_law_names", "_law_columns", "_law_words", "_law_spoiled_here", "_law_told"]
theorem sc_law : FnScope N_law ["_law_script"] (defScope s_law) := ⟨rfl, rfl, rfl, by decide +kernel, rfl, by decide +kernel, by decide +kernel⟩
section
variable {P : Program} {w : World} {K : PySem.W.Frag} {mg : Str → Option Value} {base : Heap}
theorem df_made_of (T : Txt K mg) {cc : Bool} {k : Nat} {sp : Sp} (len : ∀ vs H Q E, sp vs H Q E → vs.length = 2) (body : ∀ (f : Addr) (cdv : Value) (A : Around) (outer : List Env) (s : Shared) (H : Hp) (vs : List V) (Q : VK) (E : XK), Room cc k (A.deeper (envOfC "made_of" (defScope s_made_of) s.heap.objs.size f cdv)) → sp vs H Q E → SXs (CxF cc P w K mg base N_made_of "made_of" (defScope s_made_of) f cdv A outer s H E) (defBody s_made_of) { nx := fun _ H' => Q .non H', rt := Q } (start N_made_of vs) H) : Def P w K mg base cc (k + 1) "made_of" ["text", "signs"] sp := def_of T.d_made_of sc_made_of (fun _ _ _ _ _ _ us hl => match us, hl with | [_, _], _ => rfl) len body
theorem df_is_text_value (T : Txt K mg) {cc : Bool} {k : Nat} {sp : Sp} (len : ∀ vs H Q E, sp vs H Q E → vs.length = 1) (body : ∀ (f : Addr) (cdv : Value) (A : Around) (outer : List Env) (s : Shared) (H : Hp) (vs : List V) (Q : VK) (E : XK), Room cc k (A.deeper (envOfC "is_text_value" (defScope s_is_text_value) s.heap.objs.size f cdv)) → sp vs H Q E → SXs (CxF cc P w K mg base N_is_text_value "is_text_value" (defScope s_is_text_value) f cdv A outer s H E) (defBody s_is_text_value) { nx := fun _ H' => Q .non H', rt := Q } (start N_is_text_value vs) H) : Def P w K mg base cc (k + 1) "is_text_value" ["value"] sp := def_of T.d_is_text_value sc_is_text_value (fun _ _ _ _ _ _ us hl => match us, hl with | [_], _ => rfl) len body
theorem df_are_figures (T : Txt K mg) {cc : Bool} {k : Nat} {sp : Sp} (len : ∀ vs H Q E, sp vs H Q E → vs.length = 1) (body : ∀ (f : Addr) (cdv : Value) (A : Around) (outer : List Env) (s : Shared) (H : Hp) (vs : List V) (Q : VK) (E : XK), Room cc k (A.deeper (envOfC "are_figures" (defScope s_are_figures) s.heap.objs.size f cdv)) → sp vs H Q E → SXs (CxF cc P w K mg base N_are_figures "are_figures" (defScope s_are_figures) f cdv A outer s H E) (defBody s_are_figures) { nx := fun _ H' => Q .non H', rt := Q } (start N_are_figures vs) H) : Def P w K mg base cc (k + 1) "are_figures" ["word"] sp := def_of T.d_are_figures sc_are_figures (fun _ _ _ _ _ _ us hl => match us, hl with | [_], _ => rfl) len body
theorem df_read_figures (T : Txt K mg) {cc : Bool} {k : Nat} {sp : Sp} (len : ∀ vs H Q E, sp vs H Q E → vs.length = 2) (body : ∀ (f : Addr) (cdv : Value) (A : Around) (outer : List Env) (s : Shared) (H : Hp) (vs : List V) (Q : VK) (E : XK), Room cc k (A.deeper (envOfC "read_figures" (defScope s_read_figures) s.heap.objs.size f cdv)) → sp vs H Q E → SXs (CxF cc P w K mg base N_read_figures "read_figures" (defScope s_read_figures) f cdv A outer s H E) (defBody s_read_figures) { nx := fun _ H' => Q .non H', rt := Q } (start N_read_figures vs) H) : Def P w K mg base cc (k + 1) "read_figures" ["word", "most"] sp := def_of T.d_read_figures sc_read_figures (fun _ _ _ _ _ _ us hl => match us, hl with | [_, _], _ => rfl) len body
theorem df_read_number_word (T : Txt K mg) {cc : Bool} {k : Nat} {sp : Sp} (len : ∀ vs H Q E, sp vs H Q E → vs.length = 1) (body : ∀ (f : Addr) (cdv : Value) (A : Around) (outer : List Env) (s : Shared) (H : Hp) (vs : List V) (Q : VK) (E : XK), Room cc k (A.deeper (envOfC "read_number_word" (defScope s_read_number_word) s.heap.objs.size f cdv)) → sp vs H Q E → SXs (CxF cc P w K mg base N_read_number_word "read_number_word" (defScope s_read_number_word) f cdv A outer s H E) (defBody s_read_number_word) { nx := fun _ H' => Q .non H', rt := Q } (start N_read_number_word vs) H) : Def P w K mg base cc (k + 1) "read_number_word" ["word"] sp := def_of T.d_read_number_word sc_read_number_word (fun _ _ _ _ _ _ us hl => match us, hl with | [_], _ => rfl) len body
theorem df_read_text_word (T : Txt K mg) {cc : Bool} {k : Nat} {sp : Sp} (len : ∀ vs H Q E, sp vs H Q E → vs.length = 1) (body : ∀ (f : Addr) (cdv : Value) (A : Around) (outer : List Env) (s : Shared) (H : Hp) (vs : List V) (Q : VK) (E : XK), Room cc k (A.deeper (envOfC "read_text_word" (defScope s_read_text_word) s.heap.objs.size f cdv)) → sp vs H Q E → SXs (CxF cc P w K mg base N_read_text_word "read_text_word" (defScope s_read_text_word) f cdv A outer s H E) (defBody s_read_text_word) { nx := fun _ H' => Q .non H', rt := Q } (start N_read_text_word vs) H) : Def P w K mg base cc (k + 1) "read_text_word" ["word"] sp := def_of T.d_read_text_word sc_read_text_word (fun _ _ _ _ _ _ us hl => match us, hl with | [_], _ => rfl) len body
theorem df_read_value (T : Txt K mg) {cc : Bool} {k : Nat} {sp : Sp} (len : ∀ vs H Q E, sp vs H Q E → vs.length = 2) (body : ∀ (f : Addr) (cdv : Value) (A : Around) (outer : List Env) (s : Shared) (H : Hp) (vs : List V) (Q : VK) (E : XK), Room cc k (A.deeper (envOfC "read_value" (defScope s_read_value) s.heap.objs.size f cdv)) → sp vs H Q E → SXs (CxF cc P w K mg base N_read_value "read_value" (defScope s_read_value) f cdv A outer s H E) (defBody s_read_value) { nx := fun _ H' => Q .non H', rt := Q } (start N_read_value vs) H) : Def P w K mg base cc (k + 1) "read_value" ["kind", "word"] sp := def_of T.d_read_value sc_read_value (fun _ _ _ _ _ _ us hl => match us, hl with | [_, _], _ => rfl) len body
theorem df_place_of (T : Txt K mg) {cc : Bool} {k : Nat} {sp : Sp} (len : ∀ vs H Q E, sp vs H Q E → vs.length = 2) (body : ∀ (f : Addr) (cdv : Value) (A : Around) (outer : List Env) (s : Shared) (H : Hp) (vs : List V) (Q : VK) (E : XK), Room cc k (A.deeper (envOfC "place_of" (defScope s_place_of) s.heap.objs.size f cdv)) → sp vs H Q E → SXs (CxF cc P w K mg base N_place_of "place_of" (defScope s_place_of) f cdv A outer s H E) (defBody s_place_of) { nx := fun _ H' => Q .non H', rt := Q } (start N_place_of vs) H) : Def P w K mg base cc (k + 1) "place_of" ["columns", "name"] sp := def_of T.d_place_of sc_place_of (fun _ _ _ _ _ _ us hl => match us, hl with | [_, _], _ => rfl) len body
theorem df_word_at (T : Txt K mg) {cc : Bool} {k : Nat} {sp : Sp} (len : ∀ vs H Q E, sp vs H Q E → vs.length = 2) (body : ∀ (f : Addr) (cdv : Value) (A : Around) (outer : List Env) (s : Shared) (H : Hp) (vs : List V) (Q : VK) (E : XK), Room cc k (A.deeper (envOfC "word_at" (defScope s_word_at) s.heap.objs.size f cdv)) → sp vs H Q E → SXs (CxF cc P w K mg base N_word_at "word_at" (defScope s_word_at) f cdv A outer s H E) (defBody s_word_at) { nx := fun _ H' => Q .non H', rt := Q } (start N_word_at vs) H) : Def P w K mg base cc (k + 1) "word_at" ["words", "place"] sp := def_of T.d_word_at sc_word_at (fun _ _ _ _ _ _ us hl => match us, hl with | [_, _], _ => rfl) len body
theorem df_text_between (T : Txt K mg) {cc : Bool} {k : Nat} {sp : Sp} (len : ∀ vs H Q E, sp vs H Q E → vs.length = 3) (body : ∀ (f : Addr) (cdv : Value) (A : Around) (outer : List Env) (s : Shared) (H : Hp) (vs : List V) (Q : VK) (E : XK), Room cc k (A.deeper (envOfC "text_between" (defScope s_text_between) s.heap.objs.size f cdv)) → sp vs H Q E → SXs (CxF cc P w K mg base N_text_between "text_between" (defScope s_text_between) f cdv A outer s H E) (defBody s_text_between) { nx := fun _ H' => Q .non H', rt := Q } (start N_text_between vs) H) : Def P w K mg base cc (k + 1) "text_between" ["words", "start", "behind"] sp := def_of T.d_text_between sc_text_between (fun _ _ _ _ _ _ us hl => match us, hl with | [_, _, _], _ => rfl) len body
theorem df_read_column (T : Txt K mg) {cc : Bool} {k : Nat} {sp : Sp} (len : ∀ vs H Q E, sp vs H Q E → vs.length = 3) (body : ∀ (f : Addr) (cdv : Value) (A : Around) (outer : List Env) (s : Shared) (H : Hp) (vs : List V) (Q : VK) (E : XK), Room cc k (A.deeper (envOfC "read_column" (defScope s_read_column) s.heap.objs.size f cdv)) → sp vs H Q E → SXs (CxF cc P w K mg base N_read_column "read_column" (defScope s_read_column) f cdv A outer s H E) (defBody s_read_column) { nx := fun _ H' => Q .non H', rt := Q } (start N_read_column vs) H) : Def P w K mg base cc (k + 1) "read_column" ["columns", "words", "place"] sp := def_of T.d_read_column sc_read_column (fun _ _ _ _ _ _ us hl => match us, hl with | [_, _, _], _ => rfl) len body
theorem df_read_word (T : Txt K mg) {cc : Bool} {k : Nat} {sp : Sp} (len : ∀ vs H Q E, sp vs H Q E → vs.length = 3) (body : ∀ (f : Addr) (cdv : Value) (A : Around) (outer : List Env) (s : Shared) (H : Hp) (vs : List V) (Q : VK) (E : XK), Room cc k (A.deeper (envOfC "read_word" (defScope s_read_word) s.heap.objs.size f cdv)) → sp vs H Q E → SXs (CxF cc P w K mg base N_read_word "read_word" (defScope s_read_word) f cdv A outer s H E) (defBody s_read_word) { nx := fun _ H' => Q .non H', rt := Q } (start N_read_word vs) H) : Def P w K mg base cc (k + 1) "read_word" ["kind", "words", "place"] sp := def_of T.d_read_word sc_read_word (fun _ _ _ _ _ _ us hl => match us, hl with | [_, _, _], _ => rfl) len body
theorem df_read_none (T : Txt K mg) {cc : Bool} {k : Nat} {sp : Sp} (len : ∀ vs H Q E, sp vs H Q E → vs.length = 3) (body : ∀ (f : Addr) (cdv : Value) (A : Around) (outer : List Env) (s : Shared) (H : Hp) (vs : List V) (Q : VK) (E : XK), Room cc k (A.deeper (envOfC "read_none" (defScope s_read_none) s.heap.objs.size f cdv)) → sp vs H Q E → SXs (CxF cc P w K mg base N_read_none "read_none" (defScope s_read_none) f cdv A outer s H E) (defBody s_read_none) { nx := fun _ H' => Q .non H', rt := Q } (start N_read_none vs) H) : Def P w K mg base cc (k + 1) "read_none" ["columns", "words", "start"] sp := def_of T.d_read_none sc_read_none (fun _ _ _ _ _ _ us hl => match us, hl with | [_, _, _], _ => rfl) len body
theorem df_read_of_value (T : Txt K mg) {cc : Bool} {k : Nat} {sp : Sp} (len : ∀ vs H Q E, sp vs H Q E → vs.length = 3) (body : ∀ (f : Addr) (cdv : Value) (A : Around) (outer : List Env) (s : Shared) (H : Hp) (vs : List V) (Q : VK) (E : XK), Room cc k (A.deeper (envOfC "read_of_value" (defScope s_read_of_value) s.heap.objs.size f cdv)) → sp vs H Q E → SXs (CxF cc P w K mg base N_read_of_value "read_of_value" (defScope s_read_of_value) f cdv A outer s H E) (defBody s_read_of_value) { nx := fun _ H' => Q .non H', rt := Q } (start N_read_of_value vs) H) : Def P w K mg base cc (k + 1) "read_of_value" ["columns", "words", "start"] sp := def_of T.d_read_of_value sc_read_of_value (fun _ _ _ _ _ _ us hl => match us, hl with | [_, _, _], _ => rfl) len body
theorem df_read_of_sieves (T : Txt K mg) {cc : Bool} {k : Nat} {sp : Sp} (len : ∀ vs H Q E, sp vs H Q E → vs.length = 4) (body : ∀ (f : Addr) (cdv : Value) (A : Around) (outer : List Env) (s : Shared) (H : Hp) (vs : List V) (Q : VK) (E : XK), Room cc k (A.deeper (envOfC "read_of_sieves" (defScope s_read_of_sieves) s.heap.objs.size f cdv)) → sp vs H Q E → SXs (CxF cc P w K mg base N_read_of_sieves "read_of_sieves" (defScope s_read_of_sieves) f cdv A outer s H E) (defBody s_read_of_sieves) { nx := fun _ H' => Q .non H', rt := Q } (start N_read_of_sieves vs) H) : Def P w K mg base cc (k + 1) "read_of_sieves" ["columns", "words", "start", "within"] sp := def_of T.d_read_of_sieves sc_read_of_sieves (fun _ _ _ _ _ _ us hl => match us, hl with | [_, _, _, _], _ => rfl) len body
theorem df_read_part (T : Txt K mg) {cc : Bool} {k : Nat} {sp : Sp} (len : ∀ vs H Q E, sp vs H Q E → vs.length = 4) (body : ∀ (f : Addr) (cdv : Value) (A : Around) (outer : List Env) (s : Shared) (H : Hp) (vs : List V) (Q : VK) (E : XK), Room cc k (A.deeper (envOfC "read_part" (defScope s_read_part) s.heap.objs.size f cdv)) → sp vs H Q E → SXs (CxF cc P w K mg base N_read_part "read_part" (defScope s_read_part) f cdv A outer s H E) (defBody s_read_part) { nx := fun _ H' => Q .non H', rt := Q } (start N_read_part vs) H) : Def P w K mg base cc (k + 1) "read_part" ["columns", "words", "start", "within"] sp := def_of T.d_read_part sc_read_part (fun _ _ _ _ _ _ us hl => match us, hl with | [_, _, _, _], _ => rfl) len body
theorem df_read_sieve (T : Txt K mg) {cc : Bool} {k : Nat} {sp : Sp} (len : ∀ vs H Q E, sp vs H Q E → vs.length = 2) (body : ∀ (f : Addr) (cdv : Value) (A : Around) (outer : List Env) (s : Shared) (H : Hp) (vs : List V) (Q : VK) (E : XK), Room cc k (A.deeper (envOfC "read_sieve" (defScope s_read_sieve) s.heap.objs.size f cdv)) → sp vs H Q E → SXs (CxF cc P w K mg base N_read_sieve "read_sieve" (defScope s_read_sieve) f cdv A outer s H E) (defBody s_read_sieve) { nx := fun _ H' => Q .non H', rt := Q } (start N_read_sieve vs) H) : Def P w K mg base cc (k + 1) "read_sieve" ["columns", "text"] sp := def_of T.d_read_sieve sc_read_sieve (fun _ _ _ _ _ _ us hl => match us, hl with | [_, _], _ => rfl) len body
theorem df__law_draw (T : Txt K mg) {cc : Bool} {k : Nat} {sp : Sp} (len : ∀ vs H Q E, sp vs H Q E → vs.length = 3) (body : ∀ (f : Addr) (cdv : Value) (A : Around) (outer : List Env) (s : Shared) (H : Hp) (vs : List V) (Q : VK) (E : XK), Room cc k (A.deeper (envOfC "_law_draw" (defScope s__law_draw) s.heap.objs.size f cdv)) → sp vs H Q E → SXs (CxF cc P w K mg base N__law_draw "_law_draw" (defScope s__law_draw) f cdv A outer s H E) (defBody s__law_draw) { nx := fun _ H' => Q .non H', rt := Q } (start N__law_draw vs) H) : Def P w K mg base cc (k + 1) "_law_draw" ["_law_script", "_law_k", "_law_many"] sp := def_of T.d__law_draw sc__law_draw (fun _ _ _ _ _ _ us hl => match us, hl with | [_, _, _], _ => rfl) len body
theorem df__law_look (T : Txt K mg) {cc : Bool} {k : Nat} {sp : Sp} (len : ∀ vs H Q E, sp vs H Q E → vs.length = 3) (body : ∀ (f : Addr) (cdv : Value) (A : Around) (outer : List Env) (s : Shared) (H : Hp) (vs : List V) (Q : VK) (E : XK), Room cc k (A.deeper (envOfC "_law_look" (defScope s__law_look) s.heap.objs.size f cdv)) → sp vs H Q E → SXs (CxF cc P w K mg base N__law_look "_law_look" (defScope s__law_look) f cdv A outer s H E) (defBody s__law_look) { nx := fun _ H' => Q .non H', rt := Q } (start N__law_look vs) H) : Def P w K mg base cc (k + 1) "_law_look" ["_law_script", "_law_base", "_law_names"] sp := def_of T.d__law_look sc__law_look (fun _ _ _ _ _ _ us hl => match us, hl with | [_, _, _], _ => rfl) len body
theorem df__law_tree (T : Txt K mg) {cc : Bool} {k : Nat} {sp : Sp} (len : ∀ vs H Q E, sp vs H Q E → vs.length = 2) (body : ∀ (f : Addr) (cdv : Value) (A : Around) (outer : List Env) (s : Shared) (H : Hp) (vs : List V) (Q : VK) (E : XK), Room cc k (A.deeper (envOfC "_law_tree" (defScope s__law_tree) s.heap.objs.size f cdv)) → sp vs H Q E → SXs (CxF cc P w K mg base N__law_tree "_law_tree" (defScope s__law_tree) f cdv A outer s H E) (defBody s__law_tree) { nx := fun _ H' => Q .non H', rt := Q } (start N__law_tree vs) H) : Def P w K mg base cc (k + 1) "_law_tree" ["_law_script", "_law_names"] sp := def_of T.d__law_tree sc__law_tree (fun _ _ _ _ _ _ us hl => match us, hl with | [_, _], _ => rfl) len body
theorem df__law_strange (T : Txt K mg) {cc : Bool} {k : Nat} {sp : Sp} (len : ∀ vs H Q E, sp vs H Q E → vs.length = 3) (body : ∀ (f : Addr) (cdv : Value) (A : Around) (outer : List Env) (s : Shared) (H : Hp) (vs : List V) (Q : VK) (E : XK), Room cc k (A.deeper (envOfC "_law_strange" (defScope s__law_strange) s.heap.objs.size f cdv)) → sp vs H Q E → SXs (CxF cc P w K mg base N__law_strange "_law_strange" (defScope s__law_strange) f cdv A outer s H E) (defBody s__law_strange) { nx := fun _ H' => Q .non H', rt := Q } (start N__law_strange vs) H) : Def P w K mg base cc (k + 1) "_law_strange" ["_law_script", "_law_role", "_law_names"] sp := def_of T.d__law_strange sc__law_strange (fun _ _ _ _ _ _ us hl => match us, hl with | [_, _, _], _ => rfl) len body
theorem df__law_over (T : Txt K mg) {cc : Bool} {k : Nat} {sp : Sp} (len : ∀ vs H Q E, sp vs H Q E → vs.length = 2) (body : ∀ (f : Addr) (cdv : Value) (A : Around) (outer : List Env) (s : Shared) (H : Hp) (vs : List V) (Q : VK) (E : XK), Room cc k (A.deeper (envOfC "_law_over" (defScope s__law_over) s.heap.objs.size f cdv)) → sp vs H Q E → SXs (CxF cc P w K mg base N__law_over "_law_over" (defScope s__law_over) f cdv A outer s H E) (defBody s__law_over) { nx := fun _ H' => Q .non H', rt := Q } (start N__law_over vs) H) : Def P w K mg base cc (k + 1) "_law_over" ["_law_script", "_law_names"] sp := def_of T.d__law_over sc__law_over (fun _ _ _ _ _ _ us hl => match us, hl with | [_, _], _ => rfl) len body
theorem df__law_deep (T : Txt K mg) {cc : Bool} {k : Nat} {sp : Sp} (len : ∀ vs H Q E, sp vs H Q E → vs.length = 1) (body : ∀ (f : Addr) (cdv : Value) (A : Around) (outer : List Env) (s : Shared) (H : Hp) (vs : List V) (Q : VK) (E : XK), Room cc k (A.deeper (envOfC "_law_deep" (defScope s__law_deep) s.heap.objs.size f cdv)) → sp vs H Q E → SXs (CxF cc P w K mg base N__law_deep "_law_deep" (defScope s__law_deep) f cdv A outer s H E) (defBody s__law_deep) { nx := fun _ H' => Q .non H', rt := Q } (start N__law_deep vs) H) : Def P w K mg base cc (k + 1) "_law_deep" ["_law_script"] sp := def_of T.d__law_deep sc__law_deep (fun _ _ _ _ _ _ us hl => match us, hl with | [_], _ => rfl) len body
theorem df__law_spoiled (T : Txt K mg) {cc : Bool} {k : Nat} {sp : Sp} (len : ∀ vs H Q E, sp vs H Q E → vs.length = 3) (body : ∀ (f : Addr) (cdv : Value) (A : Around) (outer : List Env) (s : Shared) (H : Hp) (vs : List V) (Q : VK) (E : XK), Room cc k (A.deeper (envOfC "_law_spoiled" (defScope s__law_spoiled) s.heap.objs.size f cdv)) → sp vs H Q E → SXs (CxF cc P w K mg base N__law_spoiled "_law_spoiled" (defScope s__law_spoiled) f cdv A outer s H E) (defBody s__law_spoiled) { nx := fun _ H' => Q .non H', rt := Q } (start N__law_spoiled vs) H) : Def P w K mg base cc (k + 1) "_law_spoiled" ["_law_script", "_law_words", "_law_names"] sp := def_of T.d__law_spoiled sc__law_spoiled (fun _ _ _ _ _ _ us hl => match us, hl with | [_, _, _], _ => rfl) len body
theorem df__law_asked (T : Txt K mg) {cc : Bool} {k : Nat} {sp : Sp} (len : ∀ vs H Q E, sp vs H Q E → vs.length = 2) (body : ∀ (f : Addr) (cdv : Value) (A : Around) (outer : List Env) (s : Shared) (H : Hp) (vs : List V) (Q : VK) (E : XK), Room cc k (A.deeper (envOfC "_law_asked" (defScope s__law_asked) s.heap.objs.size f cdv)) → sp vs H Q E → SXs (CxF cc P w K mg base N__law_asked "_law_asked" (defScope s__law_asked) f cdv A outer s H E) (defBody s__law_asked) { nx := fun _ H' => Q .non H', rt := Q } (start N__law_asked vs) H) : Def P w K mg base cc (k + 1) "_law_asked" ["_law_columns", "_law_words"] sp := def_of T.d__law_asked sc__law_asked (fun _ _ _ _ _ _ us hl => match us, hl with | [_, _], _ => rfl) len body
theorem ff_Sieve___init__ {cc : Bool} {k : Nat} {sp : Sp} (len : ∀ vs H Q E, sp vs H Q E → vs.length = 2) (body : ∀ (f : Addr) (cdv : Value) (A : Around) (outer : List Env) (s : Shared) (H : Hp) (vs : List V) (Q : VK) (E : XK), Room cc k (A.deeper (envOfC "Sieve.__init__" (defScope s_Sieve___init__) s.heap.objs.size f cdv)) → sp vs H Q E → SXs (CxF cc P w K mg base N_Sieve___init__ "Sieve.__init__" (defScope s_Sieve___init__) f cdv A outer s H E) (defBody s_Sieve___init__) { nx := fun _ H' => Q .non H', rt := Q } (start N_Sieve___init__ vs) H) : FD P w K mg base cc (k + 1) "__init__" "Sieve.__init__" s_Sieve___init__ ["self", "text"] sp := fd_of sc_Sieve___init__ (fun _ _ _ _ _ _ us hl => match us, hl with | [_, _], _ => rfl) len body
theorem ff_NoneSieve___init__ {cc : Bool} {k : Nat} {sp : Sp} (len : ∀ vs H Q E, sp vs H Q E → vs.length = 3) (body : ∀ (f : Addr) (cdv : Value) (A : Around) (outer : List Env) (s : Shared) (H : Hp) (vs : List V) (Q : VK) (E : XK), Room cc k (A.deeper (envOfC "NoneSieve.__init__" (defScope s_NoneSieve___init__) s.heap.objs.size f cdv)) → sp vs H Q E → SXs (CxF cc P w K mg base N_NoneSieve___init__ "NoneSieve.__init__" (defScope s_NoneSieve___init__) f cdv A outer s H E) (defBody s_NoneSieve___init__) { nx := fun _ H' => Q .non H', rt := Q } (start N_NoneSieve___init__ vs) H) : FD P w K mg base cc (k + 1) "__init__" "NoneSieve.__init__" s_NoneSieve___init__ ["self", "text", "place"] sp := fd_of sc_NoneSieve___init__ (fun _ _ _ _ _ _ us hl => match us, hl with | [_, _, _], _ => rfl) len body
theorem ff_ValueSieve___init__ {cc : Bool} {k : Nat} {sp : Sp} (len : ∀ vs H Q E, sp vs H Q E → vs.length = 4) (body : ∀ (f : Addr) (cdv : Value) (A : Around) (outer : List Env) (s : Shared) (H : Hp) (vs : List V) (Q : VK) (E : XK), Room cc k (A.deeper (envOfC "ValueSieve.__init__" (defScope s_ValueSieve___init__) s.heap.objs.size f cdv)) → sp vs H Q E → SXs (CxF cc P w K mg base N_ValueSieve___init__ "ValueSieve.__init__" (defScope s_ValueSieve___init__) f cdv A outer s H E) (defBody s_ValueSieve___init__) { nx := fun _ H' => Q .non H', rt := Q } (start N_ValueSieve___init__ vs) H) : FD P w K mg base cc (k + 1) "__init__" "ValueSieve.__init__" s_ValueSieve___init__ ["self", "text", "place", "value"] sp := fd_of sc_ValueSieve___init__ (fun _ _ _ _ _ _ us hl => match us, hl with | [_, _, _, _], _ => rfl) len body
theorem ff_NotSieve___init__ {cc : Bool} {k : Nat} {sp : Sp} (len : ∀ vs H Q E, sp vs H Q E → vs.length = 3) (body : ∀ (f : Addr) (cdv : Value) (A : Around) (outer : List Env) (s : Shared) (H : Hp) (vs : List V) (Q : VK) (E : XK), Room cc k (A.deeper (envOfC "NotSieve.__init__" (defScope s_NotSieve___init__) s.heap.objs.size f cdv)) → sp vs H Q E → SXs (CxF cc P w K mg base N_NotSieve___init__ "NotSieve.__init__" (defScope s_NotSieve___init__) f cdv A outer s H E) (defBody s_NotSieve___init__) { nx := fun _ H' => Q .non H', rt := Q } (start N_NotSieve___init__ vs) H) : FD P w K mg base cc (k + 1) "__init__" "NotSieve.__init__" s_NotSieve___init__ ["self", "text", "one"] sp := fd_of sc_NotSieve___init__ (fun _ _ _ _ _ _ us hl => match us, hl with | [_, _, _], _ => rfl) len body
theorem ff_PairSieve___init__ {cc : Bool} {k : Nat} {sp : Sp} (len : ∀ vs H Q E, sp vs H Q E → vs.length = 4) (body : ∀ (f : Addr) (cdv : Value) (A : Around) (outer : List Env) (s : Shared) (H : Hp) (vs : List V) (Q : VK) (E : XK), Room cc k (A.deeper (envOfC "PairSieve.__init__" (defScope s_PairSieve___init__) s.heap.objs.size f cdv)) → sp vs H Q E → SXs (CxF cc P w K mg base N_PairSieve___init__ "PairSieve.__init__" (defScope s_PairSieve___init__) f cdv A outer s H E) (defBody s_PairSieve___init__) { nx := fun _ H' => Q .non H', rt := Q } (start N_PairSieve___init__ vs) H) : FD P w K mg base cc (k + 1) "__init__" "PairSieve.__init__" s_PairSieve___init__ ["self", "text", "one", "other"] sp := fd_of sc_PairSieve___init__ (fun _ _ _ _ _ _ us hl => match us, hl with | [_, _, _, _], _ => rfl) len body
theorem d_NoSieve (T : Txt K mg) {cc : Bool} : XDef P w K mg base cc 1 "NoSieve" "at" := by
  refine xdef_of T.i_NoSieve sc_NoSieve (fun _ _ _ _ _ _ us hl => match us, hl with | [_, _], _ => rfl) rfl (fun f cdv A outer s H vs Q E hi hr h => ?_)
  obtain ⟨e, n, rfl, hn, he, q⟩ := h
  have hsz : sizeLine = 16777216 := sizeLine_eq
  refine sxs_cons (sx_expr (by rfl) ?_)
  refine ev_base (pl := _) T.b_LeafError.toXBase (by rfl) (by decide) (by rfl) (by rfl) (by rfl) ?_
  walk_at "go"
  refine ev_fmtI ?_
  walk_at "e"
  refine ⟨n, rfl, Vl.log_ok hn, _, 70, rfl, Vl.int_len hn, by omega, ?_⟩
  walk_at "go"
  intro zz
  refine ea_nil (c_base hi he ?_)
  refine sxs_one (sx_xfld T.i_NoSieve.sa T.i_NoSieve.xc T.i_NoSieve.tk (by rfl) ?_)
  walk_at "e"
  walk_at "e"
  refine ⟨e, rfl, he, fun D hD hDe => q D _ hDe hD (fun b o hb r => ?_) upd_same ?_⟩
  · rw [upd_ne hb, upd_ne (ne_of_none r hD)]
    exact r
  · rw [upd_ne hDe, upd_same]
end
end K08
namespace K08
open PySem L2 PyProof.Rows My Vl Lw
section
variable {P : Program} {w : World} {K : PySem.W.Frag} {mg : Str → Option Value} {base : Heap}
def spWordAt (K : PySem.W.Frag) (mg : Str → Option Value) : Sp := fun vs H Q E => ∃ (a : Addr) (ws : List Str) (p : Nat), vs = [.ref a, .int p] ∧ SqL K H a (ws.map V.str) ∧ ws.length ≤ 4000 ∧ p ≤ 100000 ∧
  (¬ (p < ws.length ∧ p < 60) → ∀ e H', Same H H' → H' e = some (.xd [("at", .int p)]) → E (.ref (clsA mg "NoSieve")) (some e, true) H') ∧ ∀ z, ws[p]? = some z → p < 60 → Q (.str z) H
theorem d_word_at (T : Txt K mg) : Def P w K mg base true 3 "word_at" ["words", "place"] (spWordAt K mg) := by
  refine df_word_at T (fun vs H Q E h => by obtain ⟨a, ws, p, rfl, _⟩ := h; rfl) (fun f cdv A outer s H vs Q E hr h => ?_)
  obtain ⟨a, ws, p, rfl, hS, hl, hp, bad, q⟩ := h
  have n1 := T.n_len
  have g1 := T.g_MOST_WORDS
  have hlm : (ws.map V.str).length = ws.length := List.length_map ..
  have rest : ¬ (p < ws.length ∧ p < 60) → SXs (CxF true P w K mg base N_word_at "word_at" (defScope s_word_at) f cdv A outer s H E) [stAt (inIf (stAt (defBody s_word_at) 0)) 0] { nx := fun σ' H' => SXs (CxF true P w K mg base N_word_at "word_at" (defScope s_word_at) f cdv A outer s H E) ((defBody s_word_at).drop 1) { nx := fun _ H' => Q .non H', rt := Q } σ' H', rt := Q } [some (.ref a), some (.int p)] H := by
    intro hb
    refine sxs_one (sx_raiseI (d_NoSieve T (cc := true)) hr (by decide) (fun _ => rfl) xok_fn (by rfl) (by rfl) (by decide) (by rfl) (by rfl) ?_)
    walk_at "go"
    exact ⟨p, rfl, by omega, fun e H' sm he => bad hb e H' sm he⟩
  refine sxs_cons ?_
  walk_at "go"
  rw [hlm]
  refine ifD (fun h => ?_) (fun h => ?_)
  · exact rest (by omega)
  · walk_at "go"
    refine ifD (fun h2 => ?_) (fun h2 => ?_)
    · exact rest (by omega)
    · walk_at "go"
      have hlt : p < ws.length := by omega
      have hg : ws[p]? = some ws[p] := List.getElem?_eq_getElem hlt
      refine i_list hS (atI_nat (by rw [List.getElem?_map, hg]; rfl)) ?_
      exact q _ hg (by omega)
end
end K08
namespace K08
open PySem L2 PyProof.Rows My Vl Lw
section
variable {P : Program} {w : World} {K : PySem.W.Frag} {mg : Str → Option Value} {base : Heap}
/-- words parted by blanks -/
def betw (ws : List Str) (s b : Nat) : Str := Str.join " " ((ws.drop s).take (b - s))
def spBetw (K : PySem.W.Frag) : Sp := fun vs H Q _ => ∃ (a : Addr) (ws : List Str) (s b : Nat), vs = [.ref a, .int s, .int b] ∧ SqL K H a (ws.map V.str) ∧ ws.length ≤ 4000 ∧ (∀ z ∈ ws, z.length ≤ 1000) ∧ s ≤ b ∧ b ≤ ws.length ∧ ∀ H', Same H H' → Q (.str (betw ws s b)) H'
theorem sum_len : ∀ {l : List Str}, (∀ z ∈ l, z.length ≤ 1000) → (l.map (·.length)).sum ≤ l.length * 1000
  | [], _ => by simp
  | z :: l, h => by
    have h1 := sum_len (l := l) fun y hy => h y (by simp [hy])
    have h2 := h z (by simp)
    simp only [List.map_cons, List.sum_cons, List.length_cons]
    omega
theorem d_text_between (T : Txt K mg) : Def P w K mg base true 1 "text_between" ["words", "start", "behind"] (spBetw K) := by
  refine df_text_between T (fun vs H Q E h => by obtain ⟨a, ws, s, b, rfl, _⟩ := h; rfl) (fun f cdv A outer s H vs Q E hr h => ?_)
  obtain ⟨a, ws, i, j, rfl, hS, hl, hz, hij, hj, q⟩ := h
  have lb : (Str.ofString " ").length = 1 := by decide +kernel
  have hsz : sizeLine = 16777216 := sizeLine_eq
  refine sxs_one (sx_ret ?_)
  walk_at "go"
  refine s_list hS fun p hp => ?_
  have e : cutV (ws.map V.str) (some (i : Int)) (some (j : Int)) = ((ws.drop i).take (j - i)).map V.str := by
    unfold cutV
    have hlm : (ws.map V.str).length = ws.length := List.length_map ..
    have e1 : HT.sIx (ws.map V.str).length 0 (some (i : Int)) = i := by
      rw [hlm]
      unfold HT.sIx
      split
      · rename_i h; cases h
      · rename_i h
        cases h
        rw [if_neg (by omega)]
        omega
    have e2 : HT.sIx (ws.map V.str).length (ws.map V.str).length (some (j : Int)) = j := by
      rw [hlm]
      unfold HT.sIx
      split
      · rename_i h; cases h
      · rename_i h
        cases h
        rw [if_neg (by omega)]
        omega
    rw [e1, e2, ← List.map_drop, ← List.map_take]
  rw [e]
  have sm : Same H (upd H p (.lst (((ws.drop i).take (j - i)).map V.str))) := Same.upd hp
  have ep : (upd H p (.lst (((ws.drop i).take (j - i)).map V.str))) p = some (.lst (((ws.drop i).take (j - i)).map V.str)) := upd_same
  generalize upd H p (.lst (((ws.drop i).take (j - i)).map V.str)) = H2 at sm ep ⊢
  walk_at "go"
  refine m_join (SqL.of ep) ?_ (q H2 sm)
  have h1 := sum_len (l := (ws.drop i).take (j - i)) fun z h => hz z (List.mem_of_mem_drop (List.mem_of_mem_take h))
  have h2 : ((ws.drop i).take (j - i)).length ≤ 4000 := by
    rw [List.length_take, List.length_drop]
    omega
  rw [lb]
  omega
end
end K08
namespace K08
open PySem L2 PyProof.Rows My Vl Lw
section
variable {P : Program} {w : World} {K : PySem.W.Frag} {mg : Str → Option Value} {base : Heap}
theorem placeF_step {cs : List Col} {z : Str} : ∀ {i : Nat} {c : Col} (j : Nat), cs[i]? = some c → (∀ k c, k < i → cs[k]? = some c → ¬ c.1 = z) → c.1 = z → placeF cs z j = .int ((j + i : Nat) : Int) := by
  induction cs with
  | nil => intro i c j e; simp at e
  | cons d r ih =>
    intro i c j e h hz
    unfold placeF
    cases i with
    | zero =>
      simp at e
      subst e
      rw [if_pos hz]
      rfl
    | succ i =>
      rw [if_neg (h 0 d (by omega) rfl)]
      rw [ih (j + 1) (by simpa using e) (fun k c hk e' => h (k + 1) c (by omega) (by simpa using e')) hz]
      congr 2
      omega
theorem placeF_none {cs : List Col} {z : Str} : ∀ (j : Nat), (∀ c ∈ cs, ¬ c.1 = z) → placeF cs z j = .non := by
  induction cs with
  | nil => intro j h; rfl
  | cons d r ih =>
    intro j h
    unfold placeF
    rw [if_neg (h d (by simp)), ih (j + 1) fun c hc => h c (by simp [hc])]
theorem d_place_of (T : Txt K mg) : Def P w K mg base true 1 "place_of" ["columns", "name"] spPlace := by
  refine df_place_of T (fun vs H Q E h => by obtain ⟨a, cs, z, rfl, _⟩ := h; rfl) (fun f cdv A outer s H vs Q E hr h => ?_)
  obtain ⟨a, cs, z, rfl, ⟨vs, ha, hvs⟩, q⟩ := h
  have n1 := T.n_enumerate
  have nd := sc_place_of.nd
  refine sxs_cons ?_
  refine sx_forE (by walk_at "po") (by rfl) (by rfl) n1 (by rfl) ?_
  walk_at "go"
  refine ⟨a, vs, rfl, ha, fun i σ H' => (∃ o1 o2, σ = [some (.ref a), some (.str z), o1, o2]) ∧ Same H H' ∧ ∀ k c, k < i → cs[k]? = some c → ¬ c.1 = z, ⟨⟨none, none, rfl⟩, Same.refl _, fun k c hk => by omega⟩, fun i σ H' hi hP => .inl (.inl (hP.2.1 _ _ ha)), fun i x T' σ H' hx hP hT => ?_, fun σ H' hP => ?_⟩
  · obtain ⟨⟨o1, o2, rfl⟩, sm, hn⟩ := hP
    obtain ⟨c, hc, t, rfl, ht⟩ := hvs.get hx
    have sm2 := sm.trans (Same.upd (o := .tup [.int i, .ref t]) hT)
    have eT : (upd H' T' (.tup [.int i, .ref t])) T' = some (.tup [.int i, .ref t]) := upd_same
    generalize upd H' T' (.tup [.int i, .ref t]) = H2 at sm2 eT ⊢
    refine eg_tup (by rfl) (by rfl) (by rfl) (SqT.of eT) (by rfl) (egs_cons (by rfl) (eg_name nd (by rfl) (.inl rfl) (.inl rfl) (egs_cons (by rfl) (eg_name nd (by rfl) (.inl rfl) (.inl rfl) (egs_nil ?_)))))
    refine sxs_one ?_
    walk_at "go"
    refine i_tup (SqT.of (sm2 _ _ ht)) (show atI [V.str c.1, V.str c.2] 0 = some (V.str c.1) from rfl) ?_
    walk_at "go"
    refine ifD (fun h => ?_) (fun h => ?_)
    · have hz : c.1 = z := by injection h
      walk_at "go"
      have := placeF_step 0 hc hn hz
      rw [Nat.zero_add] at this
      rw [← this]
      exact q H2 sm2
    · have hz : ¬ c.1 = z := fun e => h (by rw [e])
      walk_at "go"
      refine ⟨⟨_, _, rfl⟩, sm2, fun k d hk hd => ?_⟩
      by_cases e : k = i
      · subst e
        rw [hc] at hd
        cases hd
        exact hz
      · exact hn k d (by omega) hd
  · obtain ⟨⟨o1, o2, rfl⟩, sm, hn⟩ := hP
    refine sxs_one ?_
    walk_at "go"
    have := placeF_none (cs := cs) (z := z) 0 fun c hc => by
      obtain ⟨k, hk, e⟩ := List.getElem_of_mem hc
      exact hn k c (by rw [hvs.len]; exact hk) (by rw [← e]; exact List.getElem?_eq_getElem hk)
    rw [← this]
    exact q H' sm
end
end K08
namespace K08
open PySem L2 PyProof.Rows My Vl Lw
section
variable {P : Program} {w : World} {K : PySem.W.Frag} {mg : Str → Option Value} {base : Heap}
/-- the place of the column that a word of the list names -/
def colAt (cs : List Col) (ws : List Str) (p : Nat) : Option Nat := if p < 60 then match ws[p]? with
  | none => none
  | some z => if cs.any (fun c => decide (c.1 = z)) = true then some (placeN cs z) else none
  else none
def spColAt (K : PySem.W.Frag) (mg : Str → Option Value) : Sp := fun vs H Q E => ∃ (b : Addr) (cs : List Col) (a : Addr) (ws : List Str) (p : Nat), vs = [.ref b, .ref a, .int p] ∧ Cols H b cs ∧ SqL K H a (ws.map V.str) ∧ ws.length ≤ 4000 ∧ p ≤ 100000 ∧
  (colAt cs ws p = none → ∀ e H', Same H H' → H' e = some (.xd [("at", .int p)]) → E (.ref (clsA mg "NoSieve")) (some e, true) H') ∧ ∀ i H', Same H H' → colAt cs ws p = some i → Q (.int (i : Nat)) H'
theorem d_read_column (T : Txt K mg) : Def P w K mg base true 4 "read_column" ["columns", "words", "place"] (spColAt K mg) := by
  refine df_read_column T (fun vs H Q E h => by obtain ⟨b, cs, a, ws, p, rfl, _⟩ := h; rfl) (fun f cdv A outer s H vs Q E hr h => ?_)
  obtain ⟨b, cs, a, ws, p, rfl, hC, hS, hl, hp, bad, q⟩ := h
  have nd := sc_read_column.nd
  have D1 : Def P w K mg base true 1 "place_of" ["columns", "name"] spPlace := d_place_of T
  have D2 : Def P w K mg base true 3 "word_at" ["words", "place"] (spWordAt K mg) := d_word_at T
  refine sxs_cons ?_
  walk_at "go"
  refine ⟨a, ws, p, rfl, hS, hl, hp, fun hb e H' sm he => bad ?_ e H' sm he, fun z hz h60 => ?_⟩
  · unfold colAt
    by_cases h60 : p < 60
    · rw [if_pos h60, List.getElem?_eq_none (by omega)]
    · rw [if_neg h60]
  · walk_at "go"
    refine ⟨b, cs, z, rfl, hC, fun H2 sm => ?_⟩
    by_cases hin : ∃ c ∈ cs, c.1 = z
    · have e : colAt cs ws p = some (placeN cs z) := by
        unfold colAt
        rw [if_pos h60, hz]
        exact if_pos (by rw [List.any_eq_true]; obtain ⟨c, hc, e⟩ := hin; exact ⟨c, hc, decide_eq_true e⟩)
      rw [placeF_N 0 hin, Nat.zero_add]
      walk_at "go"
      exact q _ H2 sm e
    · have e : colAt cs ws p = none := by
        unfold colAt
        rw [if_pos h60, hz]
        exact if_neg (by rw [List.any_eq_true]; rintro ⟨c, hc, e⟩; exact hin ⟨c, hc, of_decide_eq_true e⟩)
      rw [placeF_none 0 fun c hc e => hin ⟨c, hc, e⟩]
      refine sxs_cons ?_
      walk_at "go"
      refine sx_raiseI (d_NoSieve T (cc := true)) hr (by decide) (fun _ => rfl) xok_fn (by rfl) (by rfl) (by decide) (by rfl) (by rfl) ?_
      walk_at "go"
      exact ⟨p, rfl, by omega, fun e' H' sm' he => bad e e' H' (sm.trans sm') he⟩
end
end K08

namespace K08
open PySem L2 PyProof.Rows My Vl Lw
section
variable {P : Program} {w : World} {K : PySem.W.Frag} {mg : Str → Option Value} {base : Heap}
/-- a field stored in a fresh instance of some class -/
def spSvI (K : PySem.W.Frag) : Sp := fun vs H Q _ => ∃ (a C dx : Addr) (fs : List (Str × V)) (z : Str), vs = [.ref a, .str z] ∧ H a = some (.ins C dx fs) ∧ Cls K C ∧ NoAttr K C "text" ∧ fs.length < 900 ∧ Q .non (upd H a (.ins C dx (putF "text" (.str z) fs)))
theorem f_Sieve_init {cc : Bool} : FD P w K mg base cc 1 "__init__" "Sieve.__init__" s_Sieve___init__ ["self", "text"] (spSvI K) := by
  refine ff_Sieve___init__ (fun vs H Q E h => by obtain ⟨a, C, dx, fs, z, rfl, _⟩ := h; rfl) (fun f cdv A outer s H vs Q E hr h => ?_)
  obtain ⟨a, C, dx, fs, z, rfl, ha, hc, hn, hl, q⟩ := h
  refine sxs_one (sx_setF (by rfl) ?_)
  walk_at "e"
  walk_at "e"
  exact ⟨a, C, dx, fs, rfl, ha, hc, hn, by omega, q⟩
def spSvN (K : PySem.W.Frag) : Sp := fun vs H Q _ => ∃ (a C dx : Addr) (fs : List (Str × V)) (z : Str) (p : V), vs = [.ref a, .str z, p] ∧ H a = some (.ins C dx fs) ∧ Cls K C ∧ NoAttr K C "text" ∧ NoAttr K C "place" ∧ fs.length < 800 ∧
  Q .non (upd (upd H a (.ins C dx (putF "text" (.str z) fs))) a (.ins C dx (putF "place" p (putF "text" (.str z) fs))))
theorem f_NoneSieve_init (T : Txt K mg) {cc : Bool} : FD P w K mg base cc 2 "__init__" "NoneSieve.__init__" s_NoneSieve___init__ ["self", "text", "place"] (spSvN K) := by
  refine ff_NoneSieve___init__ (fun vs H Q E h => by obtain ⟨a, C, dx, fs, z, p, rfl, _⟩ := h; rfl) (fun f cdv A outer s H vs Q E hr h => ?_)
  obtain ⟨a, C, dx, fs, z, p, rfl, ha, hc, hn, hn2, hl, q⟩ := h
  have B : BDef P w K mg base cc 1 "Sieve" "__init__" ["self", "text"] (spSvI K) := f_Sieve_init.asked T.m_Sieve T.ob_Sieve___init__
  have hz := length_putF "text" (V.str z) fs
  refine sxs_cons (sx_expr (by rfl) ?_)
  refine ev_basem (pl := _) B hr (by decide) id xok_fn (by rfl) (by decide) (by rfl) (by rfl) (by rfl) ?_
  walk_at "go"
  refine ⟨a, C, dx, fs, z, rfl, ha, hc, hn, by omega, ?_⟩
  refine sxs_one (sx_setF (by rfl) ?_)
  walk_at "e"
  walk_at "e"
  exact ⟨a, C, dx, _, rfl, upd_same, hc, hn2, by omega, q⟩
end
end K08
namespace K08
open PySem L2 PyProof.Rows My Vl Lw
section
variable {P : Program} {w : World} {K : PySem.W.Frag} {mg : Str → Option Value} {base : Heap}
def spSvV (K : PySem.W.Frag) : Sp := fun vs H Q _ => ∃ (a C dx : Addr) (fs : List (Str × V)) (z : Str) (p v : V), vs = [.ref a, .str z, p, v] ∧ H a = some (.ins C dx fs) ∧ Cls K C ∧ NoAttr K C "text" ∧ NoAttr K C "place" ∧ NoAttr K C "value" ∧ fs.length < 800 ∧
  ∀ H', H' a = some (.ins C dx (putF "value" v (putF "place" p (putF "text" (.str z) fs)))) → (∀ b o, b ≠ a → H b = some o → H' b = some o) → Q .non H'
theorem f_ValueSieve_init (T : Txt K mg) {cc : Bool} : FD P w K mg base cc 2 "__init__" "ValueSieve.__init__" s_ValueSieve___init__ ["self", "text", "place", "value"] (spSvV K) := by
  refine ff_ValueSieve___init__ (fun vs H Q E h => by obtain ⟨a, C, dx, fs, z, p, v, rfl, _⟩ := h; rfl) (fun f cdv A outer s H vs Q E hr h => ?_)
  obtain ⟨a, C, dx, fs, z, p, v, rfl, ha, hc, hn, hn2, hn3, hl, q⟩ := h
  have B : BDef P w K mg base cc 1 "Sieve" "__init__" ["self", "text"] (spSvI K) := f_Sieve_init.asked T.m_Sieve T.ob_Sieve___init__
  have hz := length_putF "text" (V.str z) fs
  have hz2 := length_putF "place" p (putF "text" (V.str z) fs)
  refine sxs_cons (sx_expr (by rfl) ?_)
  refine ev_basem (pl := _) B hr (by decide) id xok_fn (by rfl) (by decide) (by rfl) (by rfl) (by rfl) ?_
  walk_at "go"
  refine ⟨a, C, dx, fs, z, rfl, ha, hc, hn, by omega, ?_⟩
  refine sxs_cons (sx_setF (by rfl) ?_)
  walk_at "e"
  walk_at "e"
  refine ⟨a, C, dx, _, rfl, upd_same, hc, hn2, by omega, ?_⟩
  refine sxs_one (sx_setF (by rfl) ?_)
  walk_at "e"
  walk_at "e"
  refine ⟨a, C, dx, _, rfl, upd_same, hc, hn3, by omega, q _ upd_same fun b o hb e => ?_⟩
  rw [upd_ne hb, upd_ne hb, upd_ne hb]
  exact e
/-! looks -/
inductive Lk | is | under | over | holds
abbrev F3 (z : Str) (p : Nat) (v : V) : List (Str × V) := [("text", .str z), ("place", .int p), ("value", v)]
end
end K08

namespace K08
open PySem L2 PyProof.Rows My Vl Lw
section
variable {P : Program} {w : World} {K : PySem.W.Frag} {mg : Str → Option Value} {base : Heap}
theorem d_made_of (T : Txt K mg) : Def P w K mg base true 1 "made_of" ["text", "signs"] spMade := by
  refine df_made_of T (fun vs H Q E h => by obtain ⟨z, g, rfl, _⟩ := h; rfl) (fun f cdv A outer s H vs Q E hr h => ?_)
  obtain ⟨z, g, rfl, hz, q⟩ := h
  have n1 := T.n_all
  refine sxs_one (sx_ret ?_)
  walk_at "e"
  walk_at "e"
  refine ev_compS ["sign", "signs"] (σ' := [none, some (.str g)]) (by rfl) (by rfl) (compSc_of (defScope s_made_of) (by rfl) (by rfl) (by decide +kernel)) (by decide +kernel) (by rfl) (by rfl) (by intro _; rfl) ?_
  walk_at "e"
  refine ⟨z, rfl, ?_, fun i v => ∃ c, z.cps.toList[i]? = some c ∧ v = .bl (decide (c ∈ g.cps.toList)), fun fp E' C s3 H0 i c H2 hc sm => ?_, fun E' H2 xs hE hl hx e2 sm => ?_⟩
  · have : z.cps.size = z.length := rfl
    have h2 : sizeLine = 16777216 := sizeLine_eq
    omega
  · walk_at "go"
    exact ⟨⟨c, hc, by rw [StrLaws.found_one]⟩, Same.refl _⟩
  · have ex := list_of_pi (ys := z.cps.toList) (fun c => V.bl (decide (c ∈ g.cps.toList))) (by rw [hl]; simp) hx
    have ex2 : xs = (z.cps.toList.map fun c => decide (c ∈ g.cps.toList)).map V.bl := by rw [ex, List.map_map]; rfl
    subst ex2
    walk_at "go"
    refine c_all (by rfl) (SqL.of e2) ?_
    have e3 : (z.cps.toList.map fun c => decide (c ∈ g.cps.toList)).all id = madeOf z g := by rw [List.all_map]; rfl
    rw [e3]
    exact q _ sm
end
end K08
namespace K08
open PySem L2 PyProof.Rows My Vl Lw
section
variable {P : Program} {w : World} {K : PySem.W.Frag} {mg : Str → Option Value} {base : Heap}
theorem d_is_text_value (T : Txt K mg) : Def P w K mg base true 2 "is_text_value" ["value"] spTxt := by
  refine df_is_text_value T (fun vs H Q E h => by obtain ⟨z, rfl, _⟩ := h; rfl) (fun f cdv A outer s H vs Q E hr h => ?_)
  obtain ⟨v, rfl, hs, hz, q⟩ := h
  have g1 := T.g_LONGEST
  have g2 := T.g_TEXT_SIGNS
  have n1 := T.n_isinstance
  have n2 := T.n_str
  have n3 := T.n_len
  have D1 : Def P w K mg base true 1 "made_of" ["text", "signs"] spMade := d_made_of T
  have hsz : sizeLine = 16777216 := sizeLine_eq
  refine sxs_one (sx_ret ?_)
  cases v with
  | int i =>
    walk_at "go"
    exact q H (Same.refl _)
  | non =>
    walk_at "go"
    exact q H (Same.refl _)
  | str z =>
    have hz' : z.length ≤ 4000 := hz
    walk_at "go"
    refine ifD (fun h => ?_) (fun h => ?_)
    · walk_at "go"
      refine ⟨z, _, rfl, hz', fun H' sm => ?_⟩
      have e : isTxt (.str z) = madeOf z TSs := by
        have h' : z.length ≤ 20 := by omega
        unfold isTxt
        simp [h']
      rw [e] at q
      exact q H' sm
    · have e : isTxt (.str z) = false := by
        have h' : ¬ z.length ≤ 20 := by omega
        unfold isTxt
        simp [h']
      rw [e] at q
      exact q H (Same.refl _)
  | _ => cases hs
end
end K08
namespace K08
open PySem L2 PyProof.Rows My Vl Lw
section
variable {P : Program} {w : World} {K : PySem.W.Frag} {mg : Str → Option Value} {base : Heap}
theorem d_are_figures (T : Txt K mg) : Def P w K mg base true 2 "are_figures" ["word"] spFig := by
  refine df_are_figures T (fun vs H Q E h => by obtain ⟨v, rfl, _⟩ := h; rfl) (fun f cdv A outer s H vs Q E hr h => ?_)
  obtain ⟨z, rfl, hz, q⟩ := h
  have g1 := T.g_FIGURES
  have D1 : Def P w K mg base true 1 "made_of" ["text", "signs"] spMade := d_made_of T
  have hsz : sizeLine = 16777216 := sizeLine_eq
  have e0 : (Str.ofString "0").cps.toList = [48] := by decide +kernel
  have e1 : (Str.ofString "").cps.toList = [] := by decide +kernel
  unfold areFig at q
  refine sxs_one (sx_ret ?_)
  walk_at "go"
  refine ifD (fun h => ?_) (fun h => ?_)
  · have h' : z.cps.toList = [48] := by cases h; exact e0
    rw [h'] at q
    exact q H (Same.refl _)
  · have h' : ¬ z.cps.toList = [48] := fun h2 => h (by rw [str_ext (h2.trans e0.symm)])
    rw [decide_eq_false h', Bool.false_or] at q
    walk_at "go"
    refine ifN (fun h2 => ?_) (fun h2 => ?_)
    · have h2' : z.cps.toList ≠ [] := fun h3 => h2 (by rw [str_ext (h3.trans e1.symm)])
      rw [decide_eq_true h2', Bool.true_and] at q
      obtain ⟨c, r, hc⟩ := List.exists_cons_of_ne_nil h2'
      have hc0 : z.cps.toList[0]? = some c := by rw [hc]; rfl
      walk_at "go"
      refine i_str (by omega) (atI_nat (j := 0) hc0) ?_
      walk_at "go"
      rw [hc0] at q
      refine ifN (fun h3 => ?_) (fun h3 => ?_)
      · have h3' : some c ≠ some 48 := fun h4 => h3 (by cases h4; exact congrArg V.str (str_ext e0.symm))
        rw [decide_eq_true h3', Bool.true_and] at q
        walk_at "go"
        refine ⟨z, _, rfl, hz, fun H' sm => ?_⟩
        rw [madeOf_fg]
        exact q H' sm
      · have h3' : ¬ (some c ≠ some 48) := fun h4 => h4 (by
          have := congrArg (fun v : V => match v with | .str x => x.cps.toList | _ => []) h3
          have h5 : [c] = (Str.ofString "0").cps.toList := this
          rw [e0] at h5
          cases h5
          rfl)
        rw [decide_eq_false h3', Bool.false_and] at q
        exact q H (Same.refl _)
    · have h2' : ¬ z.cps.toList ≠ [] := fun h3 => h3 (by cases h2; exact e1)
      rw [decide_eq_false h2', Bool.false_and] at q
      exact q H (Same.refl _)
end
end K08
namespace K08
open PySem L2 PyProof.Rows My Vl Lw
section
variable {P : Program} {w : World} {K : PySem.W.Frag} {mg : Str → Option Value} {base : Heap}
theorem d_read_figures (T : Txt K mg) : Def P w K mg base true 3 "read_figures" ["word", "most"] spReadF := by
  refine df_read_figures T (fun vs H Q E h => by obtain ⟨z, m, k, rfl, _⟩ := h; rfl) (fun f cdv A outer s H vs Q E hr h => ?_)
  obtain ⟨z, m, k, rfl, hz, m0, m1, hk, hmk, k1, k2, q⟩ := h
  have n1 := T.n_len
  have n2 := T.n_str
  have n3 := T.n_int
  have nd := sc_read_figures.nd
  have D1 : Def P w K mg base true 2 "are_figures" ["word"] spFig := d_are_figures T
  have hsz : sizeLine = 16777216 := sizeLine_eq
  have hl := L2.len_list z
  have out : ∀ (H1 : Hp) (o : Option V), Same H H1 → figN z.cps.toList m = none → SXs (CxF true P w K mg base N_read_figures "read_figures" (defScope s_read_figures) f cdv A outer s H E) ((defBody s_read_figures).drop 1) { nx := fun _ H' => Q .non H', rt := Q } [some (.str z), some (.int m), o] H1 := by
    intro H1 o sm e
    have q1 := q H1 sm
    rw [e] at q1
    refine sxs_one ?_
    walk_at "go"
    exact q1
  refine sxs_cons ?_
  walk_at "go"
  refine ⟨z, rfl, hz, fun H1 sm1 => ?_⟩
  walk_at "go"
  refine ifB (fun h1 => ?_) (fun h1 => ?_)
  · walk_at "go"
    refine c_strI (log_ok m1) ?_
    walk_at "go"
    rw [hk]
    refine ifD (fun h2 => ?_) (fun h2 => ?_)
    · walk_at "go"
      obtain ⟨hd, hne⟩ := areFig_digits h1
      refine c_intS (intText_digits hd hne (by omega)) (by omega) ?_
      walk_at "go"
      refine ifD (fun h3 => ?_) (fun h3 => ?_)
      · have q1 := q H1 sm1
        have e : figN z.cps.toList m = some _ := if_pos ⟨h1, h3⟩
        rw [e] at q1
        walk_at "go"
        exact q1
      · exact sxs_nil (out H1 _ sm1 (if_neg fun x => h3 x.2))
    · refine sxs_nil (out H1 _ sm1 (if_neg fun x => h2 ?_))
      have := fig_len x.1 x.2 hmk k1
      omega
  · exact sxs_nil (out H1 _ sm1 (if_neg fun x => by rw [h1] at x; exact Bool.false_ne_true x.1))
end
end K08
namespace K08
open PySem L2 PyProof.Rows My Vl Lw
section
variable {P : Program} {w : World} {K : PySem.W.Frag} {mg : Str → Option Value} {base : Heap}
theorem d_read_number_word (T : Txt K mg) : Def P w K mg base true 4 "read_number_word" ["word"] (spReadN (.ref (clsA mg "NoValue"))) := by
  refine df_read_number_word T (fun vs H Q E h => by obtain ⟨v, rfl, _⟩ := h; rfl) (fun f cdv A outer s H vs Q E hr h => ?_)
  obtain ⟨z, rfl, hz, q⟩ := h
  have g1 := T.g_BELOW_AHEAD
  have g2 := T.g_LARGEST
  have nd := sc_read_number_word.nd
  have D1 : Def P w K mg base true 3 "read_figures" ["word", "most"] spReadF := d_read_figures T
  have hsz : sizeLine = 16777216 := sizeLine_eq
  have lm : (Str.ofString (toString (1000000000000000000 : Int))).length = 19 := by decide +kernel
  have rz : readNum z.cps.toList = none → ∀ H1, Same H H1 → ∀ o1 o2 D, SX (CxF true P w K mg base N_read_number_word "read_number_word" (defScope s_read_number_word) f cdv A outer s H E) (stAt (inIf (stAt (defBody s_read_number_word) 2)) 0) D [some (.str z), o1, o2] H1 := by
    intro hn H1 sm o1 o2 D
    refine sx_raise xok_fn (by rfl) T.x_NoValue (by rfl) (by decide) (by rfl) (by rfl) ?_
    walk_at "go"
    refine ev_fmtS ?_
    walk_at "e"
    refine ⟨z, rfl, by omega, _, 4000, rfl, hz, by omega, ?_⟩
    walk_at "go"
    intro zz
    walk_at "go"
    have q1 := q H1 sm
    rw [hn] at q1
    exact ⟨by rw [hsz]; simp, q1⟩
  refine sxs_cons ?_
  walk_at "go"
  refine m_starts ?_
  rw [show Txt.startswith z "-" = decide (z.cps.toList[0]? = some 45) from starts_one z 45]
  walk_at "go"
  refine ifD (fun h0 => ?_) (fun h0 => ?_)
  · rw [decide_eq_true h0]
    walk_at "go"
    refine s_str (by omega) ?_
    walk_at "go"
    have hcl := cutS_le z (some 1) none
    refine ⟨_, _, 19, rfl, by omega, by decide, by decide, lm, by decide, by decide, by decide, fun H1 sm1 => ?_⟩
    rw [show (cutS z (some 1) none).cps.toList = z.cps.toList.drop 1 from cutS_from z 1]
    have er := readNum_below h0
    cases e : figN (z.cps.toList.drop 1) 1000000000000000000 with
    | none =>
      rw [e] at er
      simp only [intO]
      walk_at "go"
      exact rz er H1 sm1 _ _ _
    | some i =>
      rw [e] at er
      dsimp only at er
      simp only [intO]
      walk_at "go"
      refine ifD (fun h1 => ?_) (fun h1 => ?_)
      · have h2 : i = 0 := by injection h1
        rw [if_pos h2] at er
        exact sxs_one (rz er H1 sm1 _ _ _)
      · have h2 : ¬ i = 0 := fun e => h1 (by rw [e])
        rw [if_neg h2] at er
        have q1 := q H1 sm1
        rw [er] at q1
        refine sxs_nil ?_
        walk_at "go"
        exact q1
  · rw [decide_eq_false h0]
    walk_at "go"
    refine ⟨_, _, 19, rfl, by omega, by decide, by decide, lm, by decide, by decide, by decide, fun H1 sm1 => ?_⟩
    have er := readNum_above h0
    cases e : figN z.cps.toList 1000000000000000000 with
    | none =>
      rw [e] at er
      simp only [intO]
      walk_at "go"
      exact rz er H1 sm1 _ _ _
    | some i =>
      rw [e] at er
      simp only [intO]
      have q1 := q H1 sm1
      rw [er] at q1
      walk_at "go"
      exact q1
end
end K08
namespace K08
open PySem L2 PyProof.Rows My Vl Lw
section
variable {P : Program} {w : World} {K : PySem.W.Frag} {mg : Str → Option Value} {base : Heap}
theorem d_read_text_word (T : Txt K mg) : Def P w K mg base true 3 "read_text_word" ["word"] (spReadT (.ref (clsA mg "NoValue"))) := by
  refine df_read_text_word T (fun vs H Q E h => by obtain ⟨v, rfl, _⟩ := h; rfl) (fun f cdv A outer s H vs Q E hr h => ?_)
  obtain ⟨z, rfl, hz, q⟩ := h
  have g1 := T.g_TEXT_AHEAD
  have nd := sc_read_text_word.nd
  have D1 : Def P w K mg base true 2 "is_text_value" ["value"] spTxt := d_is_text_value T
  have hsz : sizeLine = 16777216 := sizeLine_eq
  have e1 : Str.ofString "'" = ⟨#[39]⟩ := by decide +kernel
  have lc := cutS_le z (some 1) none
  have rz : readTxt z = none → ∀ H1, Same H H1 → SXs (CxF true P w K mg base N_read_text_word "read_text_word" (defScope s_read_text_word) f cdv A outer s H E) ((defBody s_read_text_word).drop 1) { nx := fun _ H' => Q .non H', rt := Q } [some (.str z)] H1 := by
    intro hn H1 sm
    refine sxs_one (sx_raise xok_fn (by rfl) T.x_NoValue (by rfl) (by decide) (by rfl) (by rfl) ?_)
    walk_at "go"
    refine ev_fmtS ?_
    walk_at "e"
    refine ⟨z, rfl, by omega, _, 4000, rfl, hz, by omega, ?_⟩
    walk_at "go"
    intro zz
    walk_at "go"
    have q1 := q H1 sm
    rw [hn] at q1
    exact ⟨by rw [hsz]; simp, q1⟩
  refine sxs_cons ?_
  walk_at "go"
  refine m_starts ?_
  walk_at "go"
  rw [e1, starts_one]
  refine ifD (fun h1 => ?_) (fun h1 => ?_)
  · walk_at "go"
    refine s_str (by omega) ?_
    walk_at "go"
    refine ⟨_, rfl, rfl, (show (cutS z (some 1) none).length ≤ 4000 by omega), fun H1 sm1 => ?_⟩
    walk_at "go"
    refine ifB (fun h2 => ?_) (fun h2 => ?_)
    · walk_at "go"
      refine s_str (by omega) ?_
      have q1 := q H1 sm1
      have er : readTxt z = some (cutS z (some 1) none) := by
        unfold readTxt
        rw [if_pos ⟨h1, h2⟩]
      rw [er] at q1
      exact q1
    · refine sxs_nil (rz ?_ H1 sm1)
      unfold readTxt
      rw [if_neg fun h4 => by rw [h2] at h4; exact Bool.false_ne_true h4.2]
  · refine sxs_nil (rz ?_ H (Same.refl _))
    unfold readTxt
    rw [if_neg fun h4 => h1 h4.1]
end
end K08
namespace K08
open PySem L2 PyProof.Rows My Vl Lw
section
variable {P : Program} {w : World} {K : PySem.W.Frag} {mg : Str → Option Value} {base : Heap}
theorem d_read_value (T : Txt K mg) : Def P w K mg base true 5 "read_value" ["kind", "word"] (spReadV (.ref (clsA mg "NoValue"))) := by
  refine df_read_value T (fun vs H Q E h => by obtain ⟨k, z, rfl, _⟩ := h; rfl) (fun f cdv A outer s H vs Q E hr h => ?_)
  obtain ⟨k, z, rfl, hz, q⟩ := h
  have g1 := T.g_NONE_WORD
  have g2 := T.g_NUMBER
  have D1 : Def P w K mg base true 4 "read_number_word" ["word"] (spReadN (.ref (clsA mg "NoValue"))) := d_read_number_word T
  have D2 : Def P w K mg base true 3 "read_text_word" ["word"] (spReadT (.ref (clsA mg "NoValue"))) := d_read_text_word T
  refine sxs_cons ?_
  walk_at "go"
  refine ifD (fun h1 => ?_) (fun h1 => ?_)
  · have h2 : z = "?" := by cases h1; rfl
    have q1 := q H (Same.refl _)
    have er : readV k z = some .non := by unfold readV; rw [if_pos h2]
    rw [er] at q1
    walk_at "go"
    exact q1
  · have h2 : ¬ z = "?" := fun e => h1 (by rw [e])
    have er : readV k z = if k = "number" then numV (readNum z.cps.toList) else txtV (readTxt z) := by unfold readV; rw [if_neg h2]
    rw [er] at q
    walk_at "go"
    refine ifD (fun h3 => ?_) (fun h3 => ?_)
    · have h4 : k = "number" := by cases h3; rfl
      rw [if_pos h4] at q
      walk_at "go"
      exact ⟨z, rfl, hz, q⟩
    · have h4 : ¬ k = "number" := fun e => h3 (by rw [e])
      rw [if_neg h4] at q
      walk_at "go"
      exact ⟨z, rfl, hz, q⟩
end
end K08
namespace K08
open PySem L2 PyProof.Rows My Vl Lw
section
variable {P : Program} {w : World} {K : PySem.W.Frag} {mg : Str → Option Value} {base : Heap}
/-- a word that writes a value of the kind -/
def spRWord (K : PySem.W.Frag) : Sp := fun vs H Q _ => ∃ (kd : Str) (a : Addr) (ws : List Str) (p : Nat) (z : Str) (v : V), vs = [.str kd, .ref a, .int p] ∧ SqL K H a (ws.map V.str) ∧ ws.length ≤ 4000 ∧ ws[p]? = some z ∧ p < 60 ∧ z.length ≤ 4000 ∧ readV kd z = some v ∧ ¬ v = .non ∧ ∀ H', Same H H' → Q v H'
theorem d_read_word (T : Txt K mg) : Def P w K mg base true 6 "read_word" ["kind", "words", "place"] (spRWord K) := by
  refine df_read_word T (fun vs H Q E h => by obtain ⟨kd, a, ws, p, z, v, rfl, _⟩ := h; rfl) (fun f cdv A outer s H vs Q E hr h => ?_)
  obtain ⟨kd, a, ws, p, z, v, rfl, hS, hl, hz, hp, hzl, hv, hne, q⟩ := h
  have nd := sc_read_word.nd
  have D1 : Def P w K mg base true 3 "word_at" ["words", "place"] (spWordAt K mg) := d_word_at T
  have D2 : Def P w K mg base true 5 "read_value" ["kind", "word"] (spReadV (.ref (clsA mg "NoValue"))) := d_read_value T
  have hlt := (List.getElem?_eq_some_iff.mp hz).1
  refine sxs_cons ?_
  walk_at "go"
  refine ⟨a, ws, p, rfl, hS, hl, by omega, fun hb => absurd ⟨hlt, hp⟩ hb, fun z' hz' _ => ?_⟩
  rw [hz] at hz'
  cases hz'
  refine sxs_cons ?_
  refine sx_try (fun _ _ _ _ => False) rfl rfl (fun F pn xo po => ?_) (fun σ c d H' hK => hK.elim)
  refine sxs_one ?_
  walk_at "go"
  refine ⟨kd, z, rfl, hzl, fun H' sm => ?_⟩
  rw [hv]
  refine sxs_nil ?_
  refine sxs_cons ?_
  walk_at "go"
  rw [decide_eq_false hne]
  walk_at "go"
  exact q H' sm
end
end K08

namespace K08
open PySem L2 PyProof.Rows My Vl Lw
section
variable {P : Program} {w : World} {K : PySem.W.Frag} {mg : Str → Option Value} {base : Heap}
inductive Sv1 | all | none (p : Nat) | look (l : Lk) (p : Nat) (v : V)
def clsL (mg : Str → Option Value) : Lk → Addr
  | .is => clsA mg "IsSieve"
  | .under => clsA mg "UnderSieve"
  | .over => clsA mg "OverSieve"
  | .holds => clsA mg "HoldsSieve"
def SvAt1 (mg : Str → Option Value) (H : Hp) (a : Addr) : Sv1 → Str → Prop
  | .all, z => ∃ dx, H a = some (.ins (clsA mg "AllSieve") dx [("text", .str z)])
  | .none p, z => ∃ dx, H a = some (.ins (clsA mg "NoneSieve") dx [("text", .str z), ("place", .int p)])
  | .look l p v, z => ∃ dx, H a = some (.ins (clsL mg l) dx (F3 z p v))
theorem SvAt1.same {mg : Str → Option Value} {H H' : Hp} {a : Addr} {s : Sv1} {z : Str} (h : SvAt1 mg H a s z) (e : Same H H') : SvAt1 mg H' a s z := by
  cases s <;> obtain ⟨dx, h⟩ := h <;> exact ⟨dx, e _ _ h⟩
/-- the told pair -/
def PairAt (mg : Str → Option Value) (H : Hp) (p : Addr) (s : Sv1) (z : Str) (n : Nat) : Prop := ∃ t, H p = some (.tup [.ref t, .int n]) ∧ SvAt1 mg H t s z
def spRNone (K : PySem.W.Frag) (mg : Str → Option Value) : Sp := fun vs H Q _ => ∃ (b : Addr) (cs : List Col) (a : Addr) (ws : List Str) (s i : Nat), vs = [.ref b, .ref a, .int s] ∧ Cols H b cs ∧ SqL K H a (ws.map V.str) ∧ ws.length ≤ 4000 ∧ (∀ z ∈ ws, z.length ≤ 1000) ∧ s + 2 ≤ ws.length ∧ colAt cs ws (s + 1) = some i ∧
  ∀ p H', Same H H' → PairAt mg H' p (.none i) (betw ws s (s + 2)) (s + 2) → Q (.ref p) H'
theorem d_read_none (T : Txt K mg) : Def P w K mg base true 5 "read_none" ["columns", "words", "start"] (spRNone K mg) := by
  refine df_read_none T (fun vs H Q E h => by obtain ⟨b, cs, a, ws, s, i, rfl, _⟩ := h; rfl) (fun f cdv A outer s H vs Q E hr h => ?_)
  obtain ⟨b, cs, a, ws, s0, i, rfl, hC, hS, hl, hz, hs2, hi, q⟩ := h
  have nd := sc_read_none.nd
  have hsz : sizeLine = 16777216 := sizeLine_eq
  have D1 : Def P w K mg base true 4 "read_column" ["columns", "words", "place"] (spColAt K mg) := d_read_column T
  have D2 : Def P w K mg base true 1 "text_between" ["words", "start", "behind"] (spBetw K) := d_text_between T
  have M : CDef P w K mg base true 2 "NoneSieve" (clsA mg "NoneSieve") ["self", "text", "place"] (spSvN K) := (f_NoneSieve_init T).make T.m_NoneSieve T.oi_NoneSieve
  refine sxs_cons ?_
  walk_at "go"
  refine ⟨b, cs, a, ws, s0 + 1, by simp, hC, hS, hl, by omega, fun e => (by rw [hi] at e; cases e), fun i' H2 sm2 e => ?_⟩
  rw [hi] at e
  cases e
  walk_at "go"
  refine ev_make M hr (by decide) (fun _ => rfl) xok_fn (by rfl) (by decide) (by rfl) (by rfl) ?_
  walk_at "go"
  refine ⟨a, ws, s0, s0 + 2, by simp, sm2.seq hS, hl, hz, by omega, hs2, fun H3 sm3 => ?_⟩
  walk_at "go"
  intro y dx hy hdx hne
  refine ⟨y, _, dx, [], betw ws s0 (s0 + 2), _, rfl, upd_same, T.k_NoneSieve, T.na_NoneSieve_text, T.na_NoneSieve_place, by simp, rfl, ?_⟩
  walk_at "go"
  refine ⟨by show 2 ≤ sizeLine; omega, fun p hp => ?_⟩
  generalize hG : upd (upd (upd (upd H3 dx (.own y)) y (.ins (clsA mg "NoneSieve") dx [])) y _) y _ = G at hp ⊢
  have smG : Same H3 G := fun c o e => by
    rw [← hG, upd_ne (ne_of_none e hy), upd_ne (ne_of_none e hy), upd_ne (ne_of_none e hy), upd_ne (ne_of_none e hdx)]
    exact e
  have ey : G y = some (.ins (clsA mg "NoneSieve") dx [("text", .str (betw ws s0 (s0 + 2))), ("place", .int i)]) := by
    rw [← hG]
    exact upd_same
  have smp : Same G (upd G p (.tup [.ref y, .int (s0 + 2)])) := Same.upd hp
  exact q p _ (((sm2.trans sm3).trans smG).trans smp) ⟨y, upd_same, dx, smp _ _ ey⟩
end
end K08

namespace K08
open PySem L2 PyProof.Rows My Vl Lw
section
variable {P : Program} {w : World} {K : PySem.W.Frag} {mg : Str → Option Value} {base : Heap}
def wordL : Lk → Str
  | .is => "is"
  | .under => "under"
  | .over => "over"
  | .holds => "holds"
def spRVal (K : PySem.W.Frag) (mg : Str → Option Value) : Sp := fun vs H Q _ => ∃ (l : Lk) (b : Addr) (cs : List Col) (a : Addr) (ws : List Str) (s i : Nat) (c : Col) (z : Str) (v : V), vs = [.ref b, .ref a, .int s] ∧ Cols H b cs ∧ SqL K H a (ws.map V.str) ∧ ws.length ≤ 4000 ∧ (∀ z ∈ ws, z.length ≤ 1000) ∧ s + 3 ≤ ws.length ∧ s + 2 < 60 ∧
  ws[s]? = some (wordL l) ∧ colAt cs ws (s + 1) = some i ∧ cs[i]? = some c ∧ (l = .holds → c.2 = "text") ∧ ws[s + 2]? = some z ∧ readV c.2 z = some v ∧ ¬ v = .non ∧
  ∀ p H', Same H H' → PairAt mg H' p (.look l i v) (betw ws s (s + 3)) (s + 3) → Q (.ref p) H'
theorem d_read_of_value (T : Txt K mg) : Def P w K mg base true 7 "read_of_value" ["columns", "words", "start"] (spRVal K mg) := by
  refine df_read_of_value T (fun vs H Q E h => by obtain ⟨l, b, cs, a, ws, s, i, c, z, v, rfl, _⟩ := h; rfl) (fun f cdv A outer s H vs Q E hr h => ?_)
  obtain ⟨l, b, cs, a, ws, s0, i, c, z, v, rfl, hC, hS, hl, hz, hs3, hs60, hw, hi, hc, hh, hzz, hv, hne, q⟩ := h
  have nd := sc_read_of_value.nd
  have hsz : sizeLine = 16777216 := sizeLine_eq
  have g1 := T.g_HOLDS
  have g2 := T.g_TEXT
  have g3 := T.g_IS
  have g4 := T.g_UNDER
  have g5 := T.g_OVER
  have D1 : Def P w K mg base true 4 "read_column" ["columns", "words", "place"] (spColAt K mg) := d_read_column T
  have D2 : Def P w K mg base true 1 "text_between" ["words", "start", "behind"] (spBetw K) := d_text_between T
  have D3 : Def P w K mg base true 6 "read_word" ["kind", "words", "place"] (spRWord K) := d_read_word T
  refine sxs_cons ?_
  walk_at "go"
  refine i_list hS (atI_nat (by rw [List.getElem?_map, hw]; rfl)) ?_
  walk_at "go"
  refine ⟨b, cs, a, ws, s0 + 1, by simp, hC, hS, hl, by omega, fun e => (by rw [hi] at e; cases e), fun i' H2 sm2 e => ?_⟩
  rw [hi] at e
  cases e
  obtain ⟨vs, hb, hvs⟩ := hC.same sm2
  obtain ⟨cv, gc, t, rfl, ht⟩ := hvs.get' hc
  refine sxs_cons ?_
  walk_at "go"
  refine i_list (SqL.of hb) (atI_nat gc) ?_
  walk_at "go"
  refine i_tup (SqT.of ht) (show atI [V.str c.1, V.str c.2] 1 = some (V.str c.2) from rfl) ?_
  cases l with
  | is =>
    have M : CDef P w K mg base true 2 "IsSieve" (clsA mg "IsSieve") ["self", "text", "place", "value"] (spSvV K) := (f_ValueSieve_init T).make T.m_IsSieve T.oi_IsSieve
    refine sxs_cons ?_
    walk_at "go"
    refine ifD (fun h => absurd h (by decide +kernel)) (fun _ => ?_)
    refine sxs_nil ?_
    refine sxs_cons ?_
    walk_at "go"
    refine ⟨c.2, a, ws, s0 + 2, z, v, by simp, sm2.seq hS, hl, hzz, hs60, by have := hz z (List.mem_of_getElem? hzz); omega, hv, hne, fun H3 sm3 => ?_⟩
    walk_at "go"
    refine ⟨a, ws, s0, s0 + 3, by simp, (sm2.trans sm3).seq hS, hl, hz, by omega, hs3, fun H4 sm4 => ?_⟩
    refine sxs_cons ?_
    walk_at "go"
    refine ifD (fun _ => ?_) (fun h => absurd rfl h)
    walk_at "go"
    refine ev_make M hr (by decide) (fun _ => rfl) xok_fn (by rfl) (by decide) (by rfl) (by rfl) ?_
    walk_at "go"
    intro y dx hy hdx hne'
    refine ⟨y, _, dx, [], betw ws s0 (s0 + 3), _, v, rfl, upd_same, T.k_IsSieve, T.na_IsSieve_text, T.na_IsSieve_place, T.na_IsSieve_value, by simp, fun G eG hG => ⟨rfl, ?_⟩⟩
    walk_at "go"
    refine ⟨by show 2 ≤ sizeLine; omega, fun p hp => ?_⟩
    have smG : Same H4 G := fun c o e => hG c o (ne_of_none e hy) (by rw [upd_ne (ne_of_none e hy), upd_ne (ne_of_none e hdx)]; exact e)
    have smp : Same G (upd G p (.tup [.ref y, .int (s0 + 3)])) := Same.upd hp
    exact q p _ ((((sm2.trans sm3).trans sm4).trans smG).trans smp) ⟨y, upd_same, dx, smp _ _ eG⟩
  | under =>
    have M : CDef P w K mg base true 2 "UnderSieve" (clsA mg "UnderSieve") ["self", "text", "place", "value"] (spSvV K) := (f_ValueSieve_init T).make T.m_UnderSieve T.oi_UnderSieve
    refine sxs_cons ?_
    walk_at "go"
    refine ifD (fun h => absurd h (by decide +kernel)) (fun _ => ?_)
    refine sxs_nil ?_
    refine sxs_cons ?_
    walk_at "go"
    refine ⟨c.2, a, ws, s0 + 2, z, v, by simp, sm2.seq hS, hl, hzz, hs60, by have := hz z (List.mem_of_getElem? hzz); omega, hv, hne, fun H3 sm3 => ?_⟩
    walk_at "go"
    refine ⟨a, ws, s0, s0 + 3, by simp, (sm2.trans sm3).seq hS, hl, hz, by omega, hs3, fun H4 sm4 => ?_⟩
    refine sxs_cons ?_
    walk_at "go"
    refine ifD (fun h => absurd h (by decide +kernel)) (fun _ => ?_)
    refine sxs_nil ?_
    refine sxs_cons ?_
    walk_at "go"
    refine ifD (fun _ => ?_) (fun h => absurd rfl h)
    walk_at "go"
    refine ev_make M hr (by decide) (fun _ => rfl) xok_fn (by rfl) (by decide) (by rfl) (by rfl) ?_
    walk_at "go"
    intro y dx hy hdx hne'
    refine ⟨y, _, dx, [], betw ws s0 (s0 + 3), _, v, rfl, upd_same, T.k_UnderSieve, T.na_UnderSieve_text, T.na_UnderSieve_place, T.na_UnderSieve_value, by simp, fun G eG hG => ⟨rfl, ?_⟩⟩
    walk_at "go"
    refine ⟨by show 2 ≤ sizeLine; omega, fun p hp => ?_⟩
    have smG : Same H4 G := fun c o e => hG c o (ne_of_none e hy) (by rw [upd_ne (ne_of_none e hy), upd_ne (ne_of_none e hdx)]; exact e)
    have smp : Same G (upd G p (.tup [.ref y, .int (s0 + 3)])) := Same.upd hp
    exact q p _ ((((sm2.trans sm3).trans sm4).trans smG).trans smp) ⟨y, upd_same, dx, smp _ _ eG⟩
  | over =>
    have M : CDef P w K mg base true 2 "OverSieve" (clsA mg "OverSieve") ["self", "text", "place", "value"] (spSvV K) := (f_ValueSieve_init T).make T.m_OverSieve T.oi_OverSieve
    refine sxs_cons ?_
    walk_at "go"
    refine ifD (fun h => absurd h (by decide +kernel)) (fun _ => ?_)
    refine sxs_nil ?_
    refine sxs_cons ?_
    walk_at "go"
    refine ⟨c.2, a, ws, s0 + 2, z, v, by simp, sm2.seq hS, hl, hzz, hs60, by have := hz z (List.mem_of_getElem? hzz); omega, hv, hne, fun H3 sm3 => ?_⟩
    walk_at "go"
    refine ⟨a, ws, s0, s0 + 3, by simp, (sm2.trans sm3).seq hS, hl, hz, by omega, hs3, fun H4 sm4 => ?_⟩
    refine sxs_cons ?_
    walk_at "go"
    refine ifD (fun h => absurd h (by decide +kernel)) (fun _ => ?_)
    refine sxs_nil ?_
    refine sxs_cons ?_
    walk_at "go"
    refine ifD (fun h => absurd h (by decide +kernel)) (fun _ => ?_)
    refine sxs_nil ?_
    refine sxs_cons ?_
    walk_at "go"
    refine ifD (fun _ => ?_) (fun h => absurd rfl h)
    walk_at "go"
    refine ev_make M hr (by decide) (fun _ => rfl) xok_fn (by rfl) (by decide) (by rfl) (by rfl) ?_
    walk_at "go"
    intro y dx hy hdx hne'
    refine ⟨y, _, dx, [], betw ws s0 (s0 + 3), _, v, rfl, upd_same, T.k_OverSieve, T.na_OverSieve_text, T.na_OverSieve_place, T.na_OverSieve_value, by simp, fun G eG hG => ⟨rfl, ?_⟩⟩
    walk_at "go"
    refine ⟨by show 2 ≤ sizeLine; omega, fun p hp => ?_⟩
    have smG : Same H4 G := fun c o e => hG c o (ne_of_none e hy) (by rw [upd_ne (ne_of_none e hy), upd_ne (ne_of_none e hdx)]; exact e)
    have smp : Same G (upd G p (.tup [.ref y, .int (s0 + 3)])) := Same.upd hp
    exact q p _ ((((sm2.trans sm3).trans sm4).trans smG).trans smp) ⟨y, upd_same, dx, smp _ _ eG⟩
  | holds =>
    have M : CDef P w K mg base true 2 "HoldsSieve" (clsA mg "HoldsSieve") ["self", "text", "place", "value"] (spSvV K) := (f_ValueSieve_init T).make T.m_HoldsSieve T.oi_HoldsSieve
    refine sxs_cons ?_
    walk_at "go"
    refine ifD (fun _ => ?_) (fun h => absurd rfl h)
    rw [hh rfl]
    walk_at "go"
    rw [decide_eq_true rfl]
    walk_at "t"
    refine sxs_nil ?_
    refine sxs_cons ?_
    walk_at "go"
    refine ⟨"text", a, ws, s0 + 2, z, v, by simp, sm2.seq hS, hl, hzz, hs60, by have := hz z (List.mem_of_getElem? hzz); omega, by rw [← hh rfl]; exact hv, hne, fun H3 sm3 => ?_⟩
    walk_at "go"
    refine ⟨a, ws, s0, s0 + 3, by simp, (sm2.trans sm3).seq hS, hl, hz, by omega, hs3, fun H4 sm4 => ?_⟩
    refine sxs_cons ?_
    walk_at "go"
    refine ifD (fun h => absurd h (by decide +kernel)) (fun _ => ?_)
    refine sxs_nil ?_
    refine sxs_cons ?_
    walk_at "go"
    refine ifD (fun h => absurd h (by decide +kernel)) (fun _ => ?_)
    refine sxs_nil ?_
    refine sxs_cons ?_
    walk_at "go"
    refine ifD (fun h => absurd h (by decide +kernel)) (fun _ => ?_)
    walk_at "go"
    refine ev_make M hr (by decide) (fun _ => rfl) xok_fn (by rfl) (by decide) (by rfl) (by rfl) ?_
    walk_at "go"
    intro y dx hy hdx hne'
    refine ⟨y, _, dx, [], betw ws s0 (s0 + 3), _, v, rfl, upd_same, T.k_HoldsSieve, T.na_HoldsSieve_text, T.na_HoldsSieve_place, T.na_HoldsSieve_value, by simp, fun G eG hG => ⟨rfl, ?_⟩⟩
    walk_at "go"
    refine ⟨by show 2 ≤ sizeLine; omega, fun p hp => ?_⟩
    have smG : Same H4 G := fun c o e => hG c o (ne_of_none e hy) (by rw [upd_ne (ne_of_none e hy), upd_ne (ne_of_none e hdx)]; exact e)
    have smp : Same G (upd G p (.tup [.ref y, .int (s0 + 3)])) := Same.upd hp
    exact q p _ ((((sm2.trans sm3).trans sm4).trans smG).trans smp) ⟨y, upd_same, dx, smp _ _ eG⟩
end
end K08

namespace K08
open PySem L2 PyProof.Rows My Vl Lw
section
variable {P : Program} {w : World} {K : PySem.W.Frag} {mg : Str → Option Value} {base : Heap}
def Reads1 (cs : List Col) (ws : List Str) (s : Nat) : Sv1 → Nat → Prop
  | .all, n => ws[s]? = some "all" ∧ n = s + 1
  | .none i, n => ws[s]? = some "none" ∧ s + 2 ≤ ws.length ∧ colAt cs ws (s + 1) = some i ∧ n = s + 2
  | .look l i v, n => s + 3 ≤ ws.length ∧ s + 2 < 60 ∧ ws[s]? = some (wordL l) ∧ colAt cs ws (s + 1) = some i ∧ (∃ c z, cs[i]? = some c ∧ (l = .holds → c.2 = "text") ∧ ws[s + 2]? = some z ∧ readV c.2 z = some v) ∧ (¬ v = .non) ∧ n = s + 3
theorem betw_one {ws : List Str} {s : Nat} {z : Str} (h : ws[s]? = some z) : betw ws s (s + 1) = z := by
  unfold betw
  have e : (ws.drop s).take (s + 1 - s) = [z] := by
    rw [show s + 1 - s = 1 by omega, drop_get h]
    rfl
  rw [e]
  exact join_one _ z
def spPart1 (K : PySem.W.Frag) (mg : Str → Option Value) : Sp := fun vs H Q _ => ∃ (b : Addr) (cs : List Col) (a : Addr) (ws : List Str) (s n : Nat) (k : Int) (sv : Sv1), vs = [.ref b, .ref a, .int s, .int k] ∧ Cols H b cs ∧ SqL K H a (ws.map V.str) ∧ ws.length ≤ 4000 ∧ (∀ z ∈ ws, z.length ≤ 1000) ∧ s < 60 ∧ Reads1 cs ws s sv n ∧
  ∀ p H', Same H H' → PairAt mg H' p sv (betw ws s n) n → Q (.ref p) H'
theorem d_read_part1 (T : Txt K mg) : Def P w K mg base true 8 "read_part" ["columns", "words", "start", "within"] (spPart1 K mg) := by
  refine df_read_part T (fun vs H Q E h => by obtain ⟨b, cs, a, ws, s, n, k, sv, rfl, _⟩ := h; rfl) (fun f cdv A outer s H vs Q E hr h => ?_)
  obtain ⟨b, cs, a, ws, s0, n, k, sv, rfl, hC, hS, hl, hz, hs60, hrd, q⟩ := h
  have nd := sc_read_part.nd
  have hsz : sizeLine = 16777216 := sizeLine_eq
  have g1 := T.g_HOLDS
  have g2 := T.g_ALL
  have g3 := T.g_IS
  have g4 := T.g_UNDER
  have g5 := T.g_OVER
  have g6 := T.g_NONE
  have D1 : Def P w K mg base true 3 "word_at" ["words", "place"] (spWordAt K mg) := d_word_at T
  have D2 : Def P w K mg base true 5 "read_none" ["columns", "words", "start"] (spRNone K mg) := d_read_none T
  have D3 : Def P w K mg base true 7 "read_of_value" ["columns", "words", "start"] (spRVal K mg) := d_read_of_value T
  have M : CDef P w K mg base true 1 "AllSieve" (clsA mg "AllSieve") ["self", "text"] (spSvI K) := f_Sieve_init.make T.m_AllSieve T.oi_AllSieve
  have hw : ∃ z, ws[s0]? = some z := by
    cases sv with
    | all => exact ⟨_, hrd.1⟩
    | none i => exact ⟨_, hrd.1⟩
    | look l i v => exact ⟨_, hrd.2.2.1⟩
  obtain ⟨z0, hw⟩ := hw
  have hlt := (List.getElem?_eq_some_iff.mp hw).1
  refine sxs_cons ?_
  walk_at "go"
  refine ⟨a, ws, s0, rfl, hS, hl, by omega, fun hb => absurd ⟨hlt, hs60⟩ hb, fun z' hz' _ => ?_⟩
  rw [hw] at hz'
  cases hz'
  refine sxs_cons ?_
  walk_at "go"
  cases sv with
  | all =>
    obtain ⟨h1, rfl⟩ := hrd
    rw [hw] at h1
    cases h1
    refine ifD (fun _ => ?_) (fun h => absurd rfl h)
    walk_at "go"
    refine ev_make M hr (by decide) (fun _ => rfl) xok_fn (by rfl) (by decide) (by rfl) (by rfl) ?_
    walk_at "go"
    intro y dx hy hdx hne
    refine ⟨y, _, dx, [], _, rfl, upd_same, T.k_AllSieve, T.na_AllSieve_text, by simp, rfl, ?_⟩
    walk_at "go"
    refine ⟨by show 2 ≤ sizeLine; omega, fun p hp => ?_⟩
    generalize hG : upd (upd (upd H dx (.own y)) y (.ins (clsA mg "AllSieve") dx [])) y _ = G at hp ⊢
    have smG : Same H G := fun c o e => by
      rw [← hG, upd_ne (ne_of_none e hy), upd_ne (ne_of_none e hy), upd_ne (ne_of_none e hdx)]
      exact e
    have ey : G y = some (.ins (clsA mg "AllSieve") dx [("text", .str "all")]) := by
      rw [← hG]
      exact upd_same
    have smp : Same G (upd G p (.tup [.ref y, .int (s0 + 1)])) := Same.upd hp
    refine q p _ (smG.trans smp) ⟨y, upd_same, dx, ?_⟩
    rw [betw_one hw]
    exact smp _ _ ey
  | none i =>
    obtain ⟨h1, h2, h3, rfl⟩ := hrd
    rw [hw] at h1
    cases h1
    refine ifD (fun h => absurd h (by decide +kernel)) (fun _ => ?_)
    refine sxs_nil ?_
    refine sxs_cons ?_
    walk_at "go"
    refine ifD (fun _ => ?_) (fun h => absurd rfl h)
    walk_at "go"
    exact ⟨b, cs, a, ws, s0, i, rfl, hC, hS, hl, hz, h2, h3, fun p H' sm hp => q p H' sm hp⟩
  | look l i v =>
    obtain ⟨h1, h2, h3, h4, ⟨c, z, h5, h6, h7, h8⟩, h9, rfl⟩ := hrd
    rw [hw] at h3
    cases h3
    have e1 : ¬ V.str (wordL l) = V.str (Str.ofString "all") := by cases l <;> decide +kernel
    have e2 : ¬ V.str (wordL l) = V.str (Str.ofString "none") := by cases l <;> decide +kernel
    have e3 : inV (V.str (wordL l)) [V.str (Str.ofString "is"), V.str (Str.ofString "under"), V.str (Str.ofString "over"), V.str (Str.ofString "holds")] = true := by cases l <;> decide +kernel
    refine ifD (fun h => absurd h e1) (fun _ => ?_)
    refine sxs_nil ?_
    refine sxs_cons ?_
    walk_at "go"
    refine ifD (fun h => absurd h e2) (fun _ => ?_)
    refine sxs_nil ?_
    refine sxs_cons ?_
    walk_at "go"
    refine ⟨by show 4 ≤ sizeLine; omega, fun tp htp => ?_⟩
    refine o_inT (SqT.of upd_same) (by rfl) (by rfl) ?_
    rw [e3]
    have smt : Same H (upd H tp (.tup [.str "is", .str "under", .str "over", .str "holds"])) := Same.upd htp
    generalize upd H tp (.tup [.str "is", .str "under", .str "over", .str "holds"]) = H2 at smt ⊢
    walk_at "go"
    exact ⟨l, b, cs, a, ws, s0, i, c, z, v, rfl, hC.same smt, smt.seq hS, hl, hz, h1, h2, hw, h4, h5, h6, h7, h8, h9, fun p H' sm hp => q p H' (smt.trans sm) hp⟩
end
end K08

namespace K08
open PySem L2 PyProof.Rows My Vl Lw
section
variable {P : Program} {w : World} {K : PySem.W.Frag} {mg : Str → Option Value} {base : Heap}
theorem d__law_draw (T : Txt K mg) : Def P w K mg base true 1 "_law_draw" ["_law_script", "_law_k", "_law_many"] (spDraw K) := by
  refine df__law_draw T (fun vs H Q E h => by obtain ⟨a, ns, k, m, rfl, _⟩ := h; rfl) (fun f cdv A outer s H vs Q E hr h => ?_)
  obtain ⟨a, ns, k, m, rfl, hS, hl, hk0, hk1, hm, q⟩ := h
  have n1 := T.n_len
  have nd := sc__law_draw.nd
  have hlm : (ns.map V.int).length = ns.length := List.length_map ..
  refine sxs_cons ?_
  walk_at "go"
  rw [hlm]
  have fin : ∀ c : Int, c = cellF ns k → Q (.int ((c % 1000003 + 31 * k * k + 1) * 48271 % 999983 * 7919 % 524287 % m)) H := fun c e => by rw [e]; exact q
  refine ifD (fun h => ?_) (fun h => ?_)
  · walk_at "go"
    rw [hlm]
    walk_at "go"
    refine i_list hS (atI_map 0 (Int.emod_nonneg _ (by omega)) (Int.emod_lt_of_pos _ (by omega))) ?_
    walk_at "go"
    exact fin _ (by unfold cellF; rw [if_pos (by omega)])
  · walk_at "go"
    exact fin _ (by unfold cellF; rw [if_neg (by omega)])
end
end K08

namespace K08
open PySem L2 PyProof.Rows My Vl Lw
section
variable {P : Program} {w : World} {K : PySem.W.Frag} {mg : Str → Option Value} {base : Heap}
def spSvO (K : PySem.W.Frag) : Sp := fun vs H Q _ => ∃ (a C dx : Addr) (fs : List (Str × V)) (z : Str) (p : V), vs = [.ref a, .str z, p] ∧ H a = some (.ins C dx fs) ∧ Cls K C ∧ NoAttr K C "text" ∧ NoAttr K C "one" ∧ fs.length < 800 ∧
  Q .non (upd (upd H a (.ins C dx (putF "text" (.str z) fs))) a (.ins C dx (putF "one" p (putF "text" (.str z) fs))))
theorem f_NotSieve_init (T : Txt K mg) {cc : Bool} : FD P w K mg base cc 2 "__init__" "NotSieve.__init__" s_NotSieve___init__ ["self", "text", "one"] (spSvO K) := by
  refine ff_NotSieve___init__ (fun vs H Q E h => by obtain ⟨a, C, dx, fs, z, p, rfl, _⟩ := h; rfl) (fun f cdv A outer s H vs Q E hr h => ?_)
  obtain ⟨a, C, dx, fs, z, p, rfl, ha, hc, hn, hn2, hl, q⟩ := h
  have B : BDef P w K mg base cc 1 "Sieve" "__init__" ["self", "text"] (spSvI K) := f_Sieve_init.asked T.m_Sieve T.ob_Sieve___init__
  have hz := length_putF "text" (V.str z) fs
  refine sxs_cons (sx_expr (by rfl) ?_)
  refine ev_basem (pl := _) B hr (by decide) id xok_fn (by rfl) (by decide) (by rfl) (by rfl) (by rfl) ?_
  walk_at "go"
  refine ⟨a, C, dx, fs, z, rfl, ha, hc, hn, by omega, ?_⟩
  refine sxs_one (sx_setF (by rfl) ?_)
  walk_at "e"
  walk_at "e"
  exact ⟨a, C, dx, _, rfl, upd_same, hc, hn2, by omega, q⟩
def spSvP (K : PySem.W.Frag) : Sp := fun vs H Q _ => ∃ (a C dx : Addr) (fs : List (Str × V)) (z : Str) (p v : V), vs = [.ref a, .str z, p, v] ∧ H a = some (.ins C dx fs) ∧ Cls K C ∧ NoAttr K C "text" ∧ NoAttr K C "one" ∧ NoAttr K C "other" ∧ fs.length < 800 ∧
  ∀ H', H' a = some (.ins C dx (putF "other" v (putF "one" p (putF "text" (.str z) fs)))) → (∀ b o, b ≠ a → H b = some o → H' b = some o) → Q .non H'
theorem f_PairSieve_init (T : Txt K mg) {cc : Bool} : FD P w K mg base cc 2 "__init__" "PairSieve.__init__" s_PairSieve___init__ ["self", "text", "one", "other"] (spSvP K) := by
  refine ff_PairSieve___init__ (fun vs H Q E h => by obtain ⟨a, C, dx, fs, z, p, v, rfl, _⟩ := h; rfl) (fun f cdv A outer s H vs Q E hr h => ?_)
  obtain ⟨a, C, dx, fs, z, p, v, rfl, ha, hc, hn, hn2, hn3, hl, q⟩ := h
  have B : BDef P w K mg base cc 1 "Sieve" "__init__" ["self", "text"] (spSvI K) := f_Sieve_init.asked T.m_Sieve T.ob_Sieve___init__
  have hz := length_putF "text" (V.str z) fs
  have hz2 := length_putF "one" p (putF "text" (V.str z) fs)
  refine sxs_cons (sx_expr (by rfl) ?_)
  refine ev_basem (pl := _) B hr (by decide) id xok_fn (by rfl) (by decide) (by rfl) (by rfl) (by rfl) ?_
  walk_at "go"
  refine ⟨a, C, dx, fs, z, rfl, ha, hc, hn, by omega, ?_⟩
  refine sxs_cons (sx_setF (by rfl) ?_)
  walk_at "e"
  walk_at "e"
  refine ⟨a, C, dx, _, rfl, upd_same, hc, hn2, by omega, ?_⟩
  refine sxs_one (sx_setF (by rfl) ?_)
  walk_at "e"
  walk_at "e"
  refine ⟨a, C, dx, _, rfl, upd_same, hc, hn3, by omega, q _ upd_same fun b o hb e => ?_⟩
  rw [upd_ne hb, upd_ne hb, upd_ne hb]
  exact e
end
end K08
namespace K08
open PySem L2 PyProof.Rows My Vl Lw
section
variable {P : Program} {w : World} {K : PySem.W.Frag} {mg : Str → Option Value} {base : Heap}
/-! trees of sieves -/
inductive Tr
  | one (s : Sv1)
  | nt (t : Tr)
  | bo (t u : Tr)
  | ei (t u : Tr)
def Tr.dep : Tr → Nat
  | .one _ => 0
  | .nt t => t.dep + 1
  | .bo t u => max t.dep u.dep + 1
  | .ei t u => max t.dep u.dep + 1
def Reads (cs : List Col) (ws : List Str) : Tr → Nat → Nat → Prop
  | .one sv, s, e => s < 60 ∧ Reads1 cs ws s sv e
  | .nt t, s, e => s < 60 ∧ ws[s]? = some "not" ∧ Reads cs ws t (s + 1) e
  | .bo t u, s, e => s < 60 ∧ ws[s]? = some "both" ∧ ∃ m, Reads cs ws t (s + 1) m ∧ Reads cs ws u m e
  | .ei t u, s, e => s < 60 ∧ ws[s]? = some "either" ∧ ∃ m, Reads cs ws t (s + 1) m ∧ Reads cs ws u m e
theorem Reads1.le {cs : List Col} {ws : List Str} {s e : Nat} : ∀ {sv : Sv1}, Reads1 cs ws s sv e → s < e ∧ e ≤ ws.length
  | .all, h => by
    obtain ⟨h1, rfl⟩ := h
    have := (List.getElem?_eq_some_iff.mp h1).1
    omega
  | .none i, h => by
    obtain ⟨_, h2, _, rfl⟩ := h
    omega
  | .look l i v, h => by
    obtain ⟨h1, _, _, _, _, _, rfl⟩ := h
    omega
theorem Reads.le {cs : List Col} {ws : List Str} : ∀ {t : Tr} {s e : Nat}, Reads cs ws t s e → s < e ∧ e ≤ ws.length
  | .one sv, s, e, h => Reads1.le h.2
  | .nt t, s, e, h => by have := Reads.le (t := t) h.2.2; omega
  | .bo t u, s, e, h => by
    obtain ⟨_, _, m, h1, h2⟩ := h
    have := Reads.le (t := t) h1
    have := Reads.le (t := u) h2
    omega
  | .ei t u, s, e, h => by
    obtain ⟨_, _, m, h1, h2⟩ := h
    have := Reads.le (t := t) h1
    have := Reads.le (t := u) h2
    omega
def SvAt (mg : Str → Option Value) (H : Hp) : Tr → Addr → Str → Prop
  | .one s, a, z => SvAt1 mg H a s z
  | .nt t, a, z => ∃ dx b y, H a = some (.ins (clsA mg "NotSieve") dx [("text", .str z), ("one", .ref b)]) ∧ SvAt mg H t b y
  | .bo t u, a, z => ∃ dx b c y x, H a = some (.ins (clsA mg "BothSieve") dx [("text", .str z), ("one", .ref b), ("other", .ref c)]) ∧ SvAt mg H t b y ∧ SvAt mg H u c x
  | .ei t u, a, z => ∃ dx b c y x, H a = some (.ins (clsA mg "EitherSieve") dx [("text", .str z), ("one", .ref b), ("other", .ref c)]) ∧ SvAt mg H t b y ∧ SvAt mg H u c x
theorem SvAt.same {mg : Str → Option Value} {H H' : Hp} (e : Same H H') : ∀ {t : Tr} {a : Addr} {z : Str}, SvAt mg H t a z → SvAt mg H' t a z
  | .one s, a, z, h => SvAt1.same h e
  | .nt t, a, z, h => by
    obtain ⟨dx, b, y, h1, h2⟩ := h
    exact ⟨dx, b, y, e _ _ h1, SvAt.same e h2⟩
  | .bo t u, a, z, h => by
    obtain ⟨dx, b, c, y, x, h1, h2, h3⟩ := h
    exact ⟨dx, b, c, y, x, e _ _ h1, SvAt.same e h2, SvAt.same e h3⟩
  | .ei t u, a, z, h => by
    obtain ⟨dx, b, c, y, x, h1, h2, h3⟩ := h
    exact ⟨dx, b, c, y, x, e _ _ h1, SvAt.same e h2, SvAt.same e h3⟩
theorem def_imp {k : Nat} {x : Str} {ps : List Str} {sp sp' : Sp} (F : Def P w K mg base true k x ps sp) (h : ∀ vs H Q E, sp' vs H Q E → sp vs H Q E) : Def P w K mg base true k x ps sp' := by
  obtain ⟨f, fd, h1, h2, h3, h4⟩ := F.ex
  exact ⟨f, fd, h1, h2, h3, ⟨fun vs H Q E z => h4.len vs H Q E (h vs H Q E z), fun A outer s H args us vs Q E hr e0 bt r z => h4.run A outer s H args us vs Q E hr e0 bt r (h vs H Q E z)⟩⟩
def spPartT (K : PySem.W.Frag) (mg : Str → Option Value) (t : Tr) : Sp := fun vs H Q _ => ∃ (b : Addr) (cs : List Col) (a : Addr) (ws : List Str) (s e : Nat) (k : Int), vs = [.ref b, .ref a, .int s, .int k] ∧ Cols H b cs ∧ SqL K H a (ws.map V.str) ∧ ws.length ≤ 4000 ∧ (∀ z ∈ ws, z.length ≤ 1000) ∧ 0 ≤ k ∧ k + t.dep ≤ 20 ∧ Reads cs ws t s e ∧
  ∀ p v H', Same H H' → H' p = some (.tup [.ref v, .int e]) → SvAt mg H' t v (betw ws s e) → Q (.ref p) H'
def spOS (K : PySem.W.Frag) (mg : Str → Option Value) (t : Tr) : Sp := fun vs H Q _ => ∃ (b : Addr) (cs : List Col) (a : Addr) (ws : List Str) (s e : Nat) (k : Int), vs = [.ref b, .ref a, .int s, .int k] ∧ Cols H b cs ∧ SqL K H a (ws.map V.str) ∧ ws.length ≤ 4000 ∧ (∀ z ∈ ws, z.length ≤ 1000) ∧ 1 ≤ k ∧ k + t.dep ≤ 21 ∧ k ≤ 20 ∧ Reads cs ws t s e ∧
  ∀ p v H', Same H H' → H' p = some (.tup [.ref v, .int e]) → SvAt mg H' t v (betw ws s e) → Q (.ref p) H'
theorem p_one (T : Txt K mg) (sv : Sv1) : Def P w K mg base true 8 "read_part" ["columns", "words", "start", "within"] (spPartT K mg (.one sv)) := def_imp (d_read_part1 T) fun vs H Q E h => by
  obtain ⟨b, cs, a, ws, s, e, k, rfl, hC, hS, hl, hz, hk0, hk, hr, q⟩ := h
  refine ⟨b, cs, a, ws, s, e, k, sv, rfl, hC, hS, hl, hz, hr.1, hr.2, fun p H' sm hp => ?_⟩
  obtain ⟨v, h1, h2⟩ := hp
  exact q p v H' sm h1 h2
def rootW : Tr → Option Str
  | .one _ => none
  | .nt _ => some "not"
  | .bo _ _ => some "both"
  | .ei _ _ => some "either"
theorem root_at {cs : List Col} {ws : List Str} {t : Tr} {s e : Nat} {z : Str} (h : Reads cs ws t s e) (hw : rootW t = some z) : s < 60 ∧ ws[s]? = some z := by
  cases t with
  | one _ => cases hw
  | nt t => cases hw; exact ⟨h.1, h.2.1⟩
  | bo t u => cases hw; exact ⟨h.1, h.2.1⟩
  | ei t u => cases hw; exact ⟨h.1, h.2.1⟩
theorem root_in {t : Tr} {z : Str} (hw : rootW t = some z) : z = "not" ∨ z = "both" ∨ z = "either" := by
  cases t with
  | one _ => cases hw
  | nt t => cases hw; exact .inl rfl
  | bo t u => cases hw; exact .inr (.inl rfl)
  | ei t u => cases hw; exact .inr (.inr rfl)
theorem p_os (T : Txt K mg) {t : Tr} {z : Str} {lv : Nat} (hw : rootW t = some z) (h3 : 3 ≤ lv) (D : Def P w K mg base true lv "read_of_sieves" ["columns", "words", "start", "within"] (spOS K mg t)) : Def P w K mg base true (lv + 1) "read_part" ["columns", "words", "start", "within"] (spPartT K mg t) := by
  refine df_read_part T (fun vs H Q E h => by obtain ⟨b, cs, a, ws, s, e, k, rfl, _⟩ := h; rfl) (fun f cdv A outer s H vs Q E hr h => ?_)
  obtain ⟨b, cs, a, ws, s0, e, k, rfl, hC, hS, hl, hz, hk0, hk, hrd, q⟩ := h
  have nd := sc_read_part.nd
  have hsz : sizeLine = 16777216 := sizeLine_eq
  have g1 := T.g_HOLDS
  have g2 := T.g_ALL
  have g3 := T.g_IS
  have g4 := T.g_UNDER
  have g5 := T.g_OVER
  have g6 := T.g_NONE
  have g7 := T.g_NOT
  have g8 := T.g_BOTH
  have g9 := T.g_EITHER
  have D1 : Def P w K mg base true 3 "word_at" ["words", "place"] (spWordAt K mg) := d_word_at T
  obtain ⟨hs60, hws⟩ := root_at hrd hw
  have hlt := (List.getElem?_eq_some_iff.mp hws).1
  have hdep : 1 ≤ t.dep := by
    cases t with
    | one _ => cases hw
    | nt t => show 1 ≤ t.dep + 1; omega
    | bo t u => show 1 ≤ max t.dep u.dep + 1; omega
    | ei t u => show 1 ≤ max t.dep u.dep + 1; omega
  have e1 : ¬ V.str z = V.str (Str.ofString "all") := by rcases root_in hw with rfl | rfl | rfl <;> decide +kernel
  have e2 : ¬ V.str z = V.str (Str.ofString "none") := by rcases root_in hw with rfl | rfl | rfl <;> decide +kernel
  have e3 : inV (V.str z) [V.str (Str.ofString "is"), V.str (Str.ofString "under"), V.str (Str.ofString "over"), V.str (Str.ofString "holds")] = false := by rcases root_in hw with rfl | rfl | rfl <;> decide +kernel
  have e4 : inV (V.str z) [V.str (Str.ofString "not"), V.str (Str.ofString "both"), V.str (Str.ofString "either")] = true := by rcases root_in hw with rfl | rfl | rfl <;> decide +kernel
  refine sxs_cons ?_
  walk_at "s"
  walk_at "ex"
  refine ⟨a, ws, s0, rfl, hS, hl, by omega, fun hb => absurd ⟨hlt, hs60⟩ hb, fun z' hz' _ => ?_⟩
  rw [hws] at hz'
  cases hz'
  refine sxs_cons (sx_if ?_)
  walk_at "ex"
  refine ifD (fun h => absurd h e1) (fun _ => ?_)
  refine sxs_nil (sxs_cons (sx_if ?_))
  walk_at "ex"
  refine ifD (fun h => absurd h e2) (fun _ => ?_)
  refine sxs_nil (sxs_cons (sx_if ?_))
  walk_at "ex"
  refine ⟨by show 4 ≤ sizeLine; omega, fun tp htp => ?_⟩
  refine o_inT (SqT.of upd_same) (by rfl) (by rfl) ?_
  rw [e3]
  have smt : Same H (upd H tp (.tup [.str "is", .str "under", .str "over", .str "holds"])) := Same.upd htp
  generalize upd H tp (.tup [.str "is", .str "under", .str "over", .str "holds"]) = H2 at smt ⊢
  walk_at "ex"
  refine sxs_nil (sxs_cons (sx_if ?_))
  walk_at "ex"
  refine ⟨by show 3 ≤ sizeLine; omega, fun tq htq => ?_⟩
  refine o_inT (SqT.of upd_same) (by rfl) (by rfl) ?_
  rw [e4]
  have smq : Same H2 (upd H2 tq (.tup [.str "not", .str "both", .str "either"])) := Same.upd htq
  generalize upd H2 tq (.tup [.str "not", .str "both", .str "either"]) = H3 at smq ⊢
  walk_at "ex"
  have sm3 := smt.trans smq
  refine sxs_one (sx_ret ?_)
  walk_at "ex"
  exact ⟨b, cs, a, ws, s0, e, k + 1, rfl, hC.same sm3, sm3.seq hS, hl, hz, by omega, by omega, by omega, hrd, fun p v H' sm hp hv => q p v H' (sm3.trans sm) hp hv⟩
theorem os_nt (T : Txt K mg) {t : Tr} {lv l1 : Nat} (D1 : Def P w K mg base true l1 "read_part" ["columns", "words", "start", "within"] (spPartT K mg t)) (h1 : l1 ≤ lv) (h3 : 3 ≤ lv) : Def P w K mg base true (lv + 1) "read_of_sieves" ["columns", "words", "start", "within"] (spOS K mg (.nt t)) := by
  refine df_read_of_sieves T (fun vs H Q E h => by obtain ⟨b, cs, a, ws, s, e, k, rfl, _⟩ := h; rfl) (fun f cdv A outer s H vs Q E hr h => ?_)
  obtain ⟨b, cs, a, ws, s0, e, k, rfl, hC, hS, hl, hz, hk0, hk, hk20, hrd, q⟩ := h
  have nd := sc_read_of_sieves.nd
  have hsz : sizeLine = 16777216 := sizeLine_eq
  have g1 := T.g_MOST_WITHIN
  have g2 := T.g_NOT
  have g3 := T.g_BOTH
  have DB : Def P w K mg base true 1 "text_between" ["words", "start", "behind"] (spBetw K) := d_text_between T
  have hle := hrd.le
  have hd : k + (t.dep + 1 : Nat) ≤ 21 := hk
  obtain ⟨hs60, hws, hrt⟩ := hrd
  have hle1 := hrt.le
  have sw : SqL K H a (ws.map V.str) := hS
  have e1 : (s0 : Int) + 1 = ((s0 + 1 : Nat) : Int) := by omega
  refine sxs_cons (sx_if ?_)
  walk_at "ex"
  refine ifD (fun h => absurd h (by omega)) (fun _ => ?_)
  refine sxs_nil (sxs_cons ?_)
  walk_at "s"
  walk_at "ex"
  refine i_list sw (v := .str (Str.ofString "not")) (atI_nat (by rw [List.getElem?_map, hws]; rfl)) ?_
  refine sxs_cons (sx_setT (by rfl) (by rfl) ?_)
  walk_at "ex"
  rw [e1]
  refine ⟨b, cs, a, ws, s0 + 1, _, k, rfl, hC, hS, hl, hz, by omega, by omega, hrt, fun p1 v1 H1 sm1 hp1 hv1 => ?_⟩
  refine eg_tup (by rfl) (by rfl) (by rfl) (SqT.of hp1) (by rfl) (egs_cons (by rfl) (eg_name nd (by rfl) (.inl rfl) (.inl rfl) (egs_cons (by rfl) (eg_name nd (by rfl) (.inl rfl) (.inl rfl) (egs_nil ?_)))))
  refine sxs_cons (sx_if ?_)
  walk_at "ex"
  refine ifD (fun _ => ?_) (fun h => absurd rfl h)
  refine sxs_one (sx_ret ?_)
  have M : CDef P w K mg base true 2 "NotSieve" (clsA mg "NotSieve") ["self", "text", "one"] (spSvO K) := (f_NotSieve_init T).make T.m_NotSieve T.oi_NotSieve
  walk_at "ex"
  refine ev_make M hr (by omega) (fun _ => rfl) xok_fn (by rfl) (by decide) (by rfl) (by rfl) ?_
  walk_at "ex"
  refine ⟨a, ws, s0, e, rfl, sm1.seq hS, hl, hz, by omega, by omega, fun H2 sm2 => ?_⟩
  walk_at "ex"
  intro y dx hy hdx hne
  refine ⟨y, _, dx, [], _, _, rfl, upd_same, T.k_NotSieve, T.na_NotSieve_text, T.na_NotSieve_one, by simp, rfl, ?_⟩
  walk_at "ex"
  refine ⟨by show 2 ≤ sizeLine; omega, fun p hp => ?_⟩
  generalize hG : upd (upd (upd (upd H2 dx (.own y)) y (.ins (clsA mg "NotSieve") dx [])) y _) y _ = G at hp ⊢
  have smG : Same H2 G := fun c o e => by
    rw [← hG, upd_ne (ne_of_none e hy), upd_ne (ne_of_none e hy), upd_ne (ne_of_none e hy), upd_ne (ne_of_none e hdx)]
    exact e
  have ey : G y = some (.ins (clsA mg "NotSieve") dx [("text", .str (betw ws s0 e)), ("one", .ref v1)]) := by
    rw [← hG]
    exact upd_same
  have smp : Same G (upd G p (.tup [.ref y, .int e])) := Same.upd hp
  exact q p y _ (((sm1.trans sm2).trans smG).trans smp) upd_same ⟨dx, v1, _, smp _ _ ey, ((hv1.same sm2).same smG).same smp⟩
theorem os_bo (T : Txt K mg) {t u : Tr} {lv l1 l2 : Nat} (D1 : Def P w K mg base true l1 "read_part" ["columns", "words", "start", "within"] (spPartT K mg t)) (h1 : l1 ≤ lv) (D2 : True → Def P w K mg base true l2 "read_part" ["columns", "words", "start", "within"] (spPartT K mg u)) (h2 : l2 ≤ lv) (h3 : 3 ≤ lv) : Def P w K mg base true (lv + 1) "read_of_sieves" ["columns", "words", "start", "within"] (spOS K mg (.bo t u)) := by
  refine df_read_of_sieves T (fun vs H Q E h => by obtain ⟨b, cs, a, ws, s, e, k, rfl, _⟩ := h; rfl) (fun f cdv A outer s H vs Q E hr h => ?_)
  obtain ⟨b, cs, a, ws, s0, e, k, rfl, hC, hS, hl, hz, hk0, hk, hk20, hrd, q⟩ := h
  have nd := sc_read_of_sieves.nd
  have hsz : sizeLine = 16777216 := sizeLine_eq
  have g1 := T.g_MOST_WITHIN
  have g2 := T.g_NOT
  have g3 := T.g_BOTH
  have DB : Def P w K mg base true 1 "text_between" ["words", "start", "behind"] (spBetw K) := d_text_between T
  have hle := hrd.le
  have hd : k + (max t.dep u.dep + 1 : Nat) ≤ 21 := hk
  obtain ⟨hs60, hws, m, hrt, hru⟩ := hrd
  have hle2 := hru.le
  have hle1 := hrt.le
  have sw : SqL K H a (ws.map V.str) := hS
  have e1 : (s0 : Int) + 1 = ((s0 + 1 : Nat) : Int) := by omega
  refine sxs_cons (sx_if ?_)
  walk_at "ex"
  refine ifD (fun h => absurd h (by omega)) (fun _ => ?_)
  refine sxs_nil (sxs_cons ?_)
  walk_at "s"
  walk_at "ex"
  refine i_list sw (v := .str (Str.ofString "both")) (atI_nat (by rw [List.getElem?_map, hws]; rfl)) ?_
  refine sxs_cons (sx_setT (by rfl) (by rfl) ?_)
  walk_at "ex"
  rw [e1]
  refine ⟨b, cs, a, ws, s0 + 1, _, k, rfl, hC, hS, hl, hz, by omega, by omega, hrt, fun p1 v1 H1 sm1 hp1 hv1 => ?_⟩
  refine eg_tup (by rfl) (by rfl) (by rfl) (SqT.of hp1) (by rfl) (egs_cons (by rfl) (eg_name nd (by rfl) (.inl rfl) (.inl rfl) (egs_cons (by rfl) (eg_name nd (by rfl) (.inl rfl) (.inl rfl) (egs_nil ?_)))))
  refine sxs_cons (sx_if ?_)
  walk_at "ex"
  refine ifD (fun h => absurd h (by decide +kernel)) (fun _ => ?_)
  clear D1
  have D2 := D2 trivial
  refine sxs_nil (sxs_cons (sx_setT (by rfl) (by rfl) ?_))
  walk_at "ex"
  refine ⟨b, cs, a, ws, m, e, k, rfl, hC.same sm1, sm1.seq hS, hl, hz, by omega, by omega, hru, fun p2 v2 H2 sm2 hp2 hv2 => ?_⟩
  refine eg_tup (by rfl) (by rfl) (by rfl) (SqT.of hp2) (by rfl) (egs_cons (by rfl) (eg_name nd (by rfl) (.inl rfl) (.inl rfl) (egs_cons (by rfl) (eg_name nd (by rfl) (.inl rfl) (.inl rfl) (egs_nil ?_)))))
  have sm12 := sm1.trans sm2
  refine sxs_cons ?_
  walk_at "s"
  walk_at "ex"
  refine ⟨a, ws, s0, e, rfl, sm12.seq hS, hl, hz, by omega, by omega, fun H3 sm3 => ?_⟩
  have M : CDef P w K mg base true 2 "BothSieve" (clsA mg "BothSieve") ["self", "text", "one", "other"] (spSvP K) := (f_PairSieve_init T).make T.m_BothSieve T.oi_BothSieve
  refine sxs_cons (sx_if ?_)
  walk_at "ex"
  refine ifD (fun _ => ?_) (fun h => absurd rfl h)
  refine sxs_one (sx_ret ?_)
  walk_at "ex"
  refine ev_make M hr (by omega) (fun _ => rfl) xok_fn (by rfl) (by decide) (by rfl) (by rfl) ?_
  walk_at "ex"
  intro y dx hy hdx hne
  refine ⟨y, _, dx, [], _, _, _, rfl, upd_same, T.k_BothSieve, T.na_BothSieve_text, T.na_BothSieve_one, T.na_BothSieve_other, by simp, fun G ey keep => ⟨rfl, ?_⟩⟩
  walk_at "ex"
  refine ⟨by show 2 ≤ sizeLine; omega, fun p hp => ?_⟩
  have smG : Same H3 G := fun c o e => keep _ _ (ne_of_none e hy) (by rw [upd_ne (ne_of_none e hy), upd_ne (ne_of_none e hdx)]; exact e)
  have ey : G y = some (.ins (clsA mg "BothSieve") dx [("text", .str (betw ws s0 e)), ("one", .ref v1), ("other", .ref v2)]) := ey
  have smp : Same G (upd G p (.tup [.ref y, .int e])) := Same.upd hp
  have smx := (sm3.trans smG).trans smp
  exact q p y _ (sm12.trans smx) upd_same ⟨dx, v1, v2, _, _, smp _ _ ey, (hv1.same sm2).same smx, hv2.same smx⟩
theorem os_ei (T : Txt K mg) {t u : Tr} {lv l1 l2 : Nat} (D1 : Def P w K mg base true l1 "read_part" ["columns", "words", "start", "within"] (spPartT K mg t)) (h1 : l1 ≤ lv) (D2 : True → Def P w K mg base true l2 "read_part" ["columns", "words", "start", "within"] (spPartT K mg u)) (h2 : l2 ≤ lv) (h3 : 3 ≤ lv) : Def P w K mg base true (lv + 1) "read_of_sieves" ["columns", "words", "start", "within"] (spOS K mg (.ei t u)) := by
  refine df_read_of_sieves T (fun vs H Q E h => by obtain ⟨b, cs, a, ws, s, e, k, rfl, _⟩ := h; rfl) (fun f cdv A outer s H vs Q E hr h => ?_)
  obtain ⟨b, cs, a, ws, s0, e, k, rfl, hC, hS, hl, hz, hk0, hk, hk20, hrd, q⟩ := h
  have nd := sc_read_of_sieves.nd
  have hsz : sizeLine = 16777216 := sizeLine_eq
  have g1 := T.g_MOST_WITHIN
  have g2 := T.g_NOT
  have g3 := T.g_BOTH
  have DB : Def P w K mg base true 1 "text_between" ["words", "start", "behind"] (spBetw K) := d_text_between T
  have hle := hrd.le
  have hd : k + (max t.dep u.dep + 1 : Nat) ≤ 21 := hk
  obtain ⟨hs60, hws, m, hrt, hru⟩ := hrd
  have hle2 := hru.le
  have hle1 := hrt.le
  have sw : SqL K H a (ws.map V.str) := hS
  have e1 : (s0 : Int) + 1 = ((s0 + 1 : Nat) : Int) := by omega
  refine sxs_cons (sx_if ?_)
  walk_at "ex"
  refine ifD (fun h => absurd h (by omega)) (fun _ => ?_)
  refine sxs_nil (sxs_cons ?_)
  walk_at "s"
  walk_at "ex"
  refine i_list sw (v := .str (Str.ofString "either")) (atI_nat (by rw [List.getElem?_map, hws]; rfl)) ?_
  refine sxs_cons (sx_setT (by rfl) (by rfl) ?_)
  walk_at "ex"
  rw [e1]
  refine ⟨b, cs, a, ws, s0 + 1, _, k, rfl, hC, hS, hl, hz, by omega, by omega, hrt, fun p1 v1 H1 sm1 hp1 hv1 => ?_⟩
  refine eg_tup (by rfl) (by rfl) (by rfl) (SqT.of hp1) (by rfl) (egs_cons (by rfl) (eg_name nd (by rfl) (.inl rfl) (.inl rfl) (egs_cons (by rfl) (eg_name nd (by rfl) (.inl rfl) (.inl rfl) (egs_nil ?_)))))
  refine sxs_cons (sx_if ?_)
  walk_at "ex"
  refine ifD (fun h => absurd h (by decide +kernel)) (fun _ => ?_)
  clear D1
  have D2 := D2 trivial
  refine sxs_nil (sxs_cons (sx_setT (by rfl) (by rfl) ?_))
  walk_at "ex"
  refine ⟨b, cs, a, ws, m, e, k, rfl, hC.same sm1, sm1.seq hS, hl, hz, by omega, by omega, hru, fun p2 v2 H2 sm2 hp2 hv2 => ?_⟩
  refine eg_tup (by rfl) (by rfl) (by rfl) (SqT.of hp2) (by rfl) (egs_cons (by rfl) (eg_name nd (by rfl) (.inl rfl) (.inl rfl) (egs_cons (by rfl) (eg_name nd (by rfl) (.inl rfl) (.inl rfl) (egs_nil ?_)))))
  have sm12 := sm1.trans sm2
  refine sxs_cons ?_
  walk_at "s"
  walk_at "ex"
  refine ⟨a, ws, s0, e, rfl, sm12.seq hS, hl, hz, by omega, by omega, fun H3 sm3 => ?_⟩
  have M : CDef P w K mg base true 2 "EitherSieve" (clsA mg "EitherSieve") ["self", "text", "one", "other"] (spSvP K) := (f_PairSieve_init T).make T.m_EitherSieve T.oi_EitherSieve
  refine sxs_cons (sx_if ?_)
  walk_at "ex"
  refine ifD (fun h => absurd h (by decide +kernel)) (fun _ => ?_)
  refine sxs_nil (sxs_one (sx_ret ?_))
  walk_at "ex"
  refine ev_make M hr (by omega) (fun _ => rfl) xok_fn (by rfl) (by decide) (by rfl) (by rfl) ?_
  walk_at "ex"
  intro y dx hy hdx hne
  refine ⟨y, _, dx, [], _, _, _, rfl, upd_same, T.k_EitherSieve, T.na_EitherSieve_text, T.na_EitherSieve_one, T.na_EitherSieve_other, by simp, fun G ey keep => ⟨rfl, ?_⟩⟩
  walk_at "ex"
  refine ⟨by show 2 ≤ sizeLine; omega, fun p hp => ?_⟩
  have smG : Same H3 G := fun c o e => keep _ _ (ne_of_none e hy) (by rw [upd_ne (ne_of_none e hy), upd_ne (ne_of_none e hdx)]; exact e)
  have ey : G y = some (.ins (clsA mg "EitherSieve") dx [("text", .str (betw ws s0 e)), ("one", .ref v1), ("other", .ref v2)]) := ey
  have smp : Same G (upd G p (.tup [.ref y, .int e])) := Same.upd hp
  have smx := (sm3.trans smG).trans smp
  exact q p y _ (sm12.trans smx) upd_same ⟨dx, v1, v2, _, _, smp _ _ ey, (hv1.same sm2).same smx, hv2.same smx⟩
theorem d_part (T : Txt K mg) : ∀ t : Tr, Def P w K mg base true (8 + 2 * t.dep) "read_part" ["columns", "words", "start", "within"] (spPartT K mg t)
  | .one sv => p_one T sv
  | .nt t => by
    have h := p_os T (z := "not") (lv := 8 + 2 * t.dep + 1) rfl (by omega) (os_nt T (lv := 8 + 2 * t.dep) (d_part T t) (Nat.le_refl _) (by omega))
    have e : 8 + 2 * (Tr.nt t).dep = 8 + 2 * t.dep + 1 + 1 := by show 8 + 2 * (t.dep + 1) = _; omega
    rw [e]
    exact h
  | .bo t u => by
    have h := p_os T (z := "both") (lv := 8 + 2 * max t.dep u.dep + 1) rfl (by omega) (os_bo T (lv := 8 + 2 * max t.dep u.dep) (d_part T t) (by omega) (fun _ => d_part T u) (by omega) (by omega))
    have e : 8 + 2 * (Tr.bo t u).dep = 8 + 2 * max t.dep u.dep + 1 + 1 := by show 8 + 2 * (max t.dep u.dep + 1) = _; omega
    rw [e]
    exact h
  | .ei t u => by
    have h := p_os T (z := "either") (lv := 8 + 2 * max t.dep u.dep + 1) rfl (by omega) (os_ei T (lv := 8 + 2 * max t.dep u.dep) (d_part T t) (by omega) (fun _ => d_part T u) (by omega) (by omega))
    have e : 8 + 2 * (Tr.ei t u).dep = 8 + 2 * max t.dep u.dep + 1 + 1 := by show 8 + 2 * (max t.dep u.dep + 1) = _; omega
    rw [e]
    exact h
def spRSieveT (mg : Str → Option Value) (t : Tr) : Sp := fun vs H Q _ => ∃ (b : Addr) (cs : List Col) (z : Str), vs = [.ref b, .str z] ∧ Cols H b cs ∧ z.length ≤ 3000 ∧ (∀ y ∈ cutT 32 z, y.length ≤ 1000) ∧ t.dep ≤ 20 ∧ Reads cs (cutT 32 z) t 0 (cutT 32 z).length ∧ ∀ v H', Same H H' → SvAt mg H' t v (betw (cutT 32 z) 0 (cutT 32 z).length) → Q (.ref v) H'
theorem d_read_sieveT (T : Txt K mg) (t : Tr) : Def P w K mg base true (9 + 2 * t.dep) "read_sieve" ["columns", "text"] (spRSieveT mg t) := by
  have e9 : 9 + 2 * t.dep = (8 + 2 * t.dep) + 1 := by omega
  rw [e9]
  refine df_read_sieve T (fun vs H Q E h => by obtain ⟨b, cs, z, rfl, _⟩ := h; rfl) (fun f cdv A outer s H vs Q E hr h => ?_)
  obtain ⟨b, cs, z, rfl, hC, hz, hzs, hdp, hrd, q⟩ := h
  have nd := sc_read_sieve.nd
  have n1 := T.n_len
  have hsz : sizeLine = 16777216 := sizeLine_eq
  have D1 : Def P w K mg base true (8 + 2 * t.dep) "read_part" ["columns", "words", "start", "within"] (spPartT K mg t) := d_part T t
  have hcl := cutT_len 32 z
  refine sxs_cons ?_
  walk_at "s"
  refine ev_bm PySem.F.plainAttrs_str PySem.F.slot_str_split PySem.F.type_str_split (by rfl) (by rfl) (by rfl) (by rfl) (by rfl) ?_
  walk_at "go"
  refine m_split (c := 32) (by omega) fun p hp => ?_
  have sm1 : Same H (upd H p (.lst ((cutT 32 z).map V.str))) := Same.upd hp
  have ep : (upd H p (.lst ((cutT 32 z).map V.str))) p = some (.lst ((cutT 32 z).map V.str)) := upd_same
  generalize upd H p (.lst ((cutT 32 z).map V.str)) = H1 at sm1 ep ⊢
  refine sxs_cons (sx_setT (by rfl) (by rfl) ?_)
  walk_at "ex"
  refine ⟨b, cs, p, cutT 32 z, 0, _, 0, rfl, hC.same sm1, SqL.of ep, by omega, hzs, by decide, by omega, hrd, fun pr v H2 sm2 hpt hsv => ?_⟩
  refine eg_tup (by rfl) (by rfl) (by rfl) (SqT.of hpt) (by rfl) (egs_cons (by rfl) (eg_name nd (by rfl) (.inl rfl) (.inl rfl) (egs_cons (by rfl) (eg_name nd (by rfl) (.inl rfl) (.inl rfl) (egs_nil ?_)))))
  have SP2 : SqL K H2 p ((cutT 32 z).map V.str) := SqL.of (sm2 _ _ ep)
  have hlm : ((cutT 32 z).map V.str).length = (cutT 32 z).length := List.length_map ..
  refine sxs_cons ?_
  walk_at "go"
  rw [hlm]
  refine ifD (fun h => absurd h (by omega)) (fun _ => ?_)
  walk_at "go"
  exact q v H2 (sm1.trans sm2) hsv
end
end K08

namespace K08
open PySem L2 PyProof.Rows My Vl Lw
section
variable {P : Program} {w : World} {K : PySem.W.Frag} {mg : Str → Option Value} {base : Heap}
/-! sieves refused -/
def XNo (mg : Str → Option Value) (H : Hp) (E : XK) (n : Nat) : Prop := ∀ e b H', Same H H' → H' e = some (.xd [("at", .int n)]) → E (.ref (clsA mg "NoSieve")) (some e, b) H'
theorem XNo.same {mg : Str → Option Value} {H H' : Hp} {E : XK} {n : Nat} (h : XNo mg H E n) (s : Same H H') : XNo mg H' E n := fun e b G sm he => h e b G (s.trans sm) he
/-- no word that writes a value of the kind -/
def badV (kd : Str) (ws : List Str) (p : Nat) : Prop := ¬ (p < ws.length ∧ p < 60) ∨ ∃ z, ws[p]? = some z ∧ (readV kd z = none ∨ readV kd z = some .non)
def spRWordX (K : PySem.W.Frag) (mg : Str → Option Value) : Sp := fun vs H Q E => ∃ (kd : Str) (a : Addr) (ws : List Str) (p : Nat), vs = [.str kd, .ref a, .int p] ∧ SqL K H a (ws.map V.str) ∧ ws.length ≤ 4000 ∧ (∀ z ∈ ws, z.length ≤ 1000) ∧ p ≤ 100000 ∧ badV kd ws p ∧ XNo mg H E p
theorem d_read_wordX (T : Txt K mg) : Def P w K mg base true 6 "read_word" ["kind", "words", "place"] (spRWordX K mg) := by
  refine df_read_word T (fun vs H Q E h => by obtain ⟨kd, a, ws, p, rfl, _⟩ := h; rfl) (fun f cdv A outer s H vs Q E hr h => ?_)
  obtain ⟨kd, a, ws, p, rfl, hS, hl, hz, hp, hbad, q⟩ := h
  have nd := sc_read_word.nd
  have D1 : Def P w K mg base true 3 "word_at" ["words", "place"] (spWordAt K mg) := d_word_at T
  have D2 : Def P w K mg base true 5 "read_value" ["kind", "word"] (spReadV (.ref (clsA mg "NoValue"))) := d_read_value T
  refine sxs_cons ?_
  walk_at "s"
  walk_at "ex"
  refine ⟨a, ws, p, rfl, hS, hl, hp, fun hb e H' sm he => q e true H' sm he, fun z hz' h60 => ?_⟩
  have hlt := (List.getElem?_eq_some_iff.mp hz').1
  have hb2 : readV kd z = none ∨ readV kd z = some .non := by
    rcases hbad with hb | ⟨z', hz2, hb⟩
    · exact absurd ⟨hlt, h60⟩ hb
    · rw [hz'] at hz2
      cases hz2
      exact hb
  have hzl := hz z (List.mem_of_getElem? hz')
  refine sxs_cons ?_
  refine sx_try (fun σ c d H' => σ = [some (.str kd), some (.ref a), some (.int p), some (.str z), none] ∧ c = .ref (clsA mg "NoValue") ∧ d = (none, true) ∧ Same H H') rfl rfl (fun F pn xo po => ?_) (fun σ c d H' hK => ?_)
  · refine sxs_one ?_
    walk_at "s"
    walk_at "ex"
    refine ⟨kd, z, rfl, by omega, fun H' sm => ?_⟩
    rcases hb2 with hb | hb
    · rw [hb]
      exact ⟨rfl, rfl, rfl, sm⟩
    · rw [hb]
      refine sxs_nil ?_
      refine sxs_cons (sx_if ?_)
      walk_at "ex"
      refine sxs_one (sx_raiseI (d_NoSieve T (cc := true)) hr (by decide) (fun _ => rfl) xok_fn (by rfl) (by rfl) (by decide) (by rfl) (by rfl) ?_)
      walk_at "ex"
      exact ⟨p, rfl, by omega, fun e H2 sm2 he => q e true H2 (sm.trans sm2) he⟩
  · obtain ⟨rfl, rfl, rfl, sm⟩ := hK
    refine eh_fromI (k := 1) xok_fn rfl rfl (by rfl) T.m_NoValue (by decide) (exm_self T.c_NoValue) rfl (d_NoSieve T (cc := false)) hr (by decide) (by rfl) (by decide) (by rfl) (by rfl) (fun e pn => ?_)
    walk_at "ex"
    exact ⟨p, rfl, by omega, fun e H2 sm2 he => q e false H2 (sm.trans sm2) he⟩
def spRNoneX (K : PySem.W.Frag) (mg : Str → Option Value) : Sp := fun vs H Q E => ∃ (b : Addr) (cs : List Col) (a : Addr) (ws : List Str) (s : Nat), vs = [.ref b, .ref a, .int s] ∧ Cols H b cs ∧ SqL K H a (ws.map V.str) ∧ ws.length ≤ 4000 ∧ s ≤ 60 ∧ colAt cs ws (s + 1) = none ∧ XNo mg H E (s + 1)
theorem d_read_noneX (T : Txt K mg) : Def P w K mg base true 5 "read_none" ["columns", "words", "start"] (spRNoneX K mg) := by
  refine df_read_none T (fun vs H Q E h => by obtain ⟨b, cs, a, ws, s, rfl, _⟩ := h; rfl) (fun f cdv A outer s H vs Q E hr h => ?_)
  obtain ⟨b, cs, a, ws, s0, rfl, hC, hS, hl, hs, hi, q⟩ := h
  have nd := sc_read_none.nd
  have D1 : Def P w K mg base true 4 "read_column" ["columns", "words", "place"] (spColAt K mg) := d_read_column T
  refine sxs_cons ?_
  walk_at "s"
  walk_at "ex"
  exact ⟨b, cs, a, ws, s0 + 1, by simp, hC, hS, hl, by omega, fun _ e H' sm he => q e true H' sm he, fun i' H2 sm2 e => by rw [hi] at e; cases e⟩
/-- a look of which a word is not as told -/
inductive LookNo (cs : List Col) (ws : List Str) (s : Nat) (l : Lk) : Nat → Prop
  | col : colAt cs ws (s + 1) = none → LookNo cs ws s l (s + 1)
  | kind {i : Nat} {c : Col} : l = .holds → colAt cs ws (s + 1) = some i → cs[i]? = some c → c.2 ≠ "text" → LookNo cs ws s l (s + 1)
  | val {i : Nat} {c : Col} : colAt cs ws (s + 1) = some i → cs[i]? = some c → (l = .holds → c.2 = "text") → badV c.2 ws (s + 2) → LookNo cs ws s l (s + 2)
def spRValX (K : PySem.W.Frag) (mg : Str → Option Value) : Sp := fun vs H Q E => ∃ (l : Lk) (b : Addr) (cs : List Col) (a : Addr) (ws : List Str) (s n : Nat), vs = [.ref b, .ref a, .int s] ∧ Cols H b cs ∧ SqL K H a (ws.map V.str) ∧ ws.length ≤ 4000 ∧ (∀ z ∈ ws, z.length ≤ 1000) ∧ s ≤ 60 ∧ ws[s]? = some (wordL l) ∧ LookNo cs ws s l n ∧ XNo mg H E n
theorem d_read_of_valueX (T : Txt K mg) : Def P w K mg base true 7 "read_of_value" ["columns", "words", "start"] (spRValX K mg) := by
  refine df_read_of_value T (fun vs H Q E h => by obtain ⟨l, b, cs, a, ws, s, n, rfl, _⟩ := h; rfl) (fun f cdv A outer s H vs Q E hr h => ?_)
  obtain ⟨l, b, cs, a, ws, s0, n, rfl, hC, hS, hl, hz, hs, hw, hno, q⟩ := h
  have nd := sc_read_of_value.nd
  have g1 := T.g_HOLDS
  have g2 := T.g_TEXT
  have D1 : Def P w K mg base true 4 "read_column" ["columns", "words", "place"] (spColAt K mg) := d_read_column T
  have D3 : Def P w K mg base true 6 "read_word" ["kind", "words", "place"] (spRWordX K mg) := d_read_wordX T
  refine sxs_cons ?_
  walk_at "s"
  walk_at "ex"
  refine i_list hS (atI_nat (by rw [List.getElem?_map, hw]; rfl)) ?_
  refine sxs_cons ?_
  walk_at "s"
  walk_at "ex"
  cases hno with
  | col hi => exact ⟨b, cs, a, ws, s0 + 1, by simp, hC, hS, hl, by omega, fun _ e H' sm he => q e true H' sm he, fun i' H2 sm2 e => by rw [hi] at e; cases e⟩
  | @kind i c hh hi hc hk =>
    refine ⟨b, cs, a, ws, s0 + 1, by simp, hC, hS, hl, by omega, fun e => (by rw [hi] at e; cases e), fun i' H2 sm2 e => ?_⟩
    rw [hi] at e
    cases e
    subst hh
    obtain ⟨vs, hb, hvs⟩ := hC.same sm2
    obtain ⟨cv, gc, t, rfl, ht⟩ := hvs.get' hc
    refine sxs_cons ?_
    walk_at "s"
    walk_at "ex"
    refine i_list (SqL.of hb) (atI_nat gc) ?_
    walk_at "ex"
    refine i_tup (SqT.of ht) (show atI [V.str c.1, V.str c.2] 1 = some (V.str c.2) from rfl) ?_
    refine sxs_cons (sx_if ?_)
    walk_at "ex"
    refine ifD (fun _ => ?_) (fun h => absurd rfl h)
    walk_at "ex"
    refine ifN (fun _ => ?_) (fun h => absurd h ?_)
    · refine sxs_one (sx_raiseI (d_NoSieve T (cc := true)) hr (by decide) (fun _ => rfl) xok_fn (by rfl) (by rfl) (by decide) (by rfl) (by rfl) ?_)
      walk_at "ex"
      exact ⟨(s0 + 1 : Nat), by simp, by omega, fun e H3 sm3 he => q e true H3 (sm2.trans sm3) he⟩
    · intro e
      exact hk (V.str.inj e)
  | @val i c hi hc hh hbv =>
    refine ⟨b, cs, a, ws, s0 + 1, by simp, hC, hS, hl, by omega, fun e => (by rw [hi] at e; cases e), fun i' H2 sm2 e => ?_⟩
    rw [hi] at e
    cases e
    obtain ⟨vs, hb, hvs⟩ := hC.same sm2
    obtain ⟨cv, gc, t, rfl, ht⟩ := hvs.get' hc
    refine sxs_cons ?_
    walk_at "s"
    walk_at "ex"
    refine i_list (SqL.of hb) (atI_nat gc) ?_
    walk_at "ex"
    refine i_tup (SqT.of ht) (show atI [V.str c.1, V.str c.2] 1 = some (V.str c.2) from rfl) ?_
    have rest : SXs (CxF true P w K mg base N_read_of_value "read_of_value" (defScope s_read_of_value) f cdv A outer s H E) ((defBody s_read_of_value).drop 4) { nx := fun _ H' => Q .non H', rt := Q } [some (.ref b), some (.ref a), some (.int s0), some (.str (wordL l)), some (.int i), some (.str c.2), none, none] H2 := by
      refine sxs_cons ?_
      walk_at "s"
      walk_at "ex"
      exact ⟨c.2, a, ws, s0 + 2, by simp, sm2.seq hS, hl, hz, by omega, hbv, fun e b H3 sm3 he => q e b H3 (sm2.trans sm3) he⟩
    refine sxs_cons (sx_if ?_)
    walk_at "ex"
    refine ifD (fun h => ?_) (fun _ => ?_)
    · walk_at "ex"
      have hL : l = .holds := by cases l <;> first | rfl | exact absurd h (by decide +kernel)
      refine ifN (fun h2 => absurd (by rw [hh hL]) h2) (fun _ => ?_)
      exact sxs_nil rest
    · walk_at "ex"
      exact sxs_nil rest
theorem eqV_str {x y : Str} (h : eqV (V.str x) (V.str y) = true) : x = y := by simpa [eqV] using h
def W3 : List Str := ["not", "both", "either"]
def W9 : List Str := ["all", "none", "is", "under", "over", "holds", "not", "both", "either"]
/-- the words from s on, k sieves around them, are no sieve: n is the number of the first word that is not as told -/
inductive Fails (cs : List Col) (ws : List Str) : Nat → Nat → Nat → Prop
  | lack {k s : Nat} : ¬ (s < ws.length ∧ s < 60) → Fails cs ws k s s
  | odd {k s : Nat} {z : Str} : ws[s]? = some z → s < 60 → z ∉ W9 → Fails cs ws k s s
  | none {k s : Nat} : ws[s]? = some "none" → s < 60 → colAt cs ws (s + 1) = none → Fails cs ws k s (s + 1)
  | look {k s n : Nat} {l : Lk} : ws[s]? = some (wordL l) → s < 60 → LookNo cs ws s l n → Fails cs ws k s n
  | deep {k s : Nat} {z : Str} : ws[s]? = some z → s < 60 → z ∈ W3 → 20 ≤ k → Fails cs ws k s s
  | first {k s n : Nat} {z : Str} : ws[s]? = some z → s < 60 → z ∈ W3 → k < 20 → Fails cs ws (k + 1) (s + 1) n → Fails cs ws k s n
  | second {k s m n : Nat} {z : Str} {t : Tr} : ws[s]? = some z → s < 60 → (z = "both" ∨ z = "either") → k < 20 → Reads cs ws t (s + 1) m → k + 1 + t.dep ≤ 20 → Fails cs ws (k + 1) m n → Fails cs ws k s n
def spFail (K : PySem.W.Frag) (mg : Str → Option Value) (k : Nat) : Sp := fun vs H Q E => ∃ (b : Addr) (cs : List Col) (a : Addr) (ws : List Str) (s n : Nat), vs = [.ref b, .ref a, .int s, .int k] ∧ Cols H b cs ∧ SqL K H a (ws.map V.str) ∧ ws.length ≤ 4000 ∧ (∀ z ∈ ws, z.length ≤ 1000) ∧ s ≤ 5000 ∧ Fails cs ws k s n ∧ XNo mg H E n
/-- read_of_sieves, within k -/
def spOSF (K : PySem.W.Frag) (mg : Str → Option Value) (k : Nat) : Sp := fun vs H Q E => ∃ (b : Addr) (cs : List Col) (a : Addr) (ws : List Str) (s n : Nat) (z : Str), vs = [.ref b, .ref a, .int s, .int k] ∧ Cols H b cs ∧ SqL K H a (ws.map V.str) ∧ ws.length ≤ 4000 ∧ (∀ z ∈ ws, z.length ≤ 1000) ∧ s < 60 ∧ ws[s]? = some z ∧ z ∈ W3 ∧ XNo mg H E n ∧
  ((20 < k ∧ n = s) ∨ (k ≤ 20 ∧ (Fails cs ws k (s + 1) n ∨ ((z = "both" ∨ z = "either") ∧ ∃ t m, Reads cs ws t (s + 1) m ∧ k + t.dep ≤ 20 ∧ Fails cs ws k m n))))
theorem osf (T : Txt K mg) {k lv : Nat} (h3 : 3 ≤ lv) (hlv : k ≤ 20 → 8 + 2 * (20 - k) ≤ lv) (DF : k ≤ 20 → Def P w K mg base true lv "read_part" ["columns", "words", "start", "within"] (spFail K mg k)) : Def P w K mg base true (lv + 1) "read_of_sieves" ["columns", "words", "start", "within"] (spOSF K mg k) := by
  refine df_read_of_sieves T (fun vs H Q E h => by obtain ⟨b, cs, a, ws, s, n, z, rfl, _⟩ := h; rfl) (fun f cdv A outer s H vs Q E hr h => ?_)
  obtain ⟨b, cs, a, ws, s0, n, z, rfl, hC, hS, hl, hz, hs60, hws, hz3, q, hcase⟩ := h
  have nd := sc_read_of_sieves.nd
  have hsz : sizeLine = 16777216 := sizeLine_eq
  have g1 := T.g_MOST_WITHIN
  have g2 := T.g_NOT
  have sw : SqL K H a (ws.map V.str) := hS
  have e1 : (s0 : Int) + 1 = ((s0 + 1 : Nat) : Int) := by omega
  refine sxs_cons (sx_if ?_)
  walk_at "ex"
  rcases hcase with ⟨hk, rfl⟩ | ⟨hk, hcase⟩
  · refine ifD (fun _ => ?_) (fun h => absurd (by omega) h)
    refine sxs_one (sx_raiseI (d_NoSieve T (cc := true)) hr (by omega) (fun _ => rfl) xok_fn (by rfl) (by rfl) (by decide) (by rfl) (by rfl) ?_)
    walk_at "ex"
    exact ⟨n, rfl, by omega, fun e H2 sm2 he => q e true H2 sm2 he⟩
  · have D1 := DF hk
    refine ifD (fun h => absurd h (by omega)) (fun _ => ?_)
    refine sxs_nil (sxs_cons ?_)
    walk_at "s"
    walk_at "ex"
    refine i_list sw (v := .str z) (atI_nat (by rw [List.getElem?_map, hws]; rfl)) ?_
    rcases hcase with hf | ⟨hz2, t, m, hrt, hdp, hf⟩
    · refine sxs_cons (sx_setT (by rfl) (by rfl) ?_)
      walk_at "ex"
      rw [e1]
      exact ⟨b, cs, a, ws, s0 + 1, n, rfl, hC, hS, hl, hz, by omega, hf, q⟩
    · have hle := hrt.le
      have D2 : True → Def P w K mg base true lv "read_part" ["columns", "words", "start", "within"] (spFail K mg k) := fun _ => D1
      clear D1 DF
      have D0 : Def P w K mg base true (8 + 2 * t.dep) "read_part" ["columns", "words", "start", "within"] (spPartT K mg t) := d_part T t
      have hl2 := hlv hk
      have hl3 : 8 + 2 * t.dep ≤ lv := by omega
      refine sxs_cons (sx_setT (by rfl) (by rfl) ?_)
      walk_at "ex"
      rw [e1]
      refine ⟨b, cs, a, ws, s0 + 1, _, k, rfl, hC, hS, hl, hz, by omega, by omega, hrt, fun p1 v1 H1 sm1 hp1 hv1 => ?_⟩
      refine eg_tup (by rfl) (by rfl) (by rfl) (SqT.of hp1) (by rfl) (egs_cons (by rfl) (eg_name nd (by rfl) (.inl rfl) (.inl rfl) (egs_cons (by rfl) (eg_name nd (by rfl) (.inl rfl) (.inl rfl) (egs_nil ?_)))))
      refine sxs_cons (sx_if ?_)
      walk_at "ex"
      refine ifD (fun h => ?_) (fun _ => ?_)
      · have : z = "not" := by cases h; rfl
        rw [this] at hz2
        rcases hz2 with z | z <;> exact absurd z (by decide +kernel)
      clear D0
      have D2 := D2 trivial
      refine sxs_nil (sxs_cons (sx_setT (by rfl) (by rfl) ?_))
      walk_at "ex"
      exact ⟨b, cs, a, ws, m, n, rfl, hC.same sm1, sm1.seq hS, hl, hz, by omega, hf, q.same sm1⟩
theorem pf (T : Txt K mg) {k lv : Nat} (h8 : 7 ≤ lv) (DS : Def P w K mg base true lv "read_of_sieves" ["columns", "words", "start", "within"] (spOSF K mg (k + 1))) : Def P w K mg base true (lv + 1) "read_part" ["columns", "words", "start", "within"] (spFail K mg k) := by
  refine df_read_part T (fun vs H Q E h => by obtain ⟨b, cs, a, ws, s, n, rfl, _⟩ := h; rfl) (fun f cdv A outer s H vs Q E hr h => ?_)
  obtain ⟨b, cs, a, ws, s0, n, rfl, hC, hS, hl, hz, hs, hf, q⟩ := h
  have nd := sc_read_part.nd
  have hsz : sizeLine = 16777216 := sizeLine_eq
  have g1 := T.g_HOLDS
  have g2 := T.g_ALL
  have g3 := T.g_IS
  have g4 := T.g_UNDER
  have g5 := T.g_OVER
  have g6 := T.g_NONE
  have g7 := T.g_NOT
  have g8 := T.g_BOTH
  have g9 := T.g_EITHER
  have D1 : Def P w K mg base true 3 "word_at" ["words", "place"] (spWordAt K mg) := d_word_at T
  have D2 : Def P w K mg base true 5 "read_none" ["columns", "words", "start"] (spRNoneX K mg) := d_read_noneX T
  have D3 : Def P w K mg base true 7 "read_of_value" ["columns", "words", "start"] (spRValX K mg) := d_read_of_valueX T
  refine sxs_cons ?_
  walk_at "s"
  walk_at "ex"
  refine ⟨a, ws, s0, rfl, hS, hl, by omega, fun hb e H' sm he => ?_, fun z hw hs60 => ?_⟩
  · have hn : n = s0 := by
      cases hf with
      | lack _ => rfl
      | odd h1 h2 _ => exact absurd ⟨(List.getElem?_eq_some_iff.mp h1).1, h2⟩ hb
      | none h1 h2 _ => exact absurd ⟨(List.getElem?_eq_some_iff.mp h1).1, h2⟩ hb
      | look h1 h2 _ => exact absurd ⟨(List.getElem?_eq_some_iff.mp h1).1, h2⟩ hb
      | deep h1 h2 _ _ => rfl
      | first h1 h2 _ _ _ => exact absurd ⟨(List.getElem?_eq_some_iff.mp h1).1, h2⟩ hb
      | second h1 h2 _ _ _ _ _ => exact absurd ⟨(List.getElem?_eq_some_iff.mp h1).1, h2⟩ hb
    subst hn
    exact q e true H' sm he
  have hlt := (List.getElem?_eq_some_iff.mp hw).1
  have ek : ((k : Int) + 1) = ((k + 1 : Nat) : Int) := by omega
  -- the ways on
  have inA : ¬ z = "all" := by
    rintro rfl
    cases hf with
    | lack h => exact h ⟨hlt, hs60⟩
    | odd h1 _ h2 => rw [hw] at h1; cases h1; exact h2 (by decide +kernel)
    | none h1 => rw [hw] at h1; exact absurd h1 (by decide +kernel)
    | @look _ _ _ l h1 => rw [hw] at h1; cases l <;> exact absurd h1 (by decide +kernel)
    | deep h1 _ h2 => rw [hw] at h1; cases h1; exact absurd h2 (by decide +kernel)
    | first h1 _ h2 => rw [hw] at h1; cases h1; exact absurd h2 (by decide +kernel)
    | second h1 _ h2 => rw [hw] at h1; cases h1; rcases h2 with h2 | h2 <;> exact absurd h2 (by decide +kernel)
  refine sxs_cons (sx_if ?_)
  walk_at "ex"
  refine ifD (fun h => absurd (by cases h; rfl) inA) (fun _ => ?_)
  refine sxs_nil (sxs_cons (sx_if ?_))
  walk_at "ex"
  refine ifD (fun h => ?_) (fun hnn => ?_)
  · have hzn : z = "none" := by cases h; rfl
    subst hzn
    have hcol : colAt cs ws (s0 + 1) = none ∧ n = s0 + 1 := by
      cases hf with
      | lack h => exact absurd ⟨hlt, hs60⟩ h
      | odd h1 _ h2 => rw [hw] at h1; cases h1; exact absurd (by decide +kernel) h2
      | none h1 h2 h3 => exact ⟨h3, rfl⟩
      | @look _ _ _ l h1 => rw [hw] at h1; cases l <;> exact absurd h1 (by decide +kernel)
      | deep h1 _ h2 => rw [hw] at h1; cases h1; exact absurd h2 (by decide +kernel)
      | first h1 _ h2 => rw [hw] at h1; cases h1; exact absurd h2 (by decide +kernel)
      | second h1 _ h2 => rw [hw] at h1; cases h1; rcases h2 with h2 | h2 <;> exact absurd h2 (by decide +kernel)
    obtain ⟨hcol, rfl⟩ := hcol
    refine sxs_one (sx_ret ?_)
    walk_at "ex"
    exact ⟨b, cs, a, ws, s0, rfl, hC, hS, hl, by omega, hcol, q⟩
  have hnn : ¬ z = "none" := fun e => hnn (by rw [e])
  refine sxs_nil (sxs_cons (sx_if ?_))
  walk_at "ex"
  refine ⟨by show 4 ≤ sizeLine; omega, fun tp htp => ?_⟩
  refine o_inT (SqT.of upd_same) (by rfl) (by rfl) ?_
  have smt : Same H (upd H tp (.tup [.str "is", .str "under", .str "over", .str "holds"])) := Same.upd htp
  generalize upd H tp (.tup [.str "is", .str "under", .str "over", .str "holds"]) = H2 at smt ⊢
  by_cases hlk : ∃ l, z = wordL l
  · obtain ⟨l, rfl⟩ := hlk
    have e3 : inV (V.str (wordL l)) [V.str (Str.ofString "is"), V.str (Str.ofString "under"), V.str (Str.ofString "over"), V.str (Str.ofString "holds")] = true := by cases l <;> decide +kernel
    have hno : LookNo cs ws s0 l n := by
      cases hf with
      | lack h => exact absurd ⟨hlt, hs60⟩ h
      | odd h1 _ h2 => rw [hw] at h1; cases h1; exact absurd (by cases l <;> decide +kernel) h2
      | none h1 h2 h3 => rw [hw] at h1; cases l <;> exact absurd h1 (by decide +kernel)
      | @look _ _ _ l2 h1 _ h2 =>
        rw [hw] at h1
        have : l = l2 := by cases l <;> cases l2 <;> first | rfl | exact absurd h1 (by decide +kernel)
        subst this
        exact h2
      | deep h1 _ h2 => rw [hw] at h1; cases h1; cases l <;> exact absurd h2 (by decide +kernel)
      | first h1 _ h2 => rw [hw] at h1; cases h1; cases l <;> exact absurd h2 (by decide +kernel)
      | second h1 _ h2 => rw [hw] at h1; cases h1; cases l <;> rcases h2 with h2 | h2 <;> exact absurd h2 (by decide +kernel)
    rw [e3]
    walk_at "ex"
    refine sxs_one (sx_ret ?_)
    walk_at "ex"
    exact ⟨l, b, cs, a, ws, s0, n, rfl, hC.same smt, smt.seq hS, hl, hz, by omega, hw, hno, q.same smt⟩
  have e3 : inV (V.str z) [V.str (Str.ofString "is"), V.str (Str.ofString "under"), V.str (Str.ofString "over"), V.str (Str.ofString "holds")] = false := by
    refine Bool.eq_false_iff.mpr fun h => hlk ?_
    simp [inV] at h
    rcases h with h | h | h | h
    · exact ⟨.is, (eqV_str h).symm⟩
    · exact ⟨.under, (eqV_str h).symm⟩
    · exact ⟨.over, (eqV_str h).symm⟩
    · exact ⟨.holds, (eqV_str h).symm⟩
  rw [e3]
  walk_at "ex"
  refine sxs_nil (sxs_cons (sx_if ?_))
  walk_at "ex"
  refine ⟨by show 3 ≤ sizeLine; omega, fun tq htq => ?_⟩
  refine o_inT (SqT.of upd_same) (by rfl) (by rfl) ?_
  have smq : Same H2 (upd H2 tq (.tup [.str "not", .str "both", .str "either"])) := Same.upd htq
  generalize upd H2 tq (.tup [.str "not", .str "both", .str "either"]) = H3 at smq ⊢
  have sm3 := smt.trans smq
  by_cases h3 : z ∈ W3
  · have e4 : inV (V.str z) [V.str (Str.ofString "not"), V.str (Str.ofString "both"), V.str (Str.ofString "either")] = true := by
      simp [W3] at h3
      rcases h3 with h | h | h <;> (rw [h]; decide +kernel)
    rw [e4]
    walk_at "ex"
    refine sxs_one (sx_ret ?_)
    walk_at "ex"
    rw [ek]
    refine ⟨b, cs, a, ws, s0, n, z, rfl, hC.same sm3, sm3.seq hS, hl, hz, hs60, hw, h3, q.same sm3, ?_⟩
    cases hf with
    | lack h => exact absurd ⟨hlt, hs60⟩ h
    | odd h1 _ h2 =>
      rw [hw] at h1
      cases h1
      simp [W3] at h3
      exact absurd (by rcases h3 with h | h | h <;> (rw [h]; decide +kernel)) h2
    | none h1 => rw [hw] at h1; cases h1; exact absurd rfl hnn
    | look h1 => rw [hw] at h1; cases h1; exact absurd ⟨_, rfl⟩ hlk
    | deep h1 _ _ h2 => exact .inl ⟨by omega, rfl⟩
    | first h1 _ _ h2 h4 => exact .inr ⟨by omega, .inl h4⟩
    | second h1 _ h2 h4 h5 h6 h7 =>
      rw [hw] at h1
      cases h1
      exact .inr ⟨by omega, .inr ⟨h2, _, _, h5, h6, h7⟩⟩
  · have e4 : inV (V.str z) [V.str (Str.ofString "not"), V.str (Str.ofString "both"), V.str (Str.ofString "either")] = false := by
      refine Bool.eq_false_iff.mpr fun h => h3 ?_
      simp [inV] at h
      simp [W3]
      rcases h with h | h | h
      · exact .inl (eqV_str h).symm
      · exact .inr (.inl (eqV_str h).symm)
      · exact .inr (.inr (eqV_str h).symm)
    rw [e4]
    walk_at "ex"
    have hn : n = s0 := by
      cases hf with
      | lack _ => rfl
      | odd h1 h2 _ => rfl
      | none h1 => rw [hw] at h1; cases h1; exact absurd rfl hnn
      | look h1 => rw [hw] at h1; cases h1; exact absurd ⟨_, rfl⟩ hlk
      | deep h1 h2 _ _ => rfl
      | first h1 _ h2 => rw [hw] at h1; cases h1; exact absurd h2 h3
      | second h1 _ h2 =>
        rw [hw] at h1
        cases h1
        exact absurd (by rcases h2 with h | h <;> (rw [h]; decide +kernel)) h3
    subst hn
    refine sxs_nil (sxs_one (sx_raiseI (d_NoSieve T (cc := true)) hr (by omega) (fun _ => rfl) xok_fn (by rfl) (by rfl) (by decide) (by rfl) (by rfl) ?_))
    walk_at "ex"
    exact ⟨n, rfl, by omega, fun e H4 sm4 he => q e true H4 (sm3.trans sm4) he⟩
theorem d_fail (T : Txt K mg) : ∀ j k : Nat, 20 - k = j → Def P w K mg base true (10 + 2 * j) "read_part" ["columns", "words", "start", "within"] (spFail K mg k)
  | 0, k, hj => pf T (lv := 9) (by omega) (osf T (k := k + 1) (lv := 8) (by omega) (fun h => absurd h (by omega)) (fun h => absurd h (by omega)))
  | j + 1, k, hj => by
    have ih : Def P w K mg base true (10 + 2 * j) "read_part" ["columns", "words", "start", "within"] (spFail K mg (k + 1)) := d_fail T j (k + 1) (by omega)
    have h := pf T (k := k) (lv := 10 + 2 * j + 1) (by omega) (osf T (k := k + 1) (lv := 10 + 2 * j) (by omega) (fun _ => by omega) (fun _ => ih))
    have e : 10 + 2 * (j + 1) = 10 + 2 * j + 1 + 1 := by omega
    rw [e]
    exact h
def spRSieveX (mg : Str → Option Value) : Sp := fun vs H Q E => ∃ (b : Addr) (cs : List Col) (z : Str) (n : Nat), vs = [.ref b, .str z] ∧ Cols H b cs ∧ z.length ≤ 3000 ∧ (∀ y ∈ cutT 32 z, y.length ≤ 1000) ∧ (Fails cs (cutT 32 z) 0 0 n ∨ ∃ t, t.dep ≤ 20 ∧ Reads cs (cutT 32 z) t 0 n ∧ n < (cutT 32 z).length) ∧ XNo mg H E n
theorem d_read_sieveX (T : Txt K mg) : Def P w K mg base true 51 "read_sieve" ["columns", "text"] (spRSieveX mg) := by
  refine df_read_sieve T (fun vs H Q E h => by obtain ⟨b, cs, z, n, rfl, _⟩ := h; rfl) (fun f cdv A outer s H vs Q E hr h => ?_)
  obtain ⟨b, cs, z, n, rfl, hC, hz, hzs, hcase, q⟩ := h
  have nd := sc_read_sieve.nd
  have n1 := T.n_len
  have hsz : sizeLine = 16777216 := sizeLine_eq
  have hcl := cutT_len 32 z
  refine sxs_cons ?_
  walk_at "s"
  refine ev_bm PySem.F.plainAttrs_str PySem.F.slot_str_split PySem.F.type_str_split (by rfl) (by rfl) (by rfl) (by rfl) (by rfl) ?_
  walk_at "go"
  refine m_split (c := 32) (by omega) fun p hp => ?_
  have sm1 : Same H (upd H p (.lst ((cutT 32 z).map V.str))) := Same.upd hp
  have ep : (upd H p (.lst ((cutT 32 z).map V.str))) p = some (.lst ((cutT 32 z).map V.str)) := upd_same
  generalize upd H p (.lst ((cutT 32 z).map V.str)) = H1 at sm1 ep ⊢
  rcases hcase with hf | ⟨t, hdp, hrd, hlt⟩
  · have D1 : Def P w K mg base true 50 "read_part" ["columns", "words", "start", "within"] (spFail K mg 0) := d_fail T 20 0 rfl
    refine sxs_cons (sx_setT (by rfl) (by rfl) ?_)
    walk_at "ex"
    exact ⟨b, cs, p, cutT 32 z, 0, n, rfl, hC.same sm1, SqL.of ep, by omega, hzs, by omega, hf, q.same sm1⟩
  · have D1 : Def P w K mg base true (8 + 2 * t.dep) "read_part" ["columns", "words", "start", "within"] (spPartT K mg t) := d_part T t
    refine sxs_cons (sx_setT (by rfl) (by rfl) ?_)
    walk_at "ex"
    refine ⟨b, cs, p, cutT 32 z, 0, _, 0, rfl, hC.same sm1, SqL.of ep, by omega, hzs, by decide, by omega, hrd, fun pr v H2 sm2 hpt hsv => ?_⟩
    refine eg_tup (by rfl) (by rfl) (by rfl) (SqT.of hpt) (by rfl) (egs_cons (by rfl) (eg_name nd (by rfl) (.inl rfl) (.inl rfl) (egs_cons (by rfl) (eg_name nd (by rfl) (.inl rfl) (.inl rfl) (egs_nil ?_)))))
    have SP2 : SqL K H2 p ((cutT 32 z).map V.str) := SqL.of (sm2 _ _ ep)
    have hlm : ((cutT 32 z).map V.str).length = (cutT 32 z).length := List.length_map ..
    refine sxs_cons (sx_if ?_)
    walk_at "ex"
    rw [hlm]
    refine ifD (fun _ => ?_) (fun h => absurd (by omega) h)
    refine sxs_one (sx_raiseI (d_NoSieve T (cc := true)) hr (by omega) (fun _ => rfl) xok_fn (by rfl) (by rfl) (by decide) (by rfl) (by rfl) ?_)
    walk_at "ex"
    exact ⟨n, rfl, by omega, fun e H3 sm3 he => q e true H3 ((sm1.trans sm2).trans sm3) he⟩
end
end K08

namespace K08
open PySem L2 PyProof.Rows My Vl Lw
section
variable {P : Program} {w : World} {K : PySem.W.Frag} {mg : Str → Option Value} {base : Heap}
/-! words of trees -/
def leafW (nm : Nat → Str) : Sv1 → List Str
  | .all => ["all"]
  | .none p => ["none", nm p]
  | .look l p v => [wordL l, nm p, wordOf v]
def wT (nm : Nat → Str) : Tr → List Str
  | .one s => leafW nm s
  | .nt t => "not" :: wT nm t
  | .bo t u => "both" :: (wT nm t ++ wT nm u)
  | .ei t u => "either" :: (wT nm t ++ wT nm u)
def goodS : Sv1 → Prop
  | .all => True
  | .none p => p < 3
  | .look l p v => ((l = .is ∨ l = .under ∨ l = .over) ∧ (p = 0 ∨ p = 2) ∧ ∃ n : Int, v = .int n ∧ -2 ≤ n ∧ n ≤ 2) ∨ (True ∧ p = 1 ∧ ∃ z, v = .str z ∧ z.length ≤ 20 ∧ ∀ c ∈ z.cps.toList, c ∈ SG)
def goodT : Tr → Prop
  | .one s => goodS s
  | .nt t => goodT t
  | .bo t u => goodT t ∧ goodT u
  | .ei t u => goodT t ∧ goodT u
def cs3 (nm : Nat → Str) : List Col := [(nm 0, "number"), (nm 1, "text"), (nm 2, "number")]
structure NmOk (nm : Nat → Str) : Prop where
  h01 : nm 0 ≠ nm 1
  h02 : nm 0 ≠ nm 2
  h12 : nm 1 ≠ nm 2
  len : ∀ p, p < 3 → (nm p).length ≤ 20
  bl : ∀ p, p < 3 → 32 ∉ (nm p).cps.toList
def AtW (nm : Nat → Str) (ws : List Str) (t : Tr) (s : Nat) : Prop := ∃ post, ws.drop s = wT nm t ++ post
theorem drop_cons {α : Type} {ws r : List α} {s : Nat} {x : α} (h : ws.drop s = x :: r) : ws[s]? = some x ∧ ws.drop (s + 1) = r := by
  have hs : s < ws.length := by
    have h2 : (ws.drop s).length = (x :: r).length := by rw [h]
    rw [List.length_drop, List.length_cons] at h2
    omega
  rw [List.drop_eq_getElem_cons hs] at h
  injection h with h1 h2
  exact ⟨by rw [List.getElem?_eq_getElem hs, h1], h2⟩
theorem drop_app {α : Type} {ws a r : List α} {s : Nat} (h : ws.drop s = a ++ r) : ws.drop (s + a.length) = r := by
  rw [← List.drop_drop, h]
  simp
theorem drop_len {α : Type} {ws a r : List α} {s : Nat} (h : ws.drop s = a ++ r) (ha : a ≠ []) : s + a.length ≤ ws.length := by
  have h2 : (ws.drop s).length = (a ++ r).length := by rw [h]
  rw [List.length_drop, List.length_append] at h2
  have : 0 < a.length := List.length_pos_iff.mpr ha
  omega
theorem leafW_ne (nm : Nat → Str) (s : Sv1) : leafW nm s ≠ [] := by cases s <;> simp [leafW]
theorem wT_ne (nm : Nat → Str) (t : Tr) : wT nm t ≠ [] := by
  cases t with
  | one s => exact leafW_ne nm s
  | nt t => simp [wT]
  | bo t u => simp [wT]
  | ei t u => simp [wT]
theorem placeN3 {nm : Nat → Str} (h : NmOk nm) : ∀ {p : Nat}, p < 3 → placeN (cs3 nm) (nm p) = p
  | 0, _ => by
    show (if nm 0 = nm 0 then 0 else _) = 0
    rw [if_pos rfl]
  | 1, _ => by
    show (if nm 0 = nm 1 then 0 else (if nm 1 = nm 1 then 0 else _) + 1) = 1
    rw [if_neg h.h01, if_pos rfl]
  | 2, _ => by
    show (if nm 0 = nm 2 then 0 else (if nm 1 = nm 2 then 0 else (if nm 2 = nm 2 then 0 else _) + 1) + 1) = 2
    rw [if_neg h.h02, if_neg h.h12, if_pos rfl]
  | _ + 3, hp => absurd hp (by omega)
theorem col3 {nm : Nat → Str} (h : NmOk nm) {ws : List Str} {p s : Nat} (hp : p < 3) (hs : s < 60) (e : ws[s]? = some (nm p)) : colAt (cs3 nm) ws s = some p := by
  unfold colAt
  rw [if_pos hs, e]
  have ha : (cs3 nm).any (fun c => decide (c.1 = nm p)) = true := by
    rw [List.any_eq_true]
    match p, hp with
    | 0, _ => exact ⟨(nm 0, "number"), by simp [cs3], decide_eq_true rfl⟩
    | 1, _ => exact ⟨(nm 1, "text"), by simp [cs3], decide_eq_true rfl⟩
    | 2, _ => exact ⟨(nm 2, "number"), by simp [cs3], decide_eq_true rfl⟩
  show (if (cs3 nm).any (fun c => decide (c.1 = nm p)) = true then some (placeN (cs3 nm) (nm p)) else none) = some p
  rw [if_pos ha, placeN3 h hp]
theorem reads_leaf {nm : Nat → Str} (h : NmOk nm) {ws post : List Str} {s : Nat} : ∀ {sv : Sv1}, ws.drop s = leafW nm sv ++ post → s + (leafW nm sv).length ≤ 60 → goodS sv → Reads1 (cs3 nm) ws s sv (s + (leafW nm sv).length)
  | .all, e, hl, _ => ⟨(drop_cons (r := post) e).1, rfl⟩
  | .none p, e, hl, hg => by
    obtain ⟨e1, e2⟩ := drop_cons (r := [nm p] ++ post) e
    obtain ⟨e3, _⟩ := drop_cons (r := post) e2
    have hln := drop_len e (leafW_ne nm (.none p))
    have hl' : s + 2 ≤ 60 := hl
    exact ⟨e1, hln, col3 h hg (by omega) e3, rfl⟩
  | .look l p v, e, hl, hg => by
    obtain ⟨e1, e2⟩ := drop_cons (r := [nm p, wordOf v] ++ post) e
    obtain ⟨e3, e4⟩ := drop_cons (r := [wordOf v] ++ post) e2
    obtain ⟨e5, _⟩ := drop_cons (r := post) e4
    have hln := drop_len e (leafW_ne nm (.look l p v))
    have hl' : s + 3 ≤ 60 := hl
    have hp : p < 3 := by
      rcases hg with ⟨_, h1, _⟩ | ⟨_, h1, _⟩ <;> omega
    refine ⟨hln, by omega, e1, col3 h hp (by omega) e3, ?_, ?_, rfl⟩
    · rcases hg with ⟨hlk, h1, n, rfl, n0, n1⟩ | ⟨hlk, rfl, z, rfl, z0, z1⟩
      · have hc : ∃ c : Col, (cs3 nm)[p]? = some c ∧ c.2 = "number" := by
          rcases h1 with rfl | rfl
          · exact ⟨_, rfl, rfl⟩
          · exact ⟨_, rfl, rfl⟩
        obtain ⟨c, hc1, hc2⟩ := hc
        refine ⟨c, _, hc1, fun z => ?_, e5, by rw [hc2]; exact readV_int (by omega) (by omega)⟩
        rcases hlk with rfl | rfl | rfl <;> cases z
      · exact ⟨(nm 1, "text"), _, rfl, fun _ => rfl, e5, readV_str z0 z1⟩
    · rcases hg with ⟨_, _, n, rfl, _⟩ | ⟨_, _, z, rfl, _⟩ <;> nofun
theorem reads_of {nm : Nat → Str} (h : NmOk nm) {ws : List Str} : ∀ {t : Tr} {s : Nat}, AtW nm ws t s → s + (wT nm t).length ≤ 60 → goodT t → Reads (cs3 nm) ws t s (s + (wT nm t).length)
  | .one sv, s, e, hl, hg => by
    obtain ⟨post, e⟩ := e
    have hp : 0 < (leafW nm sv).length := List.length_pos_iff.mpr (leafW_ne nm sv)
    have hl' : s + (leafW nm sv).length ≤ 60 := hl
    exact ⟨by omega, reads_leaf h e hl hg⟩
  | .nt t, s, e, hl, hg => by
    obtain ⟨post, e⟩ := e
    obtain ⟨e1, e2⟩ := drop_cons (r := wT nm t ++ post) e
    have hl' : s + ((wT nm t).length + 1) ≤ 60 := hl
    refine ⟨by omega, e1, ?_⟩
    have := reads_of h (t := t) ⟨post, e2⟩ (by omega) hg
    have e3 : s + (wT nm (.nt t)).length = s + 1 + (wT nm t).length := by show s + ((wT nm t).length + 1) = _; omega
    rw [e3]
    exact this
  | .bo t u, s, e, hl, hg => by
    obtain ⟨post, e⟩ := e
    obtain ⟨e1, e2⟩ := drop_cons (r := (wT nm t ++ wT nm u) ++ post) e
    rw [List.append_assoc] at e2
    have e4 := drop_app e2
    have hl2 : (wT nm (.bo t u)).length = (wT nm t).length + (wT nm u).length + 1 := by show ((wT nm t ++ wT nm u).length + 1) = _; rw [List.length_append]
    rw [hl2] at hl ⊢
    refine ⟨by omega, e1, s + 1 + (wT nm t).length, reads_of h (t := t) ⟨_, e2⟩ (by omega) hg.1, ?_⟩
    have := reads_of h (t := u) ⟨_, e4⟩ (by omega) hg.2
    rw [show s + ((wT nm t).length + (wT nm u).length + 1) = s + 1 + (wT nm t).length + (wT nm u).length by omega]
    exact this
  | .ei t u, s, e, hl, hg => by
    obtain ⟨post, e⟩ := e
    obtain ⟨e1, e2⟩ := drop_cons (r := (wT nm t ++ wT nm u) ++ post) e
    rw [List.append_assoc] at e2
    have e4 := drop_app e2
    have hl2 : (wT nm (.ei t u)).length = (wT nm t).length + (wT nm u).length + 1 := by show ((wT nm t ++ wT nm u).length + 1) = _; rw [List.length_append]
    rw [hl2] at hl ⊢
    refine ⟨by omega, e1, s + 1 + (wT nm t).length, reads_of h (t := t) ⟨_, e2⟩ (by omega) hg.1, ?_⟩
    have := reads_of h (t := u) ⟨_, e4⟩ (by omega) hg.2
    rw [show s + ((wT nm t).length + (wT nm u).length + 1) = s + 1 + (wT nm t).length + (wT nm u).length by omega]
    exact this
end
end K08
namespace K08
open PySem L2 PyProof.Rows My Vl Lw
section
variable {P : Program} {w : World} {K : PySem.W.Frag} {mg : Str → Option Value} {base : Heap}
theorem leafW_len (nm : Nat → Str) (s : Sv1) : (leafW nm s).length ≤ 3 := by cases s <;> simp [leafW]
theorem leafW_short {nm : Nat → Str} (h : NmOk nm) : ∀ {s : Sv1}, goodS s → ∀ z ∈ leafW nm s, z.length ≤ 40 ∧ 32 ∉ z.cps.toList
  | .all, _, z, hz => by
    have : z = Str.ofString "all" := by simpa [leafW] using hz
    subst this
    exact ⟨by decide +kernel, by decide +kernel⟩
  | .none p, hg, z, hz => by
    have hz' : z = Str.ofString "none" ∨ z = nm p := by simpa [leafW] using hz
    rcases hz' with rfl | rfl
    · exact ⟨by decide +kernel, by decide +kernel⟩
    · have := h.len p hg
      exact ⟨by omega, h.bl p hg⟩
  | .look l p v, hg, z, hz => by
    have hz' : z = wordL l ∨ z = nm p ∨ z = wordOf v := by simpa [leafW] using hz
    have hp : p < 3 := by
      rcases hg with ⟨_, h1, _⟩ | ⟨_, h1, _⟩ <;> omega
    rcases hz' with rfl | rfl | rfl
    · cases l <;> exact ⟨by decide +kernel, by decide +kernel⟩
    · have := h.len p hp
      exact ⟨by omega, h.bl p hp⟩
    · rcases hg with ⟨_, _, n, rfl, n0, n1⟩ | ⟨_, _, y, rfl, y0, y1⟩
      · have hn : n = -2 ∨ n = -1 ∨ n = 0 ∨ n = 1 ∨ n = 2 := by omega
        rcases hn with rfl | rfl | rfl | rfl | rfl <;> exact ⟨by decide +kernel, by decide +kernel⟩
      · have la : (Str.ofString "'").length = 1 := by decide +kernel
        have hl := len_app (Str.ofString "'") y
        refine ⟨by show (Str.ofString "'" ++ y).length ≤ 40; omega, fun hc => ?_⟩
        have hc' : 32 ∈ (Str.ofString "'" ++ y).cps.toList := hc
        rw [cps_app, ap_code] at hc'
        rcases List.mem_append.mp hc' with hc | hc
        · simp at hc
        · exact absurd (y1 32 hc) (by decide +kernel)
theorem wT_short {nm : Nat → Str} (h : NmOk nm) : ∀ {t : Tr}, goodT t → ∀ z ∈ wT nm t, z.length ≤ 40 ∧ 32 ∉ z.cps.toList
  | .one s, hg, z, hz => leafW_short h hg z hz
  | .nt t, hg, z, hz => by
    rcases List.mem_cons.mp hz with rfl | hz
    · exact ⟨by decide +kernel, by decide +kernel⟩
    · exact wT_short h (t := t) hg z hz
  | .bo t u, hg, z, hz => by
    rcases List.mem_cons.mp hz with rfl | hz
    · exact ⟨by decide +kernel, by decide +kernel⟩
    · rcases List.mem_append.mp hz with hz | hz
      · exact wT_short h hg.1 z hz
      · exact wT_short h hg.2 z hz
  | .ei t u, hg, z, hz => by
    rcases List.mem_cons.mp hz with rfl | hz
    · exact ⟨by decide +kernel, by decide +kernel⟩
    · rcases List.mem_append.mp hz with hz | hz
      · exact wT_short h hg.1 z hz
      · exact wT_short h hg.2 z hz
end
end K08

namespace K08
open PySem L2 PyProof.Rows My Vl Lw
section
variable {P : Program} {w : World} {K : PySem.W.Frag} {mg : Str → Option Value} {base : Heap}
/-! what each word of a tree is -/
inductive Rl | sieve | name | held | text | number
def Rl.s : Rl → Str
  | .sieve => "sieve"
  | .name => "name"
  | .held => "held"
  | .text => "text"
  | .number => "number"
def leafR : Sv1 → List Rl
  | .all => [.sieve]
  | .none _ => [.sieve, .name]
  | .look .holds _ _ => [.sieve, .held, .text]
  | .look _ p _ => [.sieve, .name, if p = 1 then .text else .number]
def rT : Tr → List Rl
  | .one s => leafR s
  | .nt t => .sieve :: rT t
  | .bo t u => .sieve :: (rT t ++ rT u)
  | .ei t u => .sieve :: (rT t ++ rT u)
theorem leafR_len (nm : Nat → Str) (s : Sv1) : (leafR s).length = (leafW nm s).length := by
  cases s with
  | all => rfl
  | none p => rfl
  | look l p v => cases l <;> rfl
theorem rT_len (nm : Nat → Str) : ∀ t : Tr, (rT t).length = (wT nm t).length
  | .one s => leafR_len nm s
  | .nt t => by show (rT t).length + 1 = (wT nm t).length + 1; rw [rT_len nm t]
  | .bo t u => by show (rT t ++ rT u).length + 1 = (wT nm t ++ wT nm u).length + 1; rw [List.length_append, List.length_append, rT_len nm t, rT_len nm u]
  | .ei t u => by show (rT t ++ rT u).length + 1 = (wT nm t ++ wT nm u).length + 1; rw [List.length_append, List.length_append, rT_len nm t, rT_len nm u]
/-- the words with what they are -/
def zipR (ws : List Str) (rs : List Rl) : List Col := List.zip ws (rs.map Rl.s)
theorem zipR_fst : ∀ {ws : List Str} {rs : List Rl}, rs.length = ws.length → (zipR ws rs).map Prod.fst = ws
  | [], [], _ => rfl
  | z :: ws, r :: rs, h => by
    show z :: (zipR ws rs).map Prod.fst = _
    rw [zipR_fst (by simpa using h)]
theorem zipR_app : ∀ {ws ws' : List Str} {rs rs' : List Rl}, rs.length = ws.length → zipR ws rs ++ zipR ws' rs' = zipR (ws ++ ws') (rs ++ rs')
  | [], _, [], _, _ => rfl
  | z :: ws, ws', r :: rs, rs', h => by
    show (z, r.s) :: (zipR ws rs ++ zipR ws' rs') = (z, r.s) :: zipR (ws ++ ws') (rs ++ rs')
    rw [zipR_app (by simpa using h)]
theorem zipR_get {ws : List Str} {rs : List Rl} {i : Nat} {c : Col} (h : rs.length = ws.length) (e : (zipR ws rs)[i]? = some c) : ∃ r, rs[i]? = some r ∧ c.2 = r.s ∧ ws[i]? = some c.1 := by
  unfold zipR at e
  rw [List.getElem?_zip_eq_some, List.getElem?_map] at e
  obtain ⟨e1, e2⟩ := e
  cases hr : rs[i]? with
  | none => rw [hr] at e2; cases e2
  | some r =>
    rw [hr] at e2
    exact ⟨r, rfl, (Option.some.inj e2).symm, e1⟩
theorem zipR_len {ws : List Str} {rs : List Rl} (h : rs.length = ws.length) : (zipR ws rs).length = ws.length := by
  unfold zipR
  rw [List.length_zip, List.length_map, h, Nat.min_self]
def wr (nm : Nat → Str) (t : Tr) : List Col := zipR (wT nm t) (rT t)
theorem wr_fst (nm : Nat → Str) (t : Tr) : (wr nm t).map Prod.fst = wT nm t := zipR_fst (rT_len nm t)
theorem wr_len (nm : Nat → Str) (t : Tr) : (wr nm t).length = (wT nm t).length := zipR_len (rT_len nm t)
/-- a word that is not as told where one of that sort stands -/
def badW (nm : Nat → Str) : Rl → Str → Prop
  | .sieve, z => z ∉ W9
  | .name, z => ∀ p, p < 3 → z ≠ nm p
  | .held, z => z ≠ nm 1
  | .text, z => readV "text" z = none ∨ readV "text" z = some .non
  | .number, z => readV "number" z = none ∨ readV "number" z = some .non
def BadAt (nm : Nat → Str) (ws : List Str) (p : Nat) (r : Rl) : Prop := ¬ (p < ws.length ∧ p < 60) ∨ ∃ z, ws[p]? = some z ∧ badW nm r z
theorem bad_sieve {nm : Nat → Str} {cs : List Col} {ws : List Str} {k s : Nat} (h : BadAt nm ws s .sieve) : Fails cs ws k s s := by
  rcases h with h | ⟨z, h1, h2⟩
  · exact .lack h
  · by_cases h3 : s < 60
    · exact .odd h1 h3 h2
    · exact .lack fun h => h3 h.2
theorem any3 {nm : Nat → Str} {z : Str} (h : ∀ p, p < 3 → z ≠ nm p) : (cs3 nm).any (fun c => decide (c.1 = z)) = false := by
  refine Bool.eq_false_iff.mpr fun e => ?_
  rw [List.any_eq_true] at e
  obtain ⟨c, hc, e⟩ := e
  have e := of_decide_eq_true e
  have hc' : c = (nm 0, Str.ofString "number") ∨ c = (nm 1, Str.ofString "text") ∨ c = (nm 2, Str.ofString "number") := by simpa [cs3] using hc
  rcases hc' with rfl | rfl | rfl
  · exact h 0 (by omega) e.symm
  · exact h 1 (by omega) e.symm
  · exact h 2 (by omega) e.symm
theorem col_none {nm : Nat → Str} {ws : List Str} {p : Nat} (h : ¬ (p < ws.length ∧ p < 60) ∨ ∃ z, ws[p]? = some z ∧ ∀ q, q < 3 → z ≠ nm q) : colAt (cs3 nm) ws p = none := by
  unfold colAt
  by_cases h60 : p < 60
  · rw [if_pos h60]
    rcases h with h | ⟨z, h1, h2⟩
    · rw [List.getElem?_eq_none (by omega)]
    · rw [h1]
      show (if (cs3 nm).any (fun c => decide (c.1 = z)) = true then some (placeN (cs3 nm) z) else none) = none
      rw [any3 h2]
      rfl
  · rw [if_neg h60]
theorem bad_held {nm : Nat → Str} (hN : NmOk nm) {ws : List Str} {p : Nat} (h : BadAt nm ws p .held) : colAt (cs3 nm) ws p = none ∨ ∃ i c, colAt (cs3 nm) ws p = some i ∧ (cs3 nm)[i]? = some c ∧ c.2 ≠ Str.ofString "text" := by
  rcases h with h | ⟨z, h1, h2⟩
  · exact .inl (col_none (.inl h))
  · by_cases h60 : p < 60
    · by_cases z0 : z = nm 0
      · exact .inr ⟨0, _, col3 hN (by omega) h60 (z0 ▸ h1), rfl, show (Str.ofString "number") ≠ Str.ofString "text" from by decide +kernel⟩
      · by_cases z2 : z = nm 2
        · exact .inr ⟨2, _, col3 hN (by omega) h60 (z2 ▸ h1), rfl, show (Str.ofString "number") ≠ Str.ofString "text" from by decide +kernel⟩
        · refine .inl (col_none (.inr ⟨z, h1, fun q hq => ?_⟩))
          match q, hq with
          | 0, _ => exact z0
          | 1, _ => exact h2
          | 2, _ => exact z2
    · exact .inl (col_none (.inl fun h => h60 h.2))
theorem bad_val {nm : Nat → Str} {ws : List Str} {p : Nat} {r : Rl} {kd : Str} (hr : (r = .text ∧ kd = "text") ∨ (r = .number ∧ kd = "number")) (h : BadAt nm ws p r) : badV kd ws p := by
  rcases h with h | ⟨z, h1, h2⟩
  · exact .inl h
  · rcases hr with ⟨rfl, rfl⟩ | ⟨rfl, rfl⟩ <;> exact .inr ⟨z, h1, h2⟩
/-- a look whose words are as told ahead of the j-th -/
theorem fails_leaf {nm : Nat → Str} (hN : NmOk nm) {ws : List Str} : ∀ {sv : Sv1} {s j k : Nat} {r : Rl}, goodS sv → (∀ i, i < j → ws[s + i]? = (leafW nm sv)[i]?) → (leafR sv)[j]? = some r → BadAt nm ws (s + j) r → s + j ≤ 60 → Fails (cs3 nm) ws k s (s + j)
  | .all, s, 0, k, r, hg, ha, hr, hb, h60 => by
    cases hr
    exact bad_sieve hb
  | .all, s, j + 1, k, r, hg, ha, hr, hb, h60 => by cases hr
  | .none p, s, 0, k, r, hg, ha, hr, hb, h60 => by
    cases hr
    exact bad_sieve hb
  | .none p, s, 1, k, r, hg, ha, hr, hb, h60 => by
    cases hr
    exact .none (ha 0 (by omega)) (by omega) (col_none hb)
  | .none p, s, j + 2, k, r, hg, ha, hr, hb, h60 => by cases hr
  | .look l p v, s, 0, k, r, hg, ha, hr, hb, h60 => by
    have : r = .sieve := by cases l <;> (cases hr; rfl)
    subst this
    exact bad_sieve hb
  | .look l p v, s, 1, k, r, hg, ha, hr, hb, h60 => by
    have e0 : ws[s]? = some (wordL l) := ha 0 (by omega)
    refine .look e0 (by omega) ?_
    by_cases hh : l = .holds
    · subst hh
      cases hr
      rcases bad_held hN hb with h | ⟨i, c, h1, h2, h3⟩
      · exact .col h
      · exact .kind rfl h1 h2 h3
    · have : r = .name := by cases l <;> first | (cases hr; rfl) | exact absurd rfl hh
      subst this
      exact .col (col_none hb)
  | .look l p v, s, 2, k, r, hg, ha, hr, hb, h60 => by
    have e0 : ws[s]? = some (wordL l) := ha 0 (by omega)
    have e1 : ws[s + 1]? = some (nm p) := ha 1 (by omega)
    refine .look e0 (by omega) ?_
    have hp : p < 3 := by
      rcases hg with ⟨_, h1, _⟩ | ⟨_, h1, _⟩ <;> omega
    have hcol := col3 hN hp (by omega) e1
    rcases hg with ⟨hl, hp2, _⟩ | ⟨_, rfl, _⟩
    · have hp1 : p ≠ 1 := by omega
      have hr2 : r = .number := by
        rcases hl with rfl | rfl | rfl <;> (simp [leafR, hp1] at hr; exact hr.symm)
      have hc : ∃ c : Col, (cs3 nm)[p]? = some c ∧ c.2 = "number" := by
        rcases hp2 with rfl | rfl
        · exact ⟨_, rfl, rfl⟩
        · exact ⟨_, rfl, rfl⟩
      obtain ⟨c, hc1, hc2⟩ := hc
      refine .val hcol hc1 (fun z => ?_) (bad_val (.inr ⟨hr2, hc2⟩) hb)
      subst z
      rcases hl with z | z | z <;> cases z
    · have hr2 : r = .text := by
        cases l <;> (simp [leafR] at hr; exact hr.symm)
      exact .val (c := (nm 1, "text")) hcol rfl (fun _ => rfl) (bad_val (.inl ⟨hr2, rfl⟩) hb)
  | .look l p v, s, j + 3, k, r, hg, ha, hr, hb, h60 => by cases l <;> cases hr
theorem agree_at {α : Type} {ws l : List α} {s : Nat} (h : ∀ i, i < l.length → ws[s + i]? = l[i]?) : ∃ post, ws.drop s = l ++ post := by
  refine ⟨ws.drop (s + l.length), List.ext_getElem? fun i => ?_⟩
  rw [List.getElem?_drop]
  by_cases hi : i < l.length
  · rw [List.getElem?_append_left hi, h i hi]
  · rw [List.getElem?_append_right (by omega), List.getElem?_drop]
    congr 1
    omega
theorem fails_two {nm : Nat → Str} (hN : NmOk nm) {ws : List Str} {t u : Tr} {s j k : Nat} {r : Rl} {z : Str} (hz : z = "both" ∨ z = "either") (ht : goodT t) (hd : k + (max t.dep u.dep + 1) ≤ 20) (h60 : s + (j + 1) ≤ 60)
    (ha : ∀ i, i < j + 1 → ws[s + i]? = (z :: (wT nm t ++ wT nm u))[i]?) (hr : (rT t ++ rT u)[j]? = some r) (hb : BadAt nm ws (s + (j + 1)) r)
    (i1 : (∀ i, i < j → ws[s + 1 + i]? = (wT nm t)[i]?) → (rT t)[j]? = some r → BadAt nm ws (s + 1 + j) r → Fails (cs3 nm) ws (k + 1) (s + 1) (s + 1 + j))
    (i2 : ∀ m, m = s + 1 + (wT nm t).length → ∀ j', j = (wT nm t).length + j' → (∀ i, i < j' → ws[m + i]? = (wT nm u)[i]?) → (rT u)[j']? = some r → BadAt nm ws (m + j') r → Fails (cs3 nm) ws (k + 1) m (m + j')) : Fails (cs3 nm) ws k s (s + (j + 1)) := by
  have e0 : ws[s]? = some z := ha 0 (by omega)
  have hz3 : z ∈ W3 := by rcases hz with rfl | rfl <;> decide +kernel
  have es : ∀ i, i < j → ws[s + 1 + i]? = (wT nm t ++ wT nm u)[i]? := fun i hi => by
    have := ha (i + 1) (by omega)
    rw [show s + 1 + i = s + (i + 1) by omega, this]
    rfl
  have hl := rT_len nm t
  rw [show s + (j + 1) = s + 1 + j by omega] at hb ⊢
  by_cases hj : j < (wT nm t).length
  · rw [List.getElem?_append_left (by omega)] at hr
    refine .first e0 (by omega) hz3 (by omega) (i1 (fun i hi => ?_) hr hb)
    rw [es i hi, List.getElem?_append_left (by omega)]
  · rw [List.getElem?_append_right (by omega), hl] at hr
    have hat : AtW nm ws t (s + 1) := by
      refine agree_at fun i hi => ?_
      rw [es i (by omega), List.getElem?_append_left hi]
    have hrd := reads_of hN hat (by omega) ht
    refine .second e0 (by omega) hz (by omega) hrd (by omega) ?_
    have := i2 _ rfl (j - (wT nm t).length) (by omega) (fun i hi => ?_) hr (by rw [show s + 1 + (wT nm t).length + (j - (wT nm t).length) = s + 1 + j by omega]; exact hb)
    · rw [show s + 1 + (wT nm t).length + (j - (wT nm t).length) = s + 1 + j by omega] at this
      exact this
    · have := es ((wT nm t).length + i) (by omega)
      rw [show s + 1 + (wT nm t).length + i = s + 1 + ((wT nm t).length + i) by omega, this, List.getElem?_append_right (by omega)]
      congr 1
      omega
theorem fails_of {nm : Nat → Str} (hN : NmOk nm) {ws : List Str} : ∀ {t : Tr} {s j k : Nat} {r : Rl}, goodT t → (∀ i, i < j → ws[s + i]? = (wT nm t)[i]?) → (rT t)[j]? = some r → BadAt nm ws (s + j) r → s + j ≤ 60 → k + t.dep ≤ 20 → Fails (cs3 nm) ws k s (s + j)
  | .one sv, s, j, k, r, hg, ha, hr, hb, h60, hd => fails_leaf hN hg ha hr hb h60
  | .nt t, s, 0, k, r, hg, ha, hr, hb, h60, hd => by
    cases hr
    exact bad_sieve hb
  | .nt t, s, j + 1, k, r, hg, ha, hr, hb, h60, hd => by
    have hd' : k + (t.dep + 1) ≤ 20 := hd
    rw [show s + (j + 1) = s + 1 + j by omega] at hb ⊢
    refine .first (ha 0 (by omega)) (by omega) (by decide +kernel) (by omega) (fails_of hN (t := t) (r := r) hg (fun i hi => ?_) hr hb (by omega) (by omega))
    have := ha (i + 1) (by omega)
    rw [show s + 1 + i = s + (i + 1) by omega, this]
    rfl
  | .bo t u, s, 0, k, r, hg, ha, hr, hb, h60, hd => by
    cases hr
    exact bad_sieve hb
  | .bo t u, s, j + 1, k, r, hg, ha, hr, hb, h60, hd => by
    have hd' : k + (max t.dep u.dep + 1) ≤ 20 := hd
    exact fails_two hN (.inl rfl) hg.1 hd' h60 ha hr hb (fun a1 a2 a3 => fails_of hN (t := t) hg.1 a1 a2 a3 (by omega) (by omega)) fun m hm j' hj a1 a2 a3 => fails_of hN (t := u) hg.2 a1 a2 a3 (by omega) (by omega)
  | .ei t u, s, 0, k, r, hg, ha, hr, hb, h60, hd => by
    cases hr
    exact bad_sieve hb
  | .ei t u, s, j + 1, k, r, hg, ha, hr, hb, h60, hd => by
    have hd' : k + (max t.dep u.dep + 1) ≤ 20 := hd
    exact fails_two hN (.inr rfl) hg.1 hd' h60 ha hr hb (fun a1 a2 a3 => fails_of hN (t := t) hg.1 a1 a2 a3 (by omega) (by omega)) fun m hm j' hj a1 a2 a3 => fails_of hN (t := u) hg.2 a1 a2 a3 (by omega) (by omega)
/-! a chain too deep -/
def chO : Int → List Str
  | 0 => ["not"]
  | 1 => ["both", "all"]
  | _ => ["either"]
def chW (ys : List Int) : List Str := (ys.map chO).flatten
theorem fails_chain {cs : List Col} {ws : List Str} : ∀ {ys : List Int} {k s : Nat} {z : Str} {post : List Str}, (∀ y ∈ ys, y = 0 ∨ y = 1 ∨ y = 2) → ws.drop s = chW ys ++ z :: post → k + ys.length = 20 → z ∈ W3 → s + (chW ys).length < 60 → Fails cs ws k s (s + (chW ys).length)
  | [], k, s, z, post, hy, e, hk, hz, h60 => by
    have e' : ws.drop s = z :: post := e
    exact .deep (drop_cons e').1 h60 hz (by simpa using (show 20 ≤ k from by have : k + 0 = 20 := hk; omega))
  | y :: ys, k, s, z, post, hy, e, hk, hz, h60 => by
    have hk' : k + (ys.length + 1) = 20 := hk
    have hys : ∀ y ∈ ys, y = 0 ∨ y = 1 ∨ y = 2 := fun x hx => hy x (by simp [hx])
    rcases hy y (by simp) with rfl | rfl | rfl
    · have e' : ws.drop s = Str.ofString "not" :: (chW ys ++ z :: post) := e
      have hl : (chW (0 :: ys)).length = (chW ys).length + 1 := rfl
      obtain ⟨e1, e2⟩ := drop_cons e'
      rw [hl] at h60 ⊢
      rw [show s + ((chW ys).length + 1) = s + 1 + (chW ys).length by omega]
      exact .first e1 (by omega) (by decide +kernel) (by omega) (fails_chain hys e2 (by omega) hz (by omega))
    · have e' : ws.drop s = Str.ofString "both" :: Str.ofString "all" :: (chW ys ++ z :: post) := e
      have hl : (chW (1 :: ys)).length = (chW ys).length + 2 := rfl
      obtain ⟨e1, e2⟩ := drop_cons e'
      obtain ⟨e3, e4⟩ := drop_cons e2
      rw [hl] at h60 ⊢
      rw [show s + ((chW ys).length + 2) = s + 2 + (chW ys).length by omega]
      refine .second (t := .one .all) (m := s + 2) e1 (by omega) (.inl rfl) (by omega) ⟨by omega, e3, rfl⟩ (by show k + 1 + 0 ≤ 20; omega) (fails_chain hys e4 (by omega) hz (by omega))
    · have e' : ws.drop s = Str.ofString "either" :: (chW ys ++ z :: post) := e
      have hl : (chW (2 :: ys)).length = (chW ys).length + 1 := rfl
      obtain ⟨e1, e2⟩ := drop_cons e'
      rw [hl] at h60 ⊢
      rw [show s + ((chW ys).length + 1) = s + 1 + (chW ys).length by omega]
      exact .first e1 (by omega) (by decide +kernel) (by omega) (fails_chain hys e2 (by omega) hz (by omega))
end
end K08

namespace K08
open PySem L2 PyProof.Rows My Vl Lw
section
variable {P : Program} {w : World} {K : PySem.W.Frag} {mg : Str → Option Value} {base : Heap}
def spLook8 (K : PySem.W.Frag) (nm : Nat → Str) : Sp := fun vs H Q _ => ∃ (sc n : Addr) (ns : List Int) (b : Int), vs = [.ref sc, .int b, .ref n] ∧ SqL K H sc (ns.map V.int) ∧ ns.length ≤ 63 ∧ 0 ≤ b ∧ b ≤ 10000 ∧ SqL K H n [.str (nm 0), .str (nm 1), .str (nm 2)] ∧
  ∀ p sv H', Same H H' → Cols H' p (zipR (leafW nm sv) (leafR sv)) → goodS sv → Q (.ref p) H'
theorem d__law_look (T : Txt K mg) (nm : Nat → Str) : Def P w K mg base true 2 "_law_look" ["_law_script", "_law_base", "_law_names"] (spLook8 K nm) := by
  refine df__law_look T (fun vs H Q E h => by obtain ⟨sc, n, ns, b, rfl, _⟩ := h; rfl) (fun f cdv A outer s H vs Q E hr h => ?_)
  obtain ⟨sc, n, ns, b, rfl, hS, hl, b0, b1, hn, q⟩ := h
  have nd := sc__law_look.nd
  have n1 := T.n_str
  have hsz : sizeLine = 16777216 := sizeLine_eq
  have D1 : Def P w K mg base true 1 "_law_draw" ["_law_script", "_law_k", "_law_many"] (spDraw K) := d__law_draw T
  refine sxs_cons ?_
  walk_at "s"
  walk_at "ex"
  refine ⟨sc, ns, b + 1, 5, rfl, hS, hl, by omega, by omega, by decide, ?_⟩
  have d0 := drawF_nn ns (b + 1) (m := 5) (by decide)
  have d1 := drawF_lt ns (b + 1) (m := 5) (by decide)
  generalize drawF ns (b + 1) 5 = dv at d0 d1
  walk_at "ex"
  refine c_strI (log_ok (Nat.lt_of_lt_of_le (show (dv - 2).natAbs < 10 by omega) (by decide +kernel))) ?_
  refine sxs_cons ?_
  walk_at "s"
  walk_at "ex"
  refine ⟨by show 3 ≤ sizeLine; omega, fun p0 hp0 => ?_⟩
  have s0 : Same H (upd H p0 (.lst [.str (Str.ofString ""), .str (Str.ofString "a"), .str (Str.ofString "b-9")])) := Same.upd hp0
  have e0 : (upd H p0 (.lst [.str (Str.ofString ""), .str (Str.ofString "a"), .str (Str.ofString "b-9")])) p0 = some (.lst [.str (Str.ofString ""), .str (Str.ofString "a"), .str (Str.ofString "b-9")]) := upd_same
  change EV _ _ _ (upd H p0 (.lst [.str (Str.ofString ""), .str (Str.ofString "a"), .str (Str.ofString "b-9")])) _
  generalize upd H p0 (.lst [.str (Str.ofString ""), .str (Str.ofString "a"), .str (Str.ofString "b-9")]) = H0 at s0 e0 ⊢
  walk_at "ex"
  refine ⟨sc, ns, b + 1, 3, rfl, s0.seq hS, hl, by omega, by omega, by decide, ?_⟩
  have f0 := drawF_nn ns (b + 1) (m := 3) (by decide)
  have f1 := drawF_lt ns (b + 1) (m := 3) (by decide)
  generalize drawF ns (b + 1) 3 = fv at f0 f1 ⊢
  obtain ⟨z, ez, zl, zs⟩ : ∃ z : Str, atI [V.str (Str.ofString ""), .str (Str.ofString "a"), .str (Str.ofString "b-9")] fv = some (.str z) ∧ z.length ≤ 20 ∧ ∀ c ∈ z.cps.toList, c ∈ SG := by
    have hd : fv = 0 ∨ fv = 1 ∨ fv = 2 := by omega
    rcases hd with rfl | rfl | rfl
    · exact ⟨_, rfl, by decide +kernel, by decide +kernel⟩
    · exact ⟨_, rfl, by decide +kernel, by decide +kernel⟩
    · exact ⟨_, rfl, by decide +kernel, by decide +kernel⟩
  have la : (Str.ofString "'").length = 1 := by decide +kernel
  refine i_list (SqL.of e0) ez ?_
  refine o_addS (by omega) ?_
  refine sxs_cons ?_
  walk_at "s"
  walk_at "ex"
  refine ⟨sc, ns, b, 6, rfl, s0.seq hS, hl, by omega, by omega, by decide, ?_⟩
  have g0 := drawF_nn ns b (m := 6) (by decide)
  have g1 := drawF_lt ns b (m := 6) (by decide)
  generalize drawF ns b 6 = way at g0 g1 ⊢
  refine sxs_cons ?_
  walk_at "s"
  walk_at "ex"
  refine ⟨sc, ns, b + 2, 3, rfl, s0.seq hS, hl, by omega, by omega, by decide, ?_⟩
  have k0 := drawF_nn ns (b + 2) (m := 3) (by decide)
  have k1 := drawF_lt ns (b + 2) (m := 3) (by decide)
  generalize drawF ns (b + 2) 3 = cv at k0 k1 ⊢
  have hn0 := s0.seq hn
  obtain ⟨cn, hcn, rfl⟩ : ∃ cn : Nat, cn < 3 ∧ cv = cn := ⟨cv.toNat, by omega, by omega⟩
  have ecn : atI [V.str (nm 0), .str (nm 1), .str (nm 2)] (cn : Int) = some (.str (nm cn)) := by
    match cn, hcn with
    | 0, _ => rfl
    | 1, _ => rfl
    | 2, _ => rfl
  refine sxs_cons (sx_if ?_)
  walk_at "ex"
  refine ifD (fun _ => ?_) (fun w0 => ?_)
  · refine sxs_one (sx_ret ?_)
    walk_at "ex"
    refine ⟨by show 2 ≤ sizeLine; omega, fun t0 ht0 => ?_⟩
    have st0 : Same H0 (upd H0 t0 (.tup [.str (Str.ofString "all"), .str (Str.ofString "sieve")])) := Same.upd ht0
    have et0 : (upd H0 t0 (.tup [.str (Str.ofString "all"), .str (Str.ofString "sieve")])) t0 = some (.tup [.str (Str.ofString "all"), .str (Str.ofString "sieve")]) := upd_same
    generalize upd H0 t0 (.tup [.str (Str.ofString "all"), .str (Str.ofString "sieve")]) = G0 at st0 et0 ⊢
    walk_at "ex"
    refine ⟨by show 1 ≤ sizeLine; omega, fun pl hpl => ?_⟩
    have sl : Same G0 (upd G0 pl (.lst [.ref t0])) := Same.upd hpl
    exact q pl .all _ (s0.trans (st0.trans (sl))) ⟨_, upd_same, .cons ⟨t0, rfl, sl _ _ (et0)⟩ (.nil)⟩ trivial
  refine sxs_nil (sxs_cons (sx_if ?_))
  walk_at "ex"
  refine ifD (fun _ => ?_) (fun w1 => ?_)
  · refine sxs_one (sx_ret ?_)
    walk_at "ex"
    refine ⟨by show 2 ≤ sizeLine; omega, fun t0 ht0 => ?_⟩
    have st0 : Same H0 (upd H0 t0 (.tup [.str (Str.ofString "none"), .str (Str.ofString "sieve")])) := Same.upd ht0
    have et0 : (upd H0 t0 (.tup [.str (Str.ofString "none"), .str (Str.ofString "sieve")])) t0 = some (.tup [.str (Str.ofString "none"), .str (Str.ofString "sieve")]) := upd_same
    generalize upd H0 t0 (.tup [.str (Str.ofString "none"), .str (Str.ofString "sieve")]) = G0 at st0 et0 ⊢
    walk_at "ex"
    refine i_list ((st0).seq hn0) ecn ?_
    walk_at "ex"
    refine ⟨by show 2 ≤ sizeLine; omega, fun t1 ht1 => ?_⟩
    have st1 : Same G0 (upd G0 t1 (.tup [.str (nm cn), .str (Str.ofString "name")])) := Same.upd ht1
    have et1 : (upd G0 t1 (.tup [.str (nm cn), .str (Str.ofString "name")])) t1 = some (.tup [.str (nm cn), .str (Str.ofString "name")]) := upd_same
    generalize upd G0 t1 (.tup [.str (nm cn), .str (Str.ofString "name")]) = G1 at st1 et1 ⊢
    walk_at "ex"
    refine ⟨by show 2 ≤ sizeLine; omega, fun pl hpl => ?_⟩
    have sl : Same G1 (upd G1 pl (.lst [.ref t0, .ref t1])) := Same.upd hpl
    exact q pl (.none cn) _ (s0.trans (st0.trans (st1.trans (sl)))) ⟨_, upd_same, .cons ⟨t0, rfl, sl _ _ (st1 _ _ (et0))⟩ (.cons ⟨t1, rfl, sl _ _ (et1)⟩ (.nil))⟩ hcn
  refine sxs_nil (sxs_cons (sx_if ?_))
  walk_at "ex"
  refine ifD (fun _ => ?_) (fun w2 => ?_)
  · refine sxs_one (sx_ret ?_)
    walk_at "ex"
    refine ⟨by show 2 ≤ sizeLine; omega, fun t0 ht0 => ?_⟩
    have st0 : Same H0 (upd H0 t0 (.tup [.str (Str.ofString "holds"), .str (Str.ofString "sieve")])) := Same.upd ht0
    have et0 : (upd H0 t0 (.tup [.str (Str.ofString "holds"), .str (Str.ofString "sieve")])) t0 = some (.tup [.str (Str.ofString "holds"), .str (Str.ofString "sieve")]) := upd_same
    generalize upd H0 t0 (.tup [.str (Str.ofString "holds"), .str (Str.ofString "sieve")]) = G0 at st0 et0 ⊢
    walk_at "ex"
    refine i_list ((st0).seq hn0) (i := 1) rfl ?_
    walk_at "ex"
    refine ⟨by show 2 ≤ sizeLine; omega, fun t1 ht1 => ?_⟩
    have st1 : Same G0 (upd G0 t1 (.tup [.str (nm 1), .str (Str.ofString "held")])) := Same.upd ht1
    have et1 : (upd G0 t1 (.tup [.str (nm 1), .str (Str.ofString "held")])) t1 = some (.tup [.str (nm 1), .str (Str.ofString "held")]) := upd_same
    generalize upd G0 t1 (.tup [.str (nm 1), .str (Str.ofString "held")]) = G1 at st1 et1 ⊢
    walk_at "ex"
    refine ⟨by show 2 ≤ sizeLine; omega, fun t2 ht2 => ?_⟩
    have st2 : Same G1 (upd G1 t2 (.tup [.str (Str.ofString "'" ++ z), .str (Str.ofString "text")])) := Same.upd ht2
    have et2 : (upd G1 t2 (.tup [.str (Str.ofString "'" ++ z), .str (Str.ofString "text")])) t2 = some (.tup [.str (Str.ofString "'" ++ z), .str (Str.ofString "text")]) := upd_same
    generalize upd G1 t2 (.tup [.str (Str.ofString "'" ++ z), .str (Str.ofString "text")]) = G2 at st2 et2 ⊢
    walk_at "ex"
    refine ⟨by show 3 ≤ sizeLine; omega, fun pl hpl => ?_⟩
    have sl : Same G2 (upd G2 pl (.lst [.ref t0, .ref t1, .ref t2])) := Same.upd hpl
    exact q pl (.look .holds 1 (.str z)) _ (s0.trans (st0.trans (st1.trans (st2.trans (sl))))) ⟨_, upd_same, .cons ⟨t0, rfl, sl _ _ (st2 _ _ (st1 _ _ (et0)))⟩ (.cons ⟨t1, rfl, sl _ _ (st2 _ _ (et1))⟩ (.cons ⟨t2, rfl, sl _ _ (et2)⟩ (.nil)))⟩ (.inr ⟨trivial, rfl, z, rfl, zl, zs⟩)
  have w0 : way ≠ 0 := fun z => w0 (by rw [z])
  have w1 : way ≠ 1 := fun z => w1 (by rw [z])
  have w2 : way ≠ 2 := fun z => w2 (by rw [z])
  refine sxs_nil (sxs_cons ?_)
  walk_at "s"
  walk_at "ex"
  refine ⟨by show 3 ≤ sizeLine; omega, fun pk hpk => ?_⟩
  have sk : Same H0 (upd H0 pk (.lst [.str (Str.ofString "is"), .str (Str.ofString "under"), .str (Str.ofString "over")])) := Same.upd hpk
  have ek : (upd H0 pk (.lst [.str (Str.ofString "is"), .str (Str.ofString "under"), .str (Str.ofString "over")])) pk = some (.lst [.str (Str.ofString "is"), .str (Str.ofString "under"), .str (Str.ofString "over")]) := upd_same
  generalize hH9 : upd H0 pk (.lst [.str (Str.ofString "is"), .str (Str.ofString "under"), .str (Str.ofString "over")]) = H9 at sk ek ⊢
  obtain ⟨l, hlk, el, hgl⟩ : ∃ l : Lk, (l = .is ∨ l = .under ∨ l = .over) ∧ atI [V.str (Str.ofString "is"), .str (Str.ofString "under"), .str (Str.ofString "over")] (way - 3) = some (.str (wordL l)) ∧ ∀ p v, leafR (.look l p v) = [.sieve, .name, if p = 1 then .text else .number] := by
    have hd : way = 3 ∨ way = 4 ∨ way = 5 := by omega
    rcases hd with rfl | rfl | rfl
    · exact ⟨.is, .inl rfl, rfl, fun _ _ => rfl⟩
    · exact ⟨.under, .inr (.inl rfl), rfl, fun _ _ => rfl⟩
    · exact ⟨.over, .inr (.inr rfl), rfl, fun _ _ => rfl⟩
  walk_at "ex"
  refine i_list (SqL.of ek) el ?_
  have hn9 := sk.seq hn0
  have s09 := s0.trans sk
  refine sxs_cons (sx_if ?_)
  walk_at "ex"
  refine ifD (fun hc1 => ?_) (fun hc1 => ?_)
  · have hc1 : cn = 1 := by have := V.int.inj hc1; omega
    subst hc1
    refine sxs_one (sx_ret ?_)
    walk_at "ex"
    refine ⟨by show 2 ≤ sizeLine; omega, fun t0 ht0 => ?_⟩
    have st0 : Same H9 (upd H9 t0 (.tup [.str (wordL l), .str (Str.ofString "sieve")])) := Same.upd ht0
    have et0 : (upd H9 t0 (.tup [.str (wordL l), .str (Str.ofString "sieve")])) t0 = some (.tup [.str (wordL l), .str (Str.ofString "sieve")]) := upd_same
    generalize upd H9 t0 (.tup [.str (wordL l), .str (Str.ofString "sieve")]) = G0 at st0 et0 ⊢
    walk_at "ex"
    refine i_list ((st0).seq hn9) (i := 1) rfl ?_
    walk_at "ex"
    refine ⟨by show 2 ≤ sizeLine; omega, fun t1 ht1 => ?_⟩
    have st1 : Same G0 (upd G0 t1 (.tup [.str (nm 1), .str (Str.ofString "name")])) := Same.upd ht1
    have et1 : (upd G0 t1 (.tup [.str (nm 1), .str (Str.ofString "name")])) t1 = some (.tup [.str (nm 1), .str (Str.ofString "name")]) := upd_same
    generalize upd G0 t1 (.tup [.str (nm 1), .str (Str.ofString "name")]) = G1 at st1 et1 ⊢
    walk_at "ex"
    refine ⟨by show 2 ≤ sizeLine; omega, fun t2 ht2 => ?_⟩
    have st2 : Same G1 (upd G1 t2 (.tup [.str (Str.ofString "'" ++ z), .str (Str.ofString "text")])) := Same.upd ht2
    have et2 : (upd G1 t2 (.tup [.str (Str.ofString "'" ++ z), .str (Str.ofString "text")])) t2 = some (.tup [.str (Str.ofString "'" ++ z), .str (Str.ofString "text")]) := upd_same
    generalize upd G1 t2 (.tup [.str (Str.ofString "'" ++ z), .str (Str.ofString "text")]) = G2 at st2 et2 ⊢
    walk_at "ex"
    refine ⟨by show 3 ≤ sizeLine; omega, fun pl hpl => ?_⟩
    have sl : Same G2 (upd G2 pl (.lst [.ref t0, .ref t1, .ref t2])) := Same.upd hpl
    refine q pl (.look l 1 (.str z)) _ (s09.trans (st0.trans (st1.trans (st2.trans (sl))))) (by rw [hgl]; exact ⟨_, upd_same, .cons ⟨t0, rfl, sl _ _ (st2 _ _ (st1 _ _ (et0)))⟩ (.cons ⟨t1, rfl, sl _ _ (st2 _ _ (et1))⟩ (.cons ⟨t2, rfl, sl _ _ (et2)⟩ (.nil)))⟩) (.inr ⟨trivial, rfl, z, rfl, zl, zs⟩)
  · have hc1 : cn ≠ 1 := fun z => hc1 (by rw [z]; rfl)
    refine sxs_nil (sxs_one (sx_ret ?_))
    walk_at "ex"
    refine ⟨by show 2 ≤ sizeLine; omega, fun t0 ht0 => ?_⟩
    have st0 : Same H9 (upd H9 t0 (.tup [.str (wordL l), .str (Str.ofString "sieve")])) := Same.upd ht0
    have et0 : (upd H9 t0 (.tup [.str (wordL l), .str (Str.ofString "sieve")])) t0 = some (.tup [.str (wordL l), .str (Str.ofString "sieve")]) := upd_same
    generalize upd H9 t0 (.tup [.str (wordL l), .str (Str.ofString "sieve")]) = G0 at st0 et0 ⊢
    walk_at "ex"
    refine i_list ((st0).seq hn9) ecn ?_
    walk_at "ex"
    refine ⟨by show 2 ≤ sizeLine; omega, fun t1 ht1 => ?_⟩
    have st1 : Same G0 (upd G0 t1 (.tup [.str (nm cn), .str (Str.ofString "name")])) := Same.upd ht1
    have et1 : (upd G0 t1 (.tup [.str (nm cn), .str (Str.ofString "name")])) t1 = some (.tup [.str (nm cn), .str (Str.ofString "name")]) := upd_same
    generalize upd G0 t1 (.tup [.str (nm cn), .str (Str.ofString "name")]) = G1 at st1 et1 ⊢
    walk_at "ex"
    refine ⟨by show 2 ≤ sizeLine; omega, fun t2 ht2 => ?_⟩
    have st2 : Same G1 (upd G1 t2 (.tup [.str (Str.ofString (toString (dv - 2))), .str (Str.ofString "number")])) := Same.upd ht2
    have et2 : (upd G1 t2 (.tup [.str (Str.ofString (toString (dv - 2))), .str (Str.ofString "number")])) t2 = some (.tup [.str (Str.ofString (toString (dv - 2))), .str (Str.ofString "number")]) := upd_same
    generalize upd G1 t2 (.tup [.str (Str.ofString (toString (dv - 2))), .str (Str.ofString "number")]) = G2 at st2 et2 ⊢
    walk_at "ex"
    refine ⟨by show 3 ≤ sizeLine; omega, fun pl hpl => ?_⟩
    have sl : Same G2 (upd G2 pl (.lst [.ref t0, .ref t1, .ref t2])) := Same.upd hpl
    exact q pl (.look l cn (.int (dv - 2))) _ (s09.trans (st0.trans (st1.trans (st2.trans (sl))))) (by rw [hgl, if_neg hc1]; exact ⟨_, upd_same, .cons ⟨t0, rfl, sl _ _ (st2 _ _ (st1 _ _ (et0)))⟩ (.cons ⟨t1, rfl, sl _ _ (st2 _ _ (et1))⟩ (.cons ⟨t2, rfl, sl _ _ (et2)⟩ (.nil)))⟩) (.inl ⟨hlk, by omega, dv - 2, rfl, by omega, by omega⟩)
end
end K08

namespace K08
open PySem L2 PyProof.Rows My Vl Lw
section
variable {P : Program} {w : World} {K : PySem.W.Frag} {mg : Str → Option Value} {base : Heap}
/-- names that no strange word is -/
structure Nm8 (nm : Nat → Str) : Prop extends NmOk nm where
  odd : ∀ z ∈ ([Str.ofString "", Str.ofString "?", Str.ofString "ups", Str.ofString "Up", Str.ofString "nobody", Str.ofString "alls", Str.ofString "'a", Str.ofString "1"] : List Str), ∀ p, p < 3 → z ≠ nm p
def okW (z : Str) : Prop := z.length ≤ 40 ∧ 32 ∉ z.cps.toList
def some_sieve (nm : Nat → Str) : List V := [.str (Str.ofString ""), .str (Str.ofString "?"), .str (Str.ofString "All"), .str (Str.ofString "xor"), .str (Str.ofString "'a"), .str (Str.ofString "not-"), .str (Str.ofString "nobody")]
def some_name (nm : Nat → Str) : List V := [.str (Str.ofString ""), .str (Str.ofString "?"), .str (Str.ofString "ups"), .str (Str.ofString "Up"), .str (Str.ofString "nobody"), .str (Str.ofString "alls"), .str (Str.ofString "'a")]
def some_held (nm : Nat → Str) : List V := [.str (Str.ofString ""), .str (Str.ofString "?"), .str (Str.ofString "nobody"), .str (nm 0), .str (nm 2), .str (Str.ofString "'a"), .str (Str.ofString "1")]
def some_text (nm : Nat → Str) : List V := [.str (Str.ofString ""), .str (Str.ofString "?"), .str (Str.ofString "'A"), .str (Str.ofString "x"), .str (Str.ofString "1"), .str (Str.ofString "'b'"), .str (Str.ofString "-1")]
def some_number (nm : Nat → Str) : List V := [.str (Str.ofString ""), .str (Str.ofString "?"), .str (Str.ofString "'1"), .str (Str.ofString "+1"), .str (Str.ofString "-0"), .str (Str.ofString "07"), .str (Str.ofString "1000000000000000001")]
theorem odd_sieve {nm : Nat → Str} (hN : Nm8 nm) {d : Int} (h0 : 0 ≤ d) (h1 : d < 7) : ∃ z, atI (some_sieve nm) d = some (.str z) ∧ badW nm .sieve z ∧ okW z := by
  have hd : d = 0 ∨ d = 1 ∨ d = 2 ∨ d = 3 ∨ d = 4 ∨ d = 5 ∨ d = 6 := by omega
  rcases hd with rfl | rfl | rfl | rfl | rfl | rfl | rfl
  · exact ⟨_, rfl, (show _ ∉ W9 from by decide +kernel), ⟨by decide +kernel, by decide +kernel⟩⟩
  · exact ⟨_, rfl, (show _ ∉ W9 from by decide +kernel), ⟨by decide +kernel, by decide +kernel⟩⟩
  · exact ⟨_, rfl, (show _ ∉ W9 from by decide +kernel), ⟨by decide +kernel, by decide +kernel⟩⟩
  · exact ⟨_, rfl, (show _ ∉ W9 from by decide +kernel), ⟨by decide +kernel, by decide +kernel⟩⟩
  · exact ⟨_, rfl, (show _ ∉ W9 from by decide +kernel), ⟨by decide +kernel, by decide +kernel⟩⟩
  · exact ⟨_, rfl, (show _ ∉ W9 from by decide +kernel), ⟨by decide +kernel, by decide +kernel⟩⟩
  · exact ⟨_, rfl, (show _ ∉ W9 from by decide +kernel), ⟨by decide +kernel, by decide +kernel⟩⟩
theorem odd_name {nm : Nat → Str} (hN : Nm8 nm) {d : Int} (h0 : 0 ≤ d) (h1 : d < 7) : ∃ z, atI (some_name nm) d = some (.str z) ∧ badW nm .name z ∧ okW z := by
  have hd : d = 0 ∨ d = 1 ∨ d = 2 ∨ d = 3 ∨ d = 4 ∨ d = 5 ∨ d = 6 := by omega
  rcases hd with rfl | rfl | rfl | rfl | rfl | rfl | rfl
  · exact ⟨_, rfl, (hN.odd _ (by decide +kernel)), ⟨by decide +kernel, by decide +kernel⟩⟩
  · exact ⟨_, rfl, (hN.odd _ (by decide +kernel)), ⟨by decide +kernel, by decide +kernel⟩⟩
  · exact ⟨_, rfl, (hN.odd _ (by decide +kernel)), ⟨by decide +kernel, by decide +kernel⟩⟩
  · exact ⟨_, rfl, (hN.odd _ (by decide +kernel)), ⟨by decide +kernel, by decide +kernel⟩⟩
  · exact ⟨_, rfl, (hN.odd _ (by decide +kernel)), ⟨by decide +kernel, by decide +kernel⟩⟩
  · exact ⟨_, rfl, (hN.odd _ (by decide +kernel)), ⟨by decide +kernel, by decide +kernel⟩⟩
  · exact ⟨_, rfl, (hN.odd _ (by decide +kernel)), ⟨by decide +kernel, by decide +kernel⟩⟩
theorem odd_held {nm : Nat → Str} (hN : Nm8 nm) {d : Int} (h0 : 0 ≤ d) (h1 : d < 7) : ∃ z, atI (some_held nm) d = some (.str z) ∧ badW nm .held z ∧ okW z := by
  have hd : d = 0 ∨ d = 1 ∨ d = 2 ∨ d = 3 ∨ d = 4 ∨ d = 5 ∨ d = 6 := by omega
  rcases hd with rfl | rfl | rfl | rfl | rfl | rfl | rfl
  · exact ⟨_, rfl, (hN.odd _ (by decide +kernel) 1 (by omega)), ⟨by decide +kernel, by decide +kernel⟩⟩
  · exact ⟨_, rfl, (hN.odd _ (by decide +kernel) 1 (by omega)), ⟨by decide +kernel, by decide +kernel⟩⟩
  · exact ⟨_, rfl, (hN.odd _ (by decide +kernel) 1 (by omega)), ⟨by decide +kernel, by decide +kernel⟩⟩
  · exact ⟨_, rfl, hN.h01, ⟨by have := hN.len 0 (by omega); omega, hN.bl 0 (by omega)⟩⟩
  · exact ⟨_, rfl, (Ne.symm hN.h12), ⟨by have := hN.len 2 (by omega); omega, hN.bl 2 (by omega)⟩⟩
  · exact ⟨_, rfl, (hN.odd _ (by decide +kernel) 1 (by omega)), ⟨by decide +kernel, by decide +kernel⟩⟩
  · exact ⟨_, rfl, (hN.odd _ (by decide +kernel) 1 (by omega)), ⟨by decide +kernel, by decide +kernel⟩⟩
theorem odd_text {nm : Nat → Str} (hN : Nm8 nm) {d : Int} (h0 : 0 ≤ d) (h1 : d < 7) : ∃ z, atI (some_text nm) d = some (.str z) ∧ badW nm .text z ∧ okW z := by
  have hd : d = 0 ∨ d = 1 ∨ d = 2 ∨ d = 3 ∨ d = 4 ∨ d = 5 ∨ d = 6 := by omega
  rcases hd with rfl | rfl | rfl | rfl | rfl | rfl | rfl
  · exact ⟨_, rfl, (show readV (Str.ofString "text") _ = none ∨ readV (Str.ofString "text") _ = some .non from .inl (by decide +kernel)), ⟨by decide +kernel, by decide +kernel⟩⟩
  · exact ⟨_, rfl, (show readV (Str.ofString "text") _ = none ∨ readV (Str.ofString "text") _ = some .non from .inr (by decide +kernel)), ⟨by decide +kernel, by decide +kernel⟩⟩
  · exact ⟨_, rfl, (show readV (Str.ofString "text") _ = none ∨ readV (Str.ofString "text") _ = some .non from .inl (by decide +kernel)), ⟨by decide +kernel, by decide +kernel⟩⟩
  · exact ⟨_, rfl, (show readV (Str.ofString "text") _ = none ∨ readV (Str.ofString "text") _ = some .non from .inl (by decide +kernel)), ⟨by decide +kernel, by decide +kernel⟩⟩
  · exact ⟨_, rfl, (show readV (Str.ofString "text") _ = none ∨ readV (Str.ofString "text") _ = some .non from .inl (by decide +kernel)), ⟨by decide +kernel, by decide +kernel⟩⟩
  · exact ⟨_, rfl, (show readV (Str.ofString "text") _ = none ∨ readV (Str.ofString "text") _ = some .non from .inl (by decide +kernel)), ⟨by decide +kernel, by decide +kernel⟩⟩
  · exact ⟨_, rfl, (show readV (Str.ofString "text") _ = none ∨ readV (Str.ofString "text") _ = some .non from .inl (by decide +kernel)), ⟨by decide +kernel, by decide +kernel⟩⟩
theorem odd_number {nm : Nat → Str} (hN : Nm8 nm) {d : Int} (h0 : 0 ≤ d) (h1 : d < 7) : ∃ z, atI (some_number nm) d = some (.str z) ∧ badW nm .number z ∧ okW z := by
  have hd : d = 0 ∨ d = 1 ∨ d = 2 ∨ d = 3 ∨ d = 4 ∨ d = 5 ∨ d = 6 := by omega
  rcases hd with rfl | rfl | rfl | rfl | rfl | rfl | rfl
  · exact ⟨_, rfl, (show readV (Str.ofString "number") _ = none ∨ readV (Str.ofString "number") _ = some .non from .inl (by decide +kernel)), ⟨by decide +kernel, by decide +kernel⟩⟩
  · exact ⟨_, rfl, (show readV (Str.ofString "number") _ = none ∨ readV (Str.ofString "number") _ = some .non from .inr (by decide +kernel)), ⟨by decide +kernel, by decide +kernel⟩⟩
  · exact ⟨_, rfl, (show readV (Str.ofString "number") _ = none ∨ readV (Str.ofString "number") _ = some .non from .inl (by decide +kernel)), ⟨by decide +kernel, by decide +kernel⟩⟩
  · exact ⟨_, rfl, (show readV (Str.ofString "number") _ = none ∨ readV (Str.ofString "number") _ = some .non from .inl (by decide +kernel)), ⟨by decide +kernel, by decide +kernel⟩⟩
  · exact ⟨_, rfl, (show readV (Str.ofString "number") _ = none ∨ readV (Str.ofString "number") _ = some .non from .inl (by decide +kernel)), ⟨by decide +kernel, by decide +kernel⟩⟩
  · exact ⟨_, rfl, (show readV (Str.ofString "number") _ = none ∨ readV (Str.ofString "number") _ = some .non from .inl (by decide +kernel)), ⟨by decide +kernel, by decide +kernel⟩⟩
  · exact ⟨_, rfl, (show readV (Str.ofString "number") _ = none ∨ readV (Str.ofString "number") _ = some .non from .inl (by decide +kernel)), ⟨by decide +kernel, by decide +kernel⟩⟩
def spStr8 (K : PySem.W.Frag) (nm : Nat → Str) : Sp := fun vs H Q _ => ∃ (sc n : Addr) (ns : List Int) (r : Rl), vs = [.ref sc, .str r.s, .ref n] ∧ SqL K H sc (ns.map V.int) ∧ ns.length ≤ 63 ∧ SqL K H n [.str (nm 0), .str (nm 1), .str (nm 2)] ∧
  ∀ z H', Same H H' → badW nm r z → okW z → Q (.str z) H'
theorem d__law_strange (T : Txt K mg) {nm : Nat → Str} (hN : Nm8 nm) : Def P w K mg base true 2 "_law_strange" ["_law_script", "_law_role", "_law_names"] (spStr8 K nm) := by
  refine df__law_strange T (fun vs H Q E h => by obtain ⟨sc, n, ns, r, rfl, _⟩ := h; rfl) (fun f cdv A outer s H vs Q E hr h => ?_)
  obtain ⟨sc, n, ns, r, rfl, hS, hl, hn, q⟩ := h
  have nd := sc__law_strange.nd
  have n1 := T.n_str
  have hsz : sizeLine = 16777216 := sizeLine_eq
  have D1 : Def P w K mg base true 1 "_law_draw" ["_law_script", "_law_k", "_law_many"] (spDraw K) := d__law_draw T
  have fin : ∀ (l : Addr) (G : Hp) (xs : List V), Same H G → G l = some (.lst xs) → (∀ d : Int, 0 ≤ d → d < 7 → ∃ z, atI xs d = some (.str z) ∧ badW nm r z ∧ okW z) →
      SXs (CxF true P w K mg base N__law_strange "_law_strange" (defScope s__law_strange) f cdv A outer s H E) ((defBody s__law_strange).drop 5) { nx := fun _ H' => Q .non H', rt := Q } [some (.ref sc), some (.str r.s), some (.ref n), some (.ref l)] G := by
    intro l G xs sm el hx
    refine sxs_one (sx_ret ?_)
    walk_at "ex"
    refine ⟨sc, ns, 60, 7, rfl, sm.seq hS, hl, by decide, by decide, by decide, ?_⟩
    obtain ⟨z, ez, hb, hok⟩ := hx _ (drawF_nn ns 60 (m := 7) (by decide)) (drawF_lt ns 60 (m := 7) (by decide))
    refine i_list (SqL.of el) ez ?_
    exact q z G sm hb hok
  refine sxs_cons ?_
  refine L2.sx_set (i := 3) (x := "_law_some") nd (by rfl) (Or.inl rfl) (by rfl) (Or.inl rfl) ?_
  walk_at "ex"
  refine ⟨by show 7 ≤ sizeLine; omega, fun l0 h0 => ?_⟩
  have s0 : Same H (upd H l0 (.lst [.str (Str.ofString ""), .str (Str.ofString "?"), .str (Str.ofString "All"), .str (Str.ofString "xor"), .str (Str.ofString "'a"), .str (Str.ofString "not-"), .str (Str.ofString "nobody")])) := Same.upd h0
  have e0 : (upd H l0 (.lst [.str (Str.ofString ""), .str (Str.ofString "?"), .str (Str.ofString "All"), .str (Str.ofString "xor"), .str (Str.ofString "'a"), .str (Str.ofString "not-"), .str (Str.ofString "nobody")])) l0 = some (.lst [.str (Str.ofString ""), .str (Str.ofString "?"), .str (Str.ofString "All"), .str (Str.ofString "xor"), .str (Str.ofString "'a"), .str (Str.ofString "not-"), .str (Str.ofString "nobody")]) := upd_same
  generalize upd H l0 (.lst [.str (Str.ofString ""), .str (Str.ofString "?"), .str (Str.ofString "All"), .str (Str.ofString "xor"), .str (Str.ofString "'a"), .str (Str.ofString "not-"), .str (Str.ofString "nobody")]) = H0 at s0 e0 ⊢
  cases r with
  | sieve =>
    refine (sxs_cons (sx_if ?_))
    walk_at "ex"
    refine ifD (fun h => absurd h (by decide +kernel)) (fun _ => ?_)
    refine sxs_nil (sxs_cons (sx_if ?_))
    walk_at "ex"
    refine ifD (fun h => absurd h (by decide +kernel)) (fun _ => ?_)
    refine sxs_nil (sxs_cons (sx_if ?_))
    walk_at "ex"
    refine ifD (fun h => absurd h (by decide +kernel)) (fun _ => ?_)
    refine sxs_nil (sxs_cons (sx_if ?_))
    walk_at "ex"
    refine ifD (fun h => absurd h (by decide +kernel)) (fun _ => ?_)
    exact sxs_nil (fin l0 H0 _ s0 e0 fun d h0 h1 => odd_sieve hN h0 h1)
  | name =>
    refine (sxs_cons (sx_if ?_))
    walk_at "ex"
    refine ifD (fun _ => ?_) (fun h => absurd rfl h)
    refine sxs_one ?_
    refine L2.sx_set (i := 3) (x := "_law_some") nd (by rfl) (Or.inl rfl) (by rfl) (Or.inl rfl) ?_
    walk_at "ex"
    refine ⟨by show 7 ≤ sizeLine; omega, fun l1 h1 => ?_⟩
    have s1 : Same H0 (upd H0 l1 (.lst [.str (Str.ofString ""), .str (Str.ofString "?"), .str (Str.ofString "ups"), .str (Str.ofString "Up"), .str (Str.ofString "nobody"), .str (Str.ofString "alls"), .str (Str.ofString "'a")])) := Same.upd h1
    have e1 : (upd H0 l1 (.lst [.str (Str.ofString ""), .str (Str.ofString "?"), .str (Str.ofString "ups"), .str (Str.ofString "Up"), .str (Str.ofString "nobody"), .str (Str.ofString "alls"), .str (Str.ofString "'a")])) l1 = some (.lst [.str (Str.ofString ""), .str (Str.ofString "?"), .str (Str.ofString "ups"), .str (Str.ofString "Up"), .str (Str.ofString "nobody"), .str (Str.ofString "alls"), .str (Str.ofString "'a")]) := upd_same
    change SXs _ _ _ _ (upd H0 l1 (.lst [.str (Str.ofString ""), .str (Str.ofString "?"), .str (Str.ofString "ups"), .str (Str.ofString "Up"), .str (Str.ofString "nobody"), .str (Str.ofString "alls"), .str (Str.ofString "'a")]))
    generalize upd H0 l1 (.lst [.str (Str.ofString ""), .str (Str.ofString "?"), .str (Str.ofString "ups"), .str (Str.ofString "Up"), .str (Str.ofString "nobody"), .str (Str.ofString "alls"), .str (Str.ofString "'a")]) = H1 at s1 e1 ⊢
    refine (sxs_cons (sx_if ?_))
    walk_at "ex"
    refine ifD (fun h => absurd h (by decide +kernel)) (fun _ => ?_)
    refine sxs_nil (sxs_cons (sx_if ?_))
    walk_at "ex"
    refine ifD (fun h => absurd h (by decide +kernel)) (fun _ => ?_)
    refine sxs_nil (sxs_cons (sx_if ?_))
    walk_at "ex"
    refine ifD (fun h => absurd h (by decide +kernel)) (fun _ => ?_)
    exact sxs_nil (fin l1 H1 _ (s0.trans s1) e1 fun d h0 h1 => odd_name hN h0 h1)
  | held =>
    refine (sxs_cons (sx_if ?_))
    walk_at "ex"
    refine ifD (fun h => absurd h (by decide +kernel)) (fun _ => ?_)
    refine sxs_nil (sxs_cons (sx_if ?_))
    walk_at "ex"
    refine ifD (fun _ => ?_) (fun h => absurd rfl h)
    refine sxs_one ?_
    refine L2.sx_set (i := 3) (x := "_law_some") nd (by rfl) (Or.inl rfl) (by rfl) (Or.inl rfl) ?_
    walk_at "ex"
    refine i_list (s0.seq hn) (i := 0) rfl ?_
    walk_at "ex"
    refine i_list (s0.seq hn) (i := 2) rfl ?_
    walk_at "ex"
    refine ⟨by show 7 ≤ sizeLine; omega, fun l1 h1 => ?_⟩
    have s1 : Same H0 (upd H0 l1 (.lst [.str (Str.ofString ""), .str (Str.ofString "?"), .str (Str.ofString "nobody"), .str (nm 0), .str (nm 2), .str (Str.ofString "'a"), .str (Str.ofString "1")])) := Same.upd h1
    have e1 : (upd H0 l1 (.lst [.str (Str.ofString ""), .str (Str.ofString "?"), .str (Str.ofString "nobody"), .str (nm 0), .str (nm 2), .str (Str.ofString "'a"), .str (Str.ofString "1")])) l1 = some (.lst [.str (Str.ofString ""), .str (Str.ofString "?"), .str (Str.ofString "nobody"), .str (nm 0), .str (nm 2), .str (Str.ofString "'a"), .str (Str.ofString "1")]) := upd_same
    change SXs _ _ _ _ (upd H0 l1 (.lst [.str (Str.ofString ""), .str (Str.ofString "?"), .str (Str.ofString "nobody"), .str (nm 0), .str (nm 2), .str (Str.ofString "'a"), .str (Str.ofString "1")]))
    generalize upd H0 l1 (.lst [.str (Str.ofString ""), .str (Str.ofString "?"), .str (Str.ofString "nobody"), .str (nm 0), .str (nm 2), .str (Str.ofString "'a"), .str (Str.ofString "1")]) = H1 at s1 e1 ⊢
    refine (sxs_cons (sx_if ?_))
    walk_at "ex"
    refine ifD (fun h => absurd h (by decide +kernel)) (fun _ => ?_)
    refine sxs_nil (sxs_cons (sx_if ?_))
    walk_at "ex"
    refine ifD (fun h => absurd h (by decide +kernel)) (fun _ => ?_)
    exact sxs_nil (fin l1 H1 _ (s0.trans s1) e1 fun d h0 h1 => odd_held hN h0 h1)
  | text =>
    refine (sxs_cons (sx_if ?_))
    walk_at "ex"
    refine ifD (fun h => absurd h (by decide +kernel)) (fun _ => ?_)
    refine sxs_nil (sxs_cons (sx_if ?_))
    walk_at "ex"
    refine ifD (fun h => absurd h (by decide +kernel)) (fun _ => ?_)
    refine sxs_nil (sxs_cons (sx_if ?_))
    walk_at "ex"
    refine ifD (fun _ => ?_) (fun h => absurd rfl h)
    refine sxs_one ?_
    refine L2.sx_set (i := 3) (x := "_law_some") nd (by rfl) (Or.inl rfl) (by rfl) (Or.inl rfl) ?_
    walk_at "ex"
    refine ⟨by show 7 ≤ sizeLine; omega, fun l1 h1 => ?_⟩
    have s1 : Same H0 (upd H0 l1 (.lst [.str (Str.ofString ""), .str (Str.ofString "?"), .str (Str.ofString "'A"), .str (Str.ofString "x"), .str (Str.ofString "1"), .str (Str.ofString "'b'"), .str (Str.ofString "-1")])) := Same.upd h1
    have e1 : (upd H0 l1 (.lst [.str (Str.ofString ""), .str (Str.ofString "?"), .str (Str.ofString "'A"), .str (Str.ofString "x"), .str (Str.ofString "1"), .str (Str.ofString "'b'"), .str (Str.ofString "-1")])) l1 = some (.lst [.str (Str.ofString ""), .str (Str.ofString "?"), .str (Str.ofString "'A"), .str (Str.ofString "x"), .str (Str.ofString "1"), .str (Str.ofString "'b'"), .str (Str.ofString "-1")]) := upd_same
    change SXs _ _ _ _ (upd H0 l1 (.lst [.str (Str.ofString ""), .str (Str.ofString "?"), .str (Str.ofString "'A"), .str (Str.ofString "x"), .str (Str.ofString "1"), .str (Str.ofString "'b'"), .str (Str.ofString "-1")]))
    generalize upd H0 l1 (.lst [.str (Str.ofString ""), .str (Str.ofString "?"), .str (Str.ofString "'A"), .str (Str.ofString "x"), .str (Str.ofString "1"), .str (Str.ofString "'b'"), .str (Str.ofString "-1")]) = H1 at s1 e1 ⊢
    refine (sxs_cons (sx_if ?_))
    walk_at "ex"
    refine ifD (fun h => absurd h (by decide +kernel)) (fun _ => ?_)
    exact sxs_nil (fin l1 H1 _ (s0.trans s1) e1 fun d h0 h1 => odd_text hN h0 h1)
  | number =>
    refine (sxs_cons (sx_if ?_))
    walk_at "ex"
    refine ifD (fun h => absurd h (by decide +kernel)) (fun _ => ?_)
    refine sxs_nil (sxs_cons (sx_if ?_))
    walk_at "ex"
    refine ifD (fun h => absurd h (by decide +kernel)) (fun _ => ?_)
    refine sxs_nil (sxs_cons (sx_if ?_))
    walk_at "ex"
    refine ifD (fun h => absurd h (by decide +kernel)) (fun _ => ?_)
    refine sxs_nil (sxs_cons (sx_if ?_))
    walk_at "ex"
    refine ifD (fun _ => ?_) (fun h => absurd rfl h)
    refine sxs_one ?_
    refine L2.sx_set (i := 3) (x := "_law_some") nd (by rfl) (Or.inl rfl) (by rfl) (Or.inl rfl) ?_
    walk_at "ex"
    refine c_strI (log_ok (by decide +kernel)) ?_
    walk_at "ex"
    refine ⟨by show 7 ≤ sizeLine; omega, fun l1 h1 => ?_⟩
    have s1 : Same H0 (upd H0 l1 (.lst [.str (Str.ofString ""), .str (Str.ofString "?"), .str (Str.ofString "'1"), .str (Str.ofString "+1"), .str (Str.ofString "-0"), .str (Str.ofString "07"), .str (Str.ofString "1000000000000000001")])) := Same.upd h1
    have e1 : (upd H0 l1 (.lst [.str (Str.ofString ""), .str (Str.ofString "?"), .str (Str.ofString "'1"), .str (Str.ofString "+1"), .str (Str.ofString "-0"), .str (Str.ofString "07"), .str (Str.ofString "1000000000000000001")])) l1 = some (.lst [.str (Str.ofString ""), .str (Str.ofString "?"), .str (Str.ofString "'1"), .str (Str.ofString "+1"), .str (Str.ofString "-0"), .str (Str.ofString "07"), .str (Str.ofString "1000000000000000001")]) := upd_same
    change SXs _ _ _ _ (upd H0 l1 (.lst [.str (Str.ofString ""), .str (Str.ofString "?"), .str (Str.ofString "'1"), .str (Str.ofString "+1"), .str (Str.ofString "-0"), .str (Str.ofString "07"), .str (Str.ofString "1000000000000000001")]))
    generalize upd H0 l1 (.lst [.str (Str.ofString ""), .str (Str.ofString "?"), .str (Str.ofString "'1"), .str (Str.ofString "+1"), .str (Str.ofString "-0"), .str (Str.ofString "07"), .str (Str.ofString "1000000000000000001")]) = H1 at s1 e1 ⊢
    exact fin l1 H1 _ (s0.trans s1) e1 fun d h0 h1 => odd_number hN h0 h1
end
end K08

namespace K08
open PySem L2 PyProof.Rows My Vl Lw
section
variable {P : Program} {w : World} {K : PySem.W.Frag} {mg : Str → Option Value} {base : Heap}
def inWh (s : Stmt) : List Stmt := match s with
  | .While _ b _ _ => b
  | _ => []
/-! a tree grown from its root: words so far, and open places -/
theorem wr_nt (nm : Nat → Str) (t : Tr) : wr nm (.nt t) = (Str.ofString "not", Str.ofString "sieve") :: wr nm t := rfl
theorem wr_bo (nm : Nat → Str) (t u : Tr) : wr nm (.bo t u) = (Str.ofString "both", Str.ofString "sieve") :: (wr nm t ++ wr nm u) := by
  unfold wr
  rw [zipR_app (rT_len nm t)]
  rfl
theorem wr_ei (nm : Nat → Str) (t u : Tr) : wr nm (.ei t u) = (Str.ofString "either", Str.ofString "sieve") :: (wr nm t ++ wr nm u) := by
  unfold wr
  rw [zipR_app (rT_len nm t)]
  rfl
def flatW (nm : Nat → Str) (ts : List Tr) : List Col := (ts.map (wr nm)).flatten
structure Hole (nm : Nat → Str) (ws : List Col) (ds : List Int) : Prop where
  fill : ∀ ts : List Tr, ts.length = ds.length → (∀ t ∈ ts, goodT t) → (∀ (i : Nat) t d, ts[i]? = some t → ds[i]? = some d → d + t.dep ≤ 9) → ∃ t, goodT t ∧ t.dep ≤ 9 ∧ wr nm t = ws ++ flatW nm ts.reverse
theorem Hole.start (nm : Nat → Str) : Hole nm [] [0] := ⟨fun ts hl hg hd => by
  match ts, hl with
  | [t], _ =>
    have := hd 0 t 0 rfl rfl
    exact ⟨t, hg t (by simp), by omega, by simp [flatW]⟩⟩
theorem Hole.ends {nm : Nat → Str} {ws : List Col} (h : Hole nm ws []) : ∃ t, goodT t ∧ t.dep ≤ 9 ∧ wr nm t = ws := by
  obtain ⟨t, h1, h2, h3⟩ := h.fill [] rfl (by simp) (fun i t d e => by simp at e)
  exact ⟨t, h1, h2, by simpa [flatW] using h3⟩
theorem get_last {α : Type} {l : List α} {x y : α} {i : Nat} (h : (l ++ [x])[i]? = some y) : (i < l.length ∧ l[i]? = some y) ∨ (i = l.length ∧ y = x) := by
  by_cases hi : i < l.length
  · rw [List.getElem?_append_left hi] at h
    exact .inl ⟨hi, h⟩
  · rw [List.getElem?_append_right (by omega)] at h
    have hj : i - l.length < [x].length := (List.getElem?_eq_some_iff.mp h).1
    have hj2 : i - l.length = 0 := by have : [x].length = 1 := rfl; omega
    rw [hj2] at h
    exact .inr ⟨by omega, by simpa using h.symm⟩
/-- the last open place filled -/
theorem Hole.top {nm : Nat → Str} {ws : List Col} {ds : List Int} {d : Int} (h : Hole nm ws (ds ++ [d])) {ts : List Tr} (hl : ts.length = ds.length) (hg : ∀ t ∈ ts, goodT t) (hd : ∀ (i : Nat) t d, ts[i]? = some t → ds[i]? = some d → d + t.dep ≤ 9) {u : Tr} (hu : goodT u) (hud : d + u.dep ≤ 9) :
    ∃ t, goodT t ∧ t.dep ≤ 9 ∧ wr nm t = ws ++ (wr nm u ++ flatW nm ts.reverse) := by
  obtain ⟨t, h1, h2, h3⟩ := h.fill (ts ++ [u]) (by simp [hl]) (fun x hx => by
    rcases List.mem_append.mp hx with hx | hx
    · exact hg x hx
    · rw [List.mem_singleton.mp hx]; exact hu) (fun i x e h4 h5 => by
    rcases get_last h4 with ⟨a1, a2⟩ | ⟨a1, a2⟩
    · rcases get_last h5 with ⟨b1, b2⟩ | ⟨b1, b2⟩
      · exact hd i x e a2 b2
      · omega
    · rcases get_last h5 with ⟨b1, b2⟩ | ⟨b1, b2⟩
      · omega
      · rw [a2, b2]; exact hud)
  exact ⟨t, h1, h2, by rw [h3]; simp [flatW]⟩
theorem Hole.leaf {nm : Nat → Str} {ws : List Col} {ds : List Int} {d : Int} (h : Hole nm ws (ds ++ [d])) {sv : Sv1} (hs : goodS sv) (hd9 : d ≤ 9) : Hole nm (ws ++ zipR (leafW nm sv) (leafR sv)) ds := ⟨fun ts hl hg hd => by
  obtain ⟨t, h1, h2, h3⟩ := h.top hl hg hd (u := .one sv) hs (by show d + (0 : Nat) ≤ 9; omega)
  exact ⟨t, h1, h2, by rw [h3, List.append_assoc]; rfl⟩⟩
theorem split_last {α : Type} : ∀ {l : List α} {n : Nat}, l.length = n + 1 → ∃ r x, l = r ++ [x] ∧ r.length = n := by
  intro l n h
  have hne : l ≠ [] := fun e => by rw [e] at h; simp at h
  refine ⟨l.dropLast, l.getLast hne, (List.dropLast_concat_getLast hne).symm, ?_⟩
  rw [List.length_dropLast]
  omega
theorem Hole.nt {nm : Nat → Str} {ws : List Col} {ds : List Int} {d : Int} (h : Hole nm ws (ds ++ [d])) : Hole nm (ws ++ [(Str.ofString "not", Str.ofString "sieve")]) (ds ++ [d + 1]) := ⟨fun ts hl hg hd => by
  obtain ⟨r, x, rfl, hr⟩ := split_last (l := ts) (n := ds.length) (by rw [hl]; simp)
  have hx := hd ds.length x (d + 1) (by rw [← hr]; simp) (by simp)
  obtain ⟨t, h1, h2, h3⟩ := h.top hr (fun t ht => hg t (List.mem_append_left _ ht)) (fun i t e a b => hd i t e (by rw [List.getElem?_append_left (List.getElem?_eq_some_iff.mp a).1]; exact a) (by rw [List.getElem?_append_left (List.getElem?_eq_some_iff.mp b).1]; exact b)) (u := .nt x) (hg x (by simp)) (by show d + ((x.dep + 1 : Nat) : Int) ≤ 9; omega)
  refine ⟨t, h1, h2, ?_⟩
  rw [h3, wr_nt]
  simp [flatW]⟩
theorem Hole.bo {nm : Nat → Str} {ws : List Col} {ds : List Int} {d : Int} (h : Hole nm ws (ds ++ [d])) : Hole nm (ws ++ [(Str.ofString "both", Str.ofString "sieve")]) (ds ++ [d + 1, d + 1]) := ⟨fun ts hl hg hd => by
  obtain ⟨r1, x, rfl, hr1⟩ := split_last (l := ts) (n := ds.length + 1) (by rw [hl]; simp)
  obtain ⟨r, y, rfl, hr⟩ := split_last (l := r1) (n := ds.length) hr1
  have hx := hd (ds.length + 1) x (d + 1) (by rw [← hr1]; simp) (by simp)
  have hy := hd ds.length y (d + 1) (by rw [List.append_assoc, ← hr]; simp) (by simp)
  obtain ⟨t, h1, h2, h3⟩ := h.top hr (fun t ht => hg t (List.mem_append_left _ (List.mem_append_left _ ht))) (fun i t e a b => hd i t e (by rw [List.append_assoc, List.getElem?_append_left (List.getElem?_eq_some_iff.mp a).1]; exact a) (by rw [List.getElem?_append_left (List.getElem?_eq_some_iff.mp b).1]; exact b)) (u := .bo x y) ⟨hg x (by simp), hg y (by simp)⟩ (by show d + ((max x.dep y.dep + 1 : Nat) : Int) ≤ 9; omega)
  refine ⟨t, h1, h2, ?_⟩
  rw [h3]
  simp [flatW, wr_bo]⟩
theorem Hole.ei {nm : Nat → Str} {ws : List Col} {ds : List Int} {d : Int} (h : Hole nm ws (ds ++ [d])) : Hole nm (ws ++ [(Str.ofString "either", Str.ofString "sieve")]) (ds ++ [d + 1, d + 1]) := ⟨fun ts hl hg hd => by
  obtain ⟨r1, x, rfl, hr1⟩ := split_last (l := ts) (n := ds.length + 1) (by rw [hl]; simp)
  obtain ⟨r, y, rfl, hr⟩ := split_last (l := r1) (n := ds.length) hr1
  have hx := hd (ds.length + 1) x (d + 1) (by rw [← hr1]; simp) (by simp)
  have hy := hd ds.length y (d + 1) (by rw [List.append_assoc, ← hr]; simp) (by simp)
  obtain ⟨t, h1, h2, h3⟩ := h.top hr (fun t ht => hg t (List.mem_append_left _ (List.mem_append_left _ ht))) (fun i t e a b => hd i t e (by rw [List.append_assoc, List.getElem?_append_left (List.getElem?_eq_some_iff.mp a).1]; exact a) (by rw [List.getElem?_append_left (List.getElem?_eq_some_iff.mp b).1]; exact b)) (u := .ei x y) ⟨hg x (by simp), hg y (by simp)⟩ (by show d + ((max x.dep y.dep + 1 : Nat) : Int) ≤ 9; omega)
  refine ⟨t, h1, h2, ?_⟩
  rw [h3]
  simp [flatW, wr_ei]⟩
theorem all2_upd {H : Hp} {a : Addr} {o : HO} {vs : List V} {wl : List Col} (h : All2 (ColAt H) vs wl) (ha : ∀ xs, H a ≠ some (.tup xs)) : All2 (ColAt (upd H a o)) vs wl := h.imp fun v c ⟨t, e, q⟩ => ⟨t, e, by rw [upd_ne (fun z => ha _ (z ▸ q))]; exact q⟩
theorem cols_other {H : Hp} {a b : Addr} {o : HO} {wl : List Col} (h : Cols H b wl) (hb : b ≠ a) (ha : ∀ xs, H a ≠ some (.tup xs)) : Cols (upd H a o) b wl := by
  obtain ⟨vs, e, q⟩ := h
  exact ⟨vs, by rw [upd_ne hb]; exact e, all2_upd q ha⟩
theorem notTup {H : Hp} {a : Addr} {xs : List V} (h : H a = some (.lst xs)) : ∀ ys, H a ≠ some (.tup ys) := fun ys z => by rw [h] at z; cases z
def spTree8 (K : PySem.W.Frag) (nm : Nat → Str) : Sp := fun vs H Q _ => ∃ (sc n : Addr) (ns : List Int), vs = [.ref sc, .ref n] ∧ SqL K H sc (ns.map V.int) ∧ ns.length ≤ 63 ∧ SqL K H n [.str (nm 0), .str (nm 1), .str (nm 2)] ∧
  ∀ p t H', Same H H' → Cols H' p (wr nm t) → goodT t → t.dep ≤ 9 → (wT nm t).length ≤ 40 → Q (.ref p) H'
/-- how far a tree has grown: i marks, l looks, o open -/
def Cnt (k i b l o m : Nat) : Prop := k = i + l ∧ i ≤ 8 ∧ b ≤ i ∧ o + l = 1 + b ∧ m ≤ i + 3 * l
theorem d__law_tree (T : Txt K mg) {nm : Nat → Str} (hN : NmOk nm) : Def P w K mg base true 3 "_law_tree" ["_law_script", "_law_names"] (spTree8 K nm) := by
  refine df__law_tree T (fun vs H Q E h => by obtain ⟨sc, n, ns, rfl, _⟩ := h; rfl) (fun f cdv A outer s H vs Q E hr h => ?_)
  obtain ⟨sc, n, ns, rfl, hS, hl, hn, q⟩ := h
  have nd := sc__law_tree.nd
  have n1 := T.n_len
  have hsz : sizeLine = 16777216 := sizeLine_eq
  have D1 : Def P w K mg base true 1 "_law_draw" ["_law_script", "_law_k", "_law_many"] (spDraw K) := d__law_draw T
  have D2 : Def P w K mg base true 2 "_law_look" ["_law_script", "_law_base", "_law_names"] (spLook8 K nm) := d__law_look T nm
  refine sxs_cons ?_
  walk_at "s"
  walk_at "ex"
  refine ⟨by show 0 ≤ sizeLine; omega, fun w0 hw0 => ?_⟩
  have s0 : Same H (upd H w0 (.lst [])) := Same.upd hw0
  have e0 : (upd H w0 (.lst [])) w0 = some (.lst []) := upd_same
  generalize upd H w0 (.lst []) = H0 at s0 e0 ⊢
  refine sxs_cons ?_
  walk_at "s"
  walk_at "ex"
  refine ⟨by show 1 ≤ sizeLine; omega, fun o0 ho0 => ?_⟩
  have s1 : Same H0 (upd H0 o0 (.lst [.int 0])) := Same.upd ho0
  have e1 : (upd H0 o0 (.lst [.int 0])) o0 = some (.lst [.int 0]) := upd_same
  generalize upd H0 o0 (.lst [.int 0]) = H1 at s1 e1 ⊢
  refine sxs_cons ?_
  walk_at "s"
  walk_at "ex"
  refine sxs_cons ?_
  refine sx_while (by walk_at "po") (fun m σ H' => ∃ (w0 o0 : Addr) (ws : List Col) (ds : List Int) (k i b l : Nat) (o5 o6 : Option V), σ = [some (.ref sc), some (.ref n), some (.ref w0), some (.ref o0), some (.int k), o5, o6] ∧ Same H H' ∧ H w0 = none ∧ H o0 = none ∧ w0 ≠ o0 ∧ Cols H' w0 ws ∧ H' o0 = some (.lst (ds.map V.int)) ∧ Hole nm ws ds ∧ (∀ d ∈ ds, 0 ≤ d ∧ d ≤ 8) ∧ Cnt k i b l ds.length ws.length ∧ m = 3 * (8 - i) + ds.length) 25 ?_ (fun m σ H' hW => ?_)
  · refine ⟨w0, o0, [], [0], 0, 0, 0, 0, none, none, rfl, s0.trans s1, hw0, s0.free ho0, fun e => ?_, ⟨[], s1 _ _ e0, .nil⟩, e1, Hole.start nm, fun d hd => ?_, ⟨rfl, by decide, by decide, rfl, by decide⟩, rfl⟩
    · rw [← e, e0] at ho0; cases ho0
    · have : d = 0 := by simpa using hd
      omega
  obtain ⟨w0, o0, ws, ds, k, i, b, l, o5, o6, rfl, sm, fw, fo, hwo, ew, eo, hh, hds, hc, rfl⟩ := hW
  obtain ⟨c1, c2, c3, c4, c5⟩ := id hc
  have sqo : SqL K H' o0 (ds.map V.int) := SqL.of eo
  have hdl : (ds.map V.int).length = ds.length := List.length_map ..
  walk_at "ex"
  rw [hdl]
  refine ifD (fun hpos => ?_) (fun hpos => ?_)
  rotate_left
  · have hd0 : ds = [] := List.length_eq_zero_iff.mp (by omega)
    subst hd0
    obtain ⟨t, g1, g2, g3⟩ := hh.ends
    have hlen : (wT nm t).length ≤ 40 := by
      rw [← wr_len, g3]
      have : 0 + l = 1 + b := c4
      omega
    refine sxs_one ?_
    walk_at "go"
    exact q w0 t H' sm (by rw [g3]; exact ew) g1 g2 hlen
  have hd1 : 0 < ds.length := by omega
  obtain ⟨dr, d, rfl, hdr⟩ := split_last (l := ds) (n := ds.length - 1) (by omega)
  have hd8 := hds d (by simp)
  have hdl2 : (dr ++ [d]).length = dr.length + 1 := by simp
  rw [hdl2] at c4 hdr
  have hmap : (dr ++ [d]).map V.int = dr.map V.int ++ [.int d] := by simp
  rw [hmap] at eo sqo
  have hlm : (dr.map V.int ++ [V.int d]).length = dr.length + 1 := by simp
  have stp : ∀ (σ' : List (Option V)) (G : Hp) (w1 o1 : Addr) (ws' : List Col) (ds' : List Int) (i' b' l' : Nat) (o5 o6 : Option V), σ' = [some (.ref sc), some (.ref n), some (.ref w1), some (.ref o1), some (.int ((k : Int) + 1)), o5, o6] → Same H G → H w1 = none → H o1 = none → w1 ≠ o1 → Cols G w1 ws' → G o1 = some (.lst (ds'.map V.int)) → Hole nm ws' ds' → (∀ d ∈ ds', 0 ≤ d ∧ d ≤ 8) → Cnt (k + 1) i' b' l' ds'.length ws'.length → 3 * (8 - i') + ds'.length < 3 * (8 - i) + (dr.length + 1) →
      ∃ m', m' < 3 * (8 - i) + (dr ++ [d]).length ∧ ∃ (w0 o0 : Addr) (ws : List Col) (ds : List Int) (k i b l : Nat) (o5 o6 : Option V), σ' = [some (.ref sc), some (.ref n), some (.ref w0), some (.ref o0), some (.int k), o5, o6] ∧ Same H G ∧ H w0 = none ∧ H o0 = none ∧ w0 ≠ o0 ∧ Cols G w0 ws ∧ G o0 = some (.lst (ds.map V.int)) ∧ Hole nm ws ds ∧ (∀ d ∈ ds, 0 ≤ d ∧ d ≤ 8) ∧ Cnt k i b l ds.length ws.length ∧ m' = 3 * (8 - i) + ds.length := by
    intro σ' G w1 o1 ws' ds' i' b' l' o5 o6 e1 a1 a2 a3 a4 a5 a6 a7 a8 a9 a10
    exact ⟨_, by rw [hdl2]; exact a10, w1, o1, ws', ds', k + 1, i', b', l', o5, o6, e1, a1, a2, a3, a4, a5, a6, a7, a8, a9, rfl⟩
  refine ⟨fun σ' G => ∃ (w1 o1 : Addr) (ws' : List Col) (ds' : List Int) (i' b' l' : Nat) (o5 o6 : Option V), σ' = [some (.ref sc), some (.ref n), some (.ref w1), some (.ref o1), some (.int ((k : Int) + 1)), o5, o6] ∧ Same H G ∧ H w1 = none ∧ H o1 = none ∧ w1 ≠ o1 ∧ Cols G w1 ws' ∧ G o1 = some (.lst (ds'.map V.int)) ∧ Hole nm ws' ds' ∧ (∀ d ∈ ds', 0 ≤ d ∧ d ≤ 8) ∧ Cnt (k + 1) i' b' l' ds'.length ws'.length ∧ 3 * (8 - i') + ds'.length < 3 * (8 - i) + (dr.length + 1), fun σ' G hN => ?_, ?_⟩
  · obtain ⟨w1, o1, ws', ds', i', b', l', o5, o6, a0, a1, a2, a3, a4, a5, a6, a7, a8, a9, a10⟩ := hN
    exact stp σ' G w1 o1 ws' ds' i' b' l' o5 o6 a0 a1 a2 a3 a4 a5 a6 a7 a8 a9 a10
  clear stp
  -- deep = open_now.pop()
  refine sxs_cons ?_
  walk_at "s"
  refine ev_bm0 PySem.F.plainAttrs_list PySem.F.slot_list_pop PySem.F.type_list_pop (by rfl) (by rfl) ?_
  walk_at "e"
  refine ⟨.inl ⟨rfl, _, sqo⟩, ?_⟩
  refine mt_by mt_pop ⟨o0, _, .int d, rfl, rfl, eo, by rw [hlm]; simp, ?_⟩
  rw [List.dropLast_concat]
  have eo2 : (upd H' o0 (.lst (dr.map V.int))) o0 = some (.lst (dr.map V.int)) := upd_same
  have ew2 : Cols (upd H' o0 (.lst (dr.map V.int))) w0 ws := cols_other ew hwo (notTup eo)
  have sm2 : Same H (upd H' o0 (.lst (dr.map V.int))) := fun x u e => by
    rw [upd_ne (fun z => by rw [z, fo] at e; cases e)]
    exact sm _ _ e
  generalize upd H' o0 (.lst (dr.map V.int)) = H2 at eo2 ew2 sm2 ⊢
  refine sxs_cons ?_
  walk_at "s"
  walk_at "ex"
  refine sxs_cons ?_
  walk_at "s"
  walk_at "ex"
  refine ⟨sc, ns, _, 5, rfl, sm2.seq hS, hl, by omega, by omega, by decide, ?_⟩
  have y0 := drawF_nn ns (20 + ((k : Int) + 1)) (m := 5) (by decide)
  have y1 := drawF_lt ns (20 + ((k : Int) + 1)) (m := 5) (by decide)
  generalize drawF ns (20 + ((k : Int) + 1)) 5 = way at y0 y1 ⊢
  have hdr8 : ∀ x ∈ dr, 0 ≤ x ∧ x ≤ 8 := fun x hx => hds x (List.mem_append_left _ hx)
  -- a look
  have lookP : ∀ (D : Ends) (o6 : Option V), (∀ σ' G, (∃ (w1 o1 : Addr) (ws' : List Col) (ds' : List Int) (i' b' l' : Nat) (o5 o6 : Option V), σ' = [some (.ref sc), some (.ref n), some (.ref w1), some (.ref o1), some (.int ((k : Int) + 1)), o5, o6] ∧ Same H G ∧ H w1 = none ∧ H o1 = none ∧ w1 ≠ o1 ∧ Cols G w1 ws' ∧ G o1 = some (.lst (ds'.map V.int)) ∧ Hole nm ws' ds' ∧ (∀ d ∈ ds', 0 ≤ d ∧ d ≤ 8) ∧ Cnt (k + 1) i' b' l' ds'.length ws'.length ∧ 3 * (8 - i') + ds'.length < 3 * (8 - i) + (dr.length + 1)) → D.nx σ' G) →
      SXs (CxF true P w K mg base N__law_tree "_law_tree" (defScope s__law_tree) f cdv A outer s H E) (inIf (stAt (inWh (stAt (defBody s__law_tree) 3)) 3)) D [some (.ref sc), some (.ref n), some (.ref w0), some (.ref o0), some (.int ((k : Int) + 1)), some (.int d), o6] H2 := by
    intro D o6 hD
    refine sxs_one ?_
    walk_at "s"
    walk_at "ex"
    refine ⟨sc, n, ns, _, rfl, sm2.seq hS, hl, by omega, by omega, sm2.seq hn, fun p sv H3 sm3 ep hg => ?_⟩
    have hll := leafW_len nm sv
    have hlr := zipR_len (leafR_len nm sv)
    obtain ⟨vs0, ew3, aw3⟩ := ew2.same sm3
    obtain ⟨vs1, ep3, ap3⟩ := ep
    have hv0 := aw3.len
    have hv1 := ap3.len
    refine o_catL ew3 ep3 (by omega) fun w1 hw1 => ?_
    have sm23 := sm2.trans sm3
    have su : Same H3 (upd H3 w1 (.lst (vs0 ++ vs1))) := Same.upd hw1
    refine hD _ _ ⟨w1, o0, ws ++ zipR (leafW nm sv) (leafR sv), dr, i, b, l + 1, _, _, rfl, sm23.trans su, sm23.free hw1, fo, fun e => ?_, ⟨_, upd_same, (aw3.app ap3).imp fun v c r => r.same su⟩, su _ _ (sm3 _ _ eo2), hh.leaf hg (by omega), hdr8, ⟨by omega, c2, c3, by omega, by rw [List.length_append]; omega⟩, by omega⟩
    rw [e, sm3 _ _ eo2] at hw1
    cases hw1
  refine sxs_one (sx_if ?_)
  walk_at "ex"
  refine ifD (fun h => ?_) (fun hk12 => ?_)
  · exact lookP _ _ fun σ' G h => h
  walk_at "ex"
  refine ifD (fun h => ?_) (fun hd7 => ?_)
  · exact lookP _ _ fun σ' G h => h
  walk_at "ex"
  refine ifD (fun h => ?_) (fun hw2 => ?_)
  · exact lookP _ _ fun σ' G h => h
  clear lookP
  have hi11 : i + 1 ≤ 8 := by omega
  have hwl : ws.length ≤ 60 := by omega
  have hdl3 : dr.length ≤ 60 := by omega
  refine sxs_one (sx_if ?_)
  walk_at "ex"
  refine ifD (fun hw => ?_) (fun hw => ?_)
  · obtain ⟨vs0, ew2, aw2⟩ := ew2
    have hv0 := aw2.len
    refine sxs_cons (sx_expr (by rfl) (ev_bm PySem.F.plainAttrs_list PySem.F.slot_list_append PySem.F.type_list_append (by rfl) (by rfl) (by rfl) (by rfl) (by rfl) ?_))
    walk_at "e"
    refine ⟨.inl ⟨rfl, _, SqL.of ew2⟩, ?_⟩
    walk_at "ex"
    refine ⟨by show 2 ≤ sizeLine; omega, fun tp htp => ?_⟩
    have st : Same H2 (upd H2 tp (.tup [.str (Str.ofString "not"), .str (Str.ofString "sieve")])) := Same.upd htp
    have et : (upd H2 tp (.tup [.str (Str.ofString "not"), .str (Str.ofString "sieve")])) tp = some (.tup [.str (Str.ofString "not"), .str (Str.ofString "sieve")]) := upd_same
    generalize upd H2 tp (.tup [.str (Str.ofString "not"), .str (Str.ofString "sieve")]) = Ht at st et ⊢
    walk_at "ex"
    have ewt := st _ _ ew2
    have awt : All2 (ColAt Ht) (vs0 ++ [.ref tp]) (ws ++ [(Str.ofString "not", Str.ofString "sieve")]) := (aw2.imp fun v c r => r.same st).app (.cons ⟨tp, rfl, et⟩ .nil)
    refine mt_by mt_append ⟨w0, _, _, rfl, rfl, ewt, by omega, ?_⟩
    have ew3 : (upd Ht w0 (.lst (vs0 ++ [.ref tp]))) w0 = some (.lst (vs0 ++ [.ref tp])) := upd_same
    have aw3 := all2_upd (o := .lst (vs0 ++ [.ref tp])) awt (notTup ewt)
    have eo3 : (upd Ht w0 (.lst (vs0 ++ [.ref tp]))) o0 = some (.lst (dr.map V.int)) := by rw [upd_ne (Ne.symm hwo)]; exact st _ _ eo2
    have sm3 : Same H (upd Ht w0 (.lst (vs0 ++ [.ref tp]))) := fun x u e => by
      rw [upd_ne (fun z => by rw [z, fw] at e; cases e)]
      exact st _ _ (sm2 _ _ e)
    generalize upd Ht w0 (.lst (vs0 ++ [.ref tp])) = H3 at ew3 aw3 eo3 sm3 ⊢
    refine sxs_one (sx_expr (by rfl) (ev_bm PySem.F.plainAttrs_list PySem.F.slot_list_append PySem.F.type_list_append (by rfl) (by rfl) (by rfl) (by rfl) (by rfl) ?_))
    walk_at "e"
    refine ⟨.inl ⟨rfl, _, SqL.of eo3⟩, ?_⟩
    walk_at "go"
    refine mt_by mt_append ⟨o0, _, _, rfl, rfl, eo3, by rw [List.length_map]; omega, ?_⟩
    refine ⟨w0, o0, ws ++ [(Str.ofString "not", Str.ofString "sieve")], dr ++ [d + 1], i + 1, b, l, _, _, rfl, fun x u e => ?_, fw, fo, hwo, cols_other ⟨_, ew3, aw3⟩ hwo (notTup eo3), by rw [upd_same, List.map_append]; rfl, hh.nt, fun x hx => ?_, ⟨by omega, hi11, by omega, by rw [List.length_append]; show dr.length + 1 + l = _; omega, by rw [List.length_append]; show ws.length + 1 ≤ _; omega⟩, by rw [List.length_append]; show 3 * (8 - (i + 1)) + (dr.length + 1) < _; omega⟩
    · rw [upd_ne (fun z => by rw [z, fo] at e; cases e)]
      exact sm3 _ _ e
    · rcases List.mem_append.mp hx with hx | hx
      · exact hdr8 x hx
      · rw [List.mem_singleton.mp hx]; omega
  · have hw : way ≠ 0 := fun z => hw (by rw [z])
    obtain ⟨vs0, ew2, aw2⟩ := ew2
    have hv0 := aw2.len
    refine sxs_cons (sx_expr (by rfl) (ev_bm PySem.F.plainAttrs_list PySem.F.slot_list_append PySem.F.type_list_append (by rfl) (by rfl) (by rfl) (by rfl) (by rfl) ?_))
    walk_at "e"
    refine ⟨.inl ⟨rfl, _, SqL.of ew2⟩, ?_⟩
    walk_at "ex"
    refine ⟨by show 2 ≤ sizeLine; omega, fun pk hpk => ?_⟩
    have sk : Same H2 (upd H2 pk (.lst [.str (Str.ofString "both"), .str (Str.ofString "either")])) := Same.upd hpk
    have ek : (upd H2 pk (.lst [.str (Str.ofString "both"), .str (Str.ofString "either")])) pk = some (.lst [.str (Str.ofString "both"), .str (Str.ofString "either")]) := upd_same
    generalize upd H2 pk (.lst [.str (Str.ofString "both"), .str (Str.ofString "either")]) = Hk at sk ek ⊢
    obtain ⟨z, ez, hz⟩ : ∃ z : Str, atI [V.str (Str.ofString "both"), .str (Str.ofString "either")] (way - 1) = some (.str z) ∧ Hole nm (ws ++ [(z, Str.ofString "sieve")]) (dr ++ [d + 1, d + 1]) := by
      have hd : way = 1 ∨ way = 2 := by omega
      rcases hd with rfl | rfl
      · exact ⟨_, rfl, hh.bo⟩
      · exact ⟨_, rfl, hh.ei⟩
    walk_at "ex"
    refine i_list (SqL.of ek) ez ?_
    walk_at "ex"
    refine ⟨by show 2 ≤ sizeLine; omega, fun tp htp => ?_⟩
    have st : Same Hk (upd Hk tp (.tup [.str z, .str (Str.ofString "sieve")])) := Same.upd htp
    have et : (upd Hk tp (.tup [.str z, .str (Str.ofString "sieve")])) tp = some (.tup [.str z, .str (Str.ofString "sieve")]) := upd_same
    generalize upd Hk tp (.tup [.str z, .str (Str.ofString "sieve")]) = Ht at st et ⊢
    walk_at "ex"
    have skt := sk.trans st
    have ewt := skt _ _ ew2
    have awt : All2 (ColAt Ht) (vs0 ++ [.ref tp]) (ws ++ [(z, Str.ofString "sieve")]) := (aw2.imp fun v c r => r.same skt).app (.cons ⟨tp, rfl, et⟩ .nil)
    refine mt_by mt_append ⟨w0, _, _, rfl, rfl, ewt, by omega, ?_⟩
    have ew4 : (upd Ht w0 (.lst (vs0 ++ [.ref tp]))) w0 = some (.lst (vs0 ++ [.ref tp])) := upd_same
    have aw4 := all2_upd (o := .lst (vs0 ++ [.ref tp])) awt (notTup ewt)
    have eo4 : (upd Ht w0 (.lst (vs0 ++ [.ref tp]))) o0 = some (.lst (dr.map V.int)) := by rw [upd_ne (Ne.symm hwo)]; exact skt _ _ eo2
    have sm4 : Same H (upd Ht w0 (.lst (vs0 ++ [.ref tp]))) := fun x u e => by
      rw [upd_ne (fun z => by rw [z, fw] at e; cases e)]
      exact skt _ _ (sm2 _ _ e)
    generalize upd Ht w0 (.lst (vs0 ++ [.ref tp])) = H4 at ew4 aw4 eo4 sm4 ⊢
    refine sxs_one ?_
    walk_at "s"
    walk_at "ex"
    refine ⟨by show 2 ≤ sizeLine; omega, fun pd hpd => ?_⟩
    have sd : Same H4 (upd H4 pd (.lst [.int (d + 1), .int (d + 1)])) := Same.upd hpd
    have ed : (upd H4 pd (.lst [.int (d + 1), .int (d + 1)])) pd = some (.lst [.int (d + 1), .int (d + 1)]) := upd_same
    generalize upd H4 pd (.lst [.int (d + 1), .int (d + 1)]) = H5 at sd ed ⊢
    refine o_catL (sd _ _ eo4) ed (by rw [List.length_map]; show dr.length + 2 ≤ _; omega) fun o1 ho1 => ?_
    have sm5 := sm4.trans sd
    have cw5 : Cols H5 w0 (ws ++ [(z, Str.ofString "sieve")]) := Cols.same ⟨_, ew4, aw4⟩ sd
    refine ⟨w0, o1, ws ++ [(z, Str.ofString "sieve")], dr ++ [d + 1, d + 1], i + 1, b + 1, l, _, _, rfl, sm5.trans (Same.upd ho1), fw, sm5.free ho1, fun e => ?_, cw5.same (Same.upd ho1), by rw [upd_same, List.map_append]; rfl, hz, fun x hx => ?_, ⟨by omega, hi11, by omega, by rw [List.length_append]; show dr.length + 2 + l = _; omega, by rw [List.length_append]; show ws.length + 1 ≤ _; omega⟩, by rw [List.length_append]; show 3 * (8 - (i + 1)) + (dr.length + 2) < _; omega⟩
    · rw [← e, sd _ _ ew4] at ho1
      cases ho1
    · rcases List.mem_append.mp hx with hx | hx
      · exact hdr8 x hx
      · have : x = d + 1 := by simpa using hx
        omega
end
end K08

namespace K08
open PySem L2 PyProof.Rows My Vl Lw
section
variable {P : Program} {w : World} {K : PySem.W.Frag} {mg : Str → Option Value} {base : Heap}
/-! spoiled words -/
def cutW (ws : List Str) : List Str := if ws = [] then [Str.ofString ""] else ws
def NoN (nm : Nat → Str) (ws : List Str) (n : Nat) : Prop := Fails (cs3 nm) ws 0 0 n ∨ ∃ t : Tr, t.dep ≤ 20 ∧ Reads (cs3 nm) ws t 0 n ∧ n < ws.length
structure SpOk (nm : Nat → Str) (wl : List Col) (n : Nat) : Prop where
  ok : ∀ z ∈ wl.map Prod.fst, okW z
  len : wl.length ≤ 64
  no : NoN nm (cutW (wl.map Prod.fst)) n
theorem cutW_ne {ws : List Str} (h : ws ≠ []) : cutW ws = ws := if_neg h
theorem wr_ok {nm : Nat → Str} (h : NmOk nm) {t : Tr} (hg : goodT t) : ∀ z ∈ (wr nm t).map Prod.fst, okW z := by
  rw [wr_fst]
  exact wT_short h hg
theorem sp_put {nm : Nat → Str} (hN : Nm8 nm) {t : Tr} (hg : goodT t) (hd : t.dep ≤ 20) {a : Nat} {r : Rl} {z x : Str} {rest : List Col} (ha : a ≤ 60) (hr : (rT t)[a]? = some r) (hb : badW nm r z) (hz : okW z) (hrest : ∀ c ∈ rest, okW c.1) (hl : a + 1 + rest.length ≤ 64) :
    SpOk nm ((wr nm t).take a ++ [(z, x)] ++ rest) a := by
  have hal : a < (wT nm t).length := by rw [← rT_len]; exact (List.getElem?_eq_some_iff.mp hr).1
  have e : ((wr nm t).take a ++ [(z, x)] ++ rest).map Prod.fst = (wT nm t).take a ++ (z :: rest.map Prod.fst) := by
    rw [List.map_append, List.map_append, List.map_take, wr_fst, List.append_assoc]
    rfl
  have htl : ((wT nm t).take a).length = a := by rw [List.length_take]; omega
  refine ⟨fun y hy => ?_, ?_, .inl ?_⟩
  · rw [e] at hy
    rcases List.mem_append.mp hy with hy | hy
    · exact wT_short hN.toNmOk hg y (List.mem_of_mem_take hy)
    · rcases List.mem_cons.mp hy with rfl | hy
      · exact hz
      · obtain ⟨c, hc, rfl⟩ := List.mem_map.mp hy
        exact hrest c hc
  · rw [List.length_append, List.length_append, List.length_take, wr_len]
    show min a _ + 1 + rest.length ≤ 64
    omega
  · rw [e, cutW_ne (by simp)]
    have := fails_of hN.toNmOk (ws := (wT nm t).take a ++ (z :: rest.map Prod.fst)) (t := t) (s := 0) (j := a) (k := 0) hg (fun i hi => by
      rw [Nat.zero_add, List.getElem?_append_left (by omega), List.getElem?_take, if_pos hi]) hr (.inr ⟨z, by rw [Nat.zero_add, List.getElem?_append_right (by omega), htl, Nat.sub_self]; rfl, hb⟩) (by omega) (by omega)
    rw [Nat.zero_add] at this
    exact this
theorem sp_drop {nm : Nat → Str} (hN : Nm8 nm) {t : Tr} (hg : goodT t) (hd : t.dep ≤ 20) (hl : (wT nm t).length ≤ 60) : SpOk nm ((wr nm t).take ((wT nm t).length - 1)) ((wT nm t).length - 1) := by
  have hpos : 0 < (wT nm t).length := List.length_pos_iff.mpr (wT_ne nm t)
  have e : ((wr nm t).take ((wT nm t).length - 1)).map Prod.fst = (wT nm t).take ((wT nm t).length - 1) := by rw [List.map_take, wr_fst]
  have hr : ∃ r, (rT t)[(wT nm t).length - 1]? = some r := ⟨_, List.getElem?_eq_getElem (by rw [rT_len nm t]; omega)⟩
  obtain ⟨r, hr⟩ := hr
  refine ⟨fun y hy => ?_, ?_, .inl ?_⟩
  · rw [e] at hy
    exact wT_short hN.toNmOk hg y (List.mem_of_mem_take hy)
  · rw [List.length_take]
    omega
  · rw [e]
    by_cases h1 : (wT nm t).length = 1
    · rw [h1]
      show Fails (cs3 nm) (cutW []) 0 0 0
      exact .odd (z := Str.ofString "") rfl (by omega) (by decide +kernel)
    · have hne : (wT nm t).take ((wT nm t).length - 1) ≠ [] := fun z => by
        have := congrArg List.length z
        rw [List.length_take] at this
        simp at this
        omega
      rw [cutW_ne hne]
      have htl : ((wT nm t).take ((wT nm t).length - 1)).length = (wT nm t).length - 1 := by rw [List.length_take]; omega
      have := fails_of hN.toNmOk (ws := (wT nm t).take ((wT nm t).length - 1)) (t := t) (s := 0) (j := (wT nm t).length - 1) (k := 0) hg (fun i hi => by
        rw [Nat.zero_add, List.getElem?_take, if_pos hi]) hr (.inl (by rw [htl]; omega)) (by omega) (by omega)
      rw [Nat.zero_add] at this
      exact this
theorem sp_more {nm : Nat → Str} (hN : Nm8 nm) {t : Tr} {z x : Str} (hg : goodT t) (hd : t.dep ≤ 20) (hl : (wT nm t).length ≤ 60) (hz : okW z) : SpOk nm (wr nm t ++ [(z, x)]) (wT nm t).length := by
  have e : (wr nm t ++ [(z, x)]).map Prod.fst = wT nm t ++ [z] := by rw [List.map_append, wr_fst]; rfl
  refine ⟨fun y hy => ?_, ?_, .inr ⟨t, hd, ?_⟩⟩
  · rw [e] at hy
    rcases List.mem_append.mp hy with hy | hy
    · exact wT_short hN.toNmOk hg y hy
    · rw [List.mem_singleton.mp hy]
      exact hz
  · rw [List.length_append, wr_len]
    show _ + 1 ≤ 64
    omega
  · rw [e, cutW_ne (by simp)]
    have := reads_of hN.toNmOk (ws := wT nm t ++ [z]) (t := t) (s := 0) ⟨[z], rfl⟩ (by omega) hg
    rw [Nat.zero_add] at this
    exact ⟨this, by simp⟩
theorem sp_over {nm : Nat → Str} (hN : Nm8 nm) {t : Tr} (hg : goodT t) (hd : t.dep ≤ 20) (hl : (wT nm t).length = 63) : SpOk nm (wr nm t) 60 := by
  have hr : ∃ r, (rT t)[60]? = some r := ⟨_, List.getElem?_eq_getElem (by rw [rT_len nm t]; omega)⟩
  obtain ⟨r, hr⟩ := hr
  refine ⟨wr_ok hN.toNmOk hg, by rw [wr_len]; omega, .inl ?_⟩
  rw [wr_fst, cutW_ne (wT_ne nm t)]
  have := fails_of hN.toNmOk (ws := wT nm t) (t := t) (s := 0) (j := 60) (k := 0) hg (fun i hi => by rw [Nat.zero_add]) hr (.inl (by omega)) (by omega) (by omega)
  rw [Nat.zero_add] at this
  exact this
def tagS (ws : List Str) : List Col := ws.map fun z => (z, Str.ofString "sieve")
theorem tagS_fst (ws : List Str) : (tagS ws).map Prod.fst = ws := by
  unfold tagS
  rw [List.map_map]
  exact List.map_id ws
theorem chW_len : ∀ {ys : List Int}, (∀ y ∈ ys, y = 0 ∨ y = 1 ∨ y = 2) → (chW ys).length ≤ 2 * ys.length
  | [], _ => by show 0 ≤ _; omega
  | y :: ys, h => by
    have ih := chW_len (ys := ys) fun x hx => h x (by simp [hx])
    have e : (chW (y :: ys)).length = (chO y).length + (chW ys).length := by
      show (chO y ++ chW ys).length = _
      rw [List.length_append]
    have : (chO y).length ≤ 2 := by
      rcases h y (by simp) with rfl | rfl | rfl <;> decide
    rw [e, List.length_cons]
    omega
theorem chW_ok : ∀ {ys : List Int}, (∀ y ∈ ys, y = 0 ∨ y = 1 ∨ y = 2) → ∀ z ∈ chW ys, okW z
  | [], _, z, hz => by simp [chW] at hz
  | y :: ys, h, z, hz => by
    have hz' : z ∈ chO y ++ chW ys := hz
    rcases List.mem_append.mp hz' with hz | hz
    · rcases h y (by simp) with rfl | rfl | rfl
      · have : z = Str.ofString "not" := by simpa [chO] using hz
        subst this
        exact ⟨by decide +kernel, by decide +kernel⟩
      · have : z = Str.ofString "both" ∨ z = Str.ofString "all" := by simpa [chO] using hz
        rcases this with rfl | rfl <;> exact ⟨by decide +kernel, by decide +kernel⟩
      · have : z = Str.ofString "either" := by simpa [chO] using hz
        subst this
        exact ⟨by decide +kernel, by decide +kernel⟩
    · exact chW_ok (fun x hx => h x (by simp [hx])) z hz
theorem sp_deep {nm : Nat → Str} {ys : List Int} {z : Str} (hy : ∀ y ∈ ys, y = 0 ∨ y = 1 ∨ y = 2) (hl : ys.length = 20) (hz : z ∈ W3) : SpOk nm (tagS (chW ys) ++ [(z, Str.ofString "sieve"), (Str.ofString "all", Str.ofString "sieve"), (Str.ofString "all", Str.ofString "sieve")]) (chW ys).length := by
  have e : (tagS (chW ys) ++ [(z, Str.ofString "sieve"), (Str.ofString "all", Str.ofString "sieve"), (Str.ofString "all", Str.ofString "sieve")]).map Prod.fst = chW ys ++ z :: [Str.ofString "all", Str.ofString "all"] := by rw [List.map_append, tagS_fst]; rfl
  have hcl := chW_len hy
  have hzo : okW z := by
    have : z = Str.ofString "not" ∨ z = Str.ofString "both" ∨ z = Str.ofString "either" := by simpa [W3] using hz
    rcases this with rfl | rfl | rfl <;> exact ⟨by decide +kernel, by decide +kernel⟩
  refine ⟨fun y h => ?_, ?_, .inl ?_⟩
  · rw [e] at h
    rcases List.mem_append.mp h with h | h
    · exact chW_ok hy y h
    · rcases List.mem_cons.mp h with rfl | h
      · exact hzo
      · have : y = Str.ofString "all" := by simpa using h
        subst this
        exact ⟨by decide +kernel, by decide +kernel⟩
  · rw [List.length_append]
    unfold tagS
    rw [List.length_map]
    show _ + 3 ≤ 64
    omega
  · rw [e, cutW_ne (by simp)]
    have := fails_chain (cs := cs3 nm) (ws := chW ys ++ z :: [Str.ofString "all", Str.ofString "all"]) (ys := ys) (k := 0) (s := 0) (z := z) (post := [Str.ofString "all", Str.ofString "all"]) hy (by rw [List.drop_zero]) (by omega) hz (by omega)
    rw [Nat.zero_add] at this
    exact this
theorem cut_words {ws : List Str} (h : ∀ z ∈ ws, okW z) : cutT 32 (Str.join " " ws) = cutW ws := by
  by_cases h0 : ws = []
  · subst h0
    decide +kernel
  · rw [cutW_ne h0]
    exact cut_join h0 fun p hp => (h p hp).2
end
end K08

namespace K08
open PySem L2 PyProof.Rows My Vl Lw
section
variable {P : Program} {w : World} {K : PySem.W.Frag} {mg : Str → Option Value} {base : Heap}
def spSp8 (K : PySem.W.Frag) (nm : Nat → Str) : Sp := fun vs H Q _ => ∃ (sc n : Addr) (ns : List Int), vs = [.ref sc, .ref n] ∧ SqL K H sc (ns.map V.int) ∧ ns.length ≤ 63 ∧ SqL K H n [.str (nm 0), .str (nm 1), .str (nm 2)] ∧
  ∀ p l (k : Nat) wl H', Same H H' → H' p = some (.tup [.ref l, .int k]) → Cols H' l wl → SpOk nm wl k → Q (.ref p) H'
theorem d__law_over (T : Txt K mg) {nm : Nat → Str} (hN : Nm8 nm) : Def P w K mg base true 3 "_law_over" ["_law_script", "_law_names"] (spSp8 K nm) := by
  refine df__law_over T (fun vs H Q E h => by obtain ⟨sc, n, ns, rfl, _⟩ := h; rfl) (fun f cdv A outer s H vs Q E hr h => ?_)
  obtain ⟨sc, n, ns, rfl, hS, hl, hn, q⟩ := h
  have nd := sc__law_over.nd
  have n1 := T.n_range
  have hsz : sizeLine = 16777216 := sizeLine_eq
  have D1 : Def P w K mg base true 1 "_law_draw" ["_law_script", "_law_k", "_law_many"] (spDraw K) := d__law_draw T
  have D2 : Def P w K mg base true 2 "_law_strange" ["_law_script", "_law_role", "_law_names"] (spStr8 K nm) := d__law_strange T hN
  refine sxs_cons ?_
  walk_at "s"
  walk_at "ex"
  refine ⟨by show 2 ≤ sizeLine; omega, fun t0 ht0 => ?_⟩
  have st0 : Same H (upd H t0 (.tup [.str (Str.ofString "all"), .str (Str.ofString "sieve")])) := Same.upd ht0
  have et0 : (upd H t0 (.tup [.str (Str.ofString "all"), .str (Str.ofString "sieve")])) t0 = some (.tup [.str (Str.ofString "all"), .str (Str.ofString "sieve")]) := upd_same
  generalize upd H t0 (.tup [.str (Str.ofString "all"), .str (Str.ofString "sieve")]) = H0 at st0 et0 ⊢
  walk_at "ex"
  refine ⟨by show 1 ≤ sizeLine; omega, fun m0 hm0 => ?_⟩
  have sm0 : Same H0 (upd H0 m0 (.lst [.ref t0])) := Same.upd hm0
  have em0 : (upd H0 m0 (.lst [.ref t0])) m0 = some (.lst [.ref t0]) := upd_same
  generalize upd H0 m0 (.lst [.ref t0]) = H1 at sm0 em0 ⊢
  refine sxs_cons ?_
  refine sx_forR (by walk_at "po") (by rfl) (by rfl) n1 (by rfl) ?_
  walk_at "go"
  refine ⟨by omega, by omega, fun i σ H' => (∃ m o3, σ = [some (.ref sc), some (.ref n), some (.ref m), o3, none] ∧ ∃ t : Tr, Cols H' m (wr nm t) ∧ goodT t ∧ t.dep ≤ i ∧ (wT nm t).length + 1 = 2 ^ (i + 1) ∧ ∀ r ∈ rT t, r = .sieve) ∧ Same H H', ⟨⟨m0, none, rfl, .one .all, ⟨_, em0, .cons ⟨t0, rfl, sm0 _ _ et0⟩ .nil⟩, trivial, Nat.le_refl _, rfl, by simp [rT, leafR]⟩, st0.trans sm0⟩, fun i σ H' hi hP => ?_, fun σ H' hP => ?_⟩
  · obtain ⟨⟨m, o3, rfl, t, hC, hg, hdp, hlt, hrs⟩, sm⟩ := hP
    have hi5 : i < 5 := by simpa using hi
    have h64 : 2 ^ (i + 1) ≤ 2 ^ 5 := Nat.pow_le_pow_right (by omega) (by omega)
    have h64' : 2 ^ (i + 1) ≤ 32 := h64
    have hwl := wr_len nm t
    refine eg_name nd (by rfl) (.inl rfl) (.inl rfl) ?_
    refine sxs_one ?_
    walk_at "s"
    walk_at "ex"
    refine ⟨by show 2 ≤ sizeLine; omega, fun pk hpk => ?_⟩
    have spk : Same H' (upd H' pk (.lst [.str (Str.ofString "both"), .str (Str.ofString "either")])) := Same.upd hpk
    have epk : (upd H' pk (.lst [.str (Str.ofString "both"), .str (Str.ofString "either")])) pk = some (.lst [.str (Str.ofString "both"), .str (Str.ofString "either")]) := upd_same
    generalize upd H' pk (.lst [.str (Str.ofString "both"), .str (Str.ofString "either")]) = G0 at spk epk ⊢
    walk_at "ex"
    refine ⟨sc, ns, _, 2, rfl, (sm.trans spk).seq hS, hl, by omega, by omega, by decide, ?_⟩
    have y0 := drawF_nn ns (65 + (i : Int)) (m := 2) (by decide)
    have y1 := drawF_lt ns (65 + (i : Int)) (m := 2) (by decide)
    generalize drawF ns (65 + (i : Int)) 2 = way at y0 y1 ⊢
    obtain ⟨z, t2, ez, hw2, hg2, hd2, hr2⟩ : ∃ (z : Str) (t2 : Tr), atI [V.str (Str.ofString "both"), .str (Str.ofString "either")] way = some (.str z) ∧ wr nm t2 = (z, Str.ofString "sieve") :: (wr nm t ++ wr nm t) ∧ goodT t2 ∧ t2.dep ≤ i + 1 ∧ ∀ r ∈ rT t2, r = .sieve := by
      have hd : way = 0 ∨ way = 1 := by omega
      have hdd : max t.dep t.dep + 1 ≤ i + 1 := by omega
      have hrr : ∀ r ∈ Rl.sieve :: (rT t ++ rT t), r = .sieve := fun r hr => by
        rcases List.mem_cons.mp hr with h | h
        · exact h
        · rcases List.mem_append.mp h with h | h <;> exact hrs r h
      rcases hd with rfl | rfl
      · exact ⟨_, .bo t t, rfl, wr_bo nm t t, ⟨hg, hg⟩, hdd, hrr⟩
      · exact ⟨_, .ei t t, rfl, wr_ei nm t t, ⟨hg, hg⟩, hdd, hrr⟩
    refine i_list (SqL.of epk) ez ?_
    walk_at "ex"
    refine ⟨by show 2 ≤ sizeLine; omega, fun tp htp => ?_⟩
    have stp : Same G0 (upd G0 tp (.tup [.str z, .str (Str.ofString "sieve")])) := Same.upd htp
    have etp : (upd G0 tp (.tup [.str z, .str (Str.ofString "sieve")])) tp = some (.tup [.str z, .str (Str.ofString "sieve")]) := upd_same
    generalize upd G0 tp (.tup [.str z, .str (Str.ofString "sieve")]) = G1 at stp etp ⊢
    walk_at "ex"
    refine ⟨by show 1 ≤ sizeLine; omega, fun la hla => ?_⟩
    have sla : Same G1 (upd G1 la (.lst [.ref tp])) := Same.upd hla
    have ela : (upd G1 la (.lst [.ref tp])) la = some (.lst [.ref tp]) := upd_same
    generalize upd G1 la (.lst [.ref tp]) = G2 at sla ela ⊢
    have s02 := spk.trans (stp.trans sla)
    obtain ⟨vs, em, am⟩ := hC.same s02
    have hvl := am.len
    walk_at "ex"
    refine o_catL ela em (by show 1 + vs.length ≤ _; omega) fun lb hlb => ?_
    have slb : Same G2 (upd G2 lb (.lst ([V.ref tp] ++ vs))) := Same.upd hlb
    have elb : (upd G2 lb (.lst ([V.ref tp] ++ vs))) lb = some (.lst ([V.ref tp] ++ vs)) := upd_same
    generalize upd G2 lb (.lst ([V.ref tp] ++ vs)) = G3 at slb elb ⊢
    walk_at "ex"
    refine o_catL elb (slb _ _ em) (by rw [List.length_append]; show 1 + vs.length + vs.length ≤ _; omega) fun lc hlc => ?_
    have slc : Same G3 (upd G3 lc (.lst ([V.ref tp] ++ vs ++ vs))) := Same.upd hlc
    have s24 := slb.trans slc
    refine ⟨⟨lc, _, rfl, t2, ⟨_, upd_same, ?_⟩, hg2, hd2, ?_, hr2⟩, (sm.trans s02).trans s24⟩
    · rw [hw2]
      have a2 : All2 (ColAt (upd G3 lc (.lst ([V.ref tp] ++ vs ++ vs)))) vs (wr nm t) := am.imp fun v c r => r.same s24
      have a1 : All2 (ColAt (upd G3 lc (.lst ([V.ref tp] ++ vs ++ vs)))) [V.ref tp] [(z, Str.ofString "sieve")] := .cons ⟨tp, rfl, s24 _ _ (sla _ _ etp)⟩ .nil
      have := (a1.app a2).app a2
      rw [List.append_assoc] at this
      rw [List.append_assoc]
      exact this
    · have := congrArg List.length hw2
      rw [wr_len, List.length_cons, List.length_append, hwl] at this
      rw [this, Nat.pow_succ]
      omega
  obtain ⟨⟨m, o3, rfl, t, hC, hg, hdp, hlt, hrs⟩, sm⟩ := hP
  have hlt : (wT nm t).length + 1 = 64 := hlt
  have hdp : t.dep ≤ 5 := hdp
  have hwl := wr_len nm t
  refine sxs_cons (sx_if ?_)
  walk_at "ex"
  refine ⟨sc, ns, 63, 2, rfl, sm.seq hS, hl, by decide, by decide, by decide, ?_⟩
  walk_at "ex"
  refine ifD (fun _ => ?_) (fun _ => ?_)
  · refine sxs_cons ?_
    walk_at "s"
    walk_at "ex"
    refine ⟨sc, ns, 64, 60, rfl, sm.seq hS, hl, by decide, by decide, by decide, ?_⟩
    have y0 := drawF_nn ns 64 (m := 60) (by decide)
    have y1 := drawF_lt ns 64 (m := 60) (by decide)
    generalize drawF ns 64 60 = av at y0 y1 ⊢
    obtain ⟨a, ha60, rfl⟩ : ∃ a : Nat, a < 60 ∧ av = a := ⟨av.toNat, by omega, by omega⟩
    refine sxs_one (sx_ret ?_)
    walk_at "ex"
    obtain ⟨vs, em, am⟩ := hC
    have hvl := am.len
    refine s_list (SqL.of em) fun l1 h1 => ?_
    rw [cutV_to]
    have s1 : Same H' (upd H' l1 (.lst (vs.take a))) := Same.upd h1
    have e1 : (upd H' l1 (.lst (vs.take a))) l1 = some (.lst (vs.take a)) := upd_same
    generalize upd H' l1 (.lst (vs.take a)) = G1 at s1 e1 ⊢
    walk_at "ex"
    refine ⟨sc, n, ns, .sieve, rfl, (sm.trans s1).seq hS, hl, (sm.trans s1).seq hn, fun z G2 sq hb hz => ?_⟩
    have hra : (rT t)[a]? = some .sieve := by
      have hlt : a < (rT t).length := by rw [rT_len nm t]; omega
      rw [List.getElem?_eq_getElem hlt, hrs _ (List.getElem_mem hlt)]
    walk_at "ex"
    refine ⟨by show 2 ≤ sizeLine; omega, fun tp htp => ?_⟩
    have stp : Same G2 (upd G2 tp (.tup [.str z, .str (Str.ofString "sieve")])) := Same.upd htp
    have etp : (upd G2 tp (.tup [.str z, .str (Str.ofString "sieve")])) tp = some (.tup [.str z, .str (Str.ofString "sieve")]) := upd_same
    generalize upd G2 tp (.tup [.str z, .str (Str.ofString "sieve")]) = G3 at stp etp ⊢
    walk_at "ex"
    refine ⟨by show 1 ≤ sizeLine; omega, fun l2 h2 => ?_⟩
    have s2 : Same G3 (upd G3 l2 (.lst [.ref tp])) := Same.upd h2
    have e2 : (upd G3 l2 (.lst [.ref tp])) l2 = some (.lst [.ref tp]) := upd_same
    generalize upd G3 l2 (.lst [.ref tp]) = G4 at s2 e2 ⊢
    have s14 := sq.trans (stp.trans s2)
    have htk : (vs.take a).length ≤ a := by rw [List.length_take]; omega
    refine o_catL (s14 _ _ e1) e2 (by show (vs.take a).length + 1 ≤ _; omega) fun l3 h3 => ?_
    have s3 : Same G4 (upd G4 l3 (.lst (vs.take a ++ [.ref tp]))) := Same.upd h3
    have e3 : (upd G4 l3 (.lst (vs.take a ++ [.ref tp]))) l3 = some (.lst (vs.take a ++ [.ref tp])) := upd_same
    generalize upd G4 l3 (.lst (vs.take a ++ [.ref tp])) = G5 at s3 e3 ⊢
    have s15 := s14.trans s3
    have em5 := s15 _ _ (s1 _ _ em)
    walk_at "ex"
    refine s_list (SqL.of em5) fun l4 h4 => ?_
    rw [show ((a : Int) + 1) = ((a + 1 : Nat) : Int) from rfl, cutV_from]
    have s4 : Same G5 (upd G5 l4 (.lst (vs.drop (a + 1)))) := Same.upd h4
    have e4 : (upd G5 l4 (.lst (vs.drop (a + 1)))) l4 = some (.lst (vs.drop (a + 1))) := upd_same
    generalize upd G5 l4 (.lst (vs.drop (a + 1))) = G6 at s4 e4 ⊢
    have hdr : (vs.drop (a + 1)).length ≤ vs.length := by rw [List.length_drop]; omega
    refine o_catL (s4 _ _ e3) e4 (by show (vs.take a ++ [V.ref tp]).length + _ ≤ _; rw [List.length_append]; show (vs.take a).length + 1 + _ ≤ _; omega) fun l5 h5 => ?_
    have s5 : Same G6 (upd G6 l5 (.lst (vs.take a ++ [.ref tp] ++ vs.drop (a + 1)))) := Same.upd h5
    have e5 : (upd G6 l5 (.lst (vs.take a ++ [.ref tp] ++ vs.drop (a + 1)))) l5 = some (.lst (vs.take a ++ [.ref tp] ++ vs.drop (a + 1))) := upd_same
    generalize upd G6 l5 (.lst (vs.take a ++ [.ref tp] ++ vs.drop (a + 1))) = G7 at s5 e5 ⊢
    have s17 := s15.trans (s4.trans s5)
    have s37 := s2.trans (s3.trans (s4.trans s5))
    walk_at "ex"
    refine ⟨by show 2 ≤ sizeLine; omega, fun pr hpr => ?_⟩
    have s6 : Same G7 (upd G7 pr (.tup [.ref l5, .int a])) := Same.upd hpr
    have am7 : All2 (ColAt (upd G7 pr (.tup [.ref l5, .int a]))) vs (wr nm t) := am.imp fun v c r => r.same (s1.trans (s17.trans s6))
    refine q pr l5 a ((wr nm t).take a ++ [(z, Str.ofString "sieve")] ++ (wr nm t).drop (a + 1)) _ (sm.trans (s1.trans (s17.trans s6))) upd_same ⟨_, s6 _ _ e5, ((am7.take a).app (.cons ⟨tp, rfl, (s37.trans s6) _ _ etp⟩ .nil)).app (am7.drop (a + 1))⟩ (sp_put hN hg (by omega) (by omega) hra hb hz (fun c hc => wr_ok hN.toNmOk hg _ (List.mem_map_of_mem (List.mem_of_mem_drop hc))) (by rw [List.length_drop]; omega))
  · refine sxs_nil (sxs_one (sx_ret ?_))
    walk_at "ex"
    refine ⟨by show 2 ≤ sizeLine; omega, fun pr hpr => ?_⟩
    exact q pr m 60 (wr nm t) _ (sm.trans (Same.upd hpr)) upd_same (hC.same (Same.upd hpr)) (sp_over hN hg (by omega) (by omega))
end
end K08

namespace K08
open PySem L2 PyProof.Rows My Vl Lw
section
variable {P : Program} {w : World} {K : PySem.W.Frag} {mg : Str → Option Value} {base : Heap}
def spDeep8 (K : PySem.W.Frag) (nm : Nat → Str) : Sp := fun vs H Q _ => ∃ (sc : Addr) (ns : List Int), vs = [.ref sc] ∧ SqL K H sc (ns.map V.int) ∧ ns.length ≤ 63 ∧
  ∀ p l (k : Nat) wl H', Same H H' → H' p = some (.tup [.ref l, .int k]) → Cols H' l wl → SpOk nm wl k → Q (.ref p) H'
theorem tagS_app (a b : List Str) : tagS (a ++ b) = tagS a ++ tagS b := List.map_append
theorem chW_app (a : List Int) (y : Int) : chW (a ++ [y]) = chW a ++ chO y := by
  unfold chW
  rw [List.map_append, List.flatten_append]
  simp
theorem d__law_deep (T : Txt K mg) (nm : Nat → Str) : Def P w K mg base true 3 "_law_deep" ["_law_script"] (spDeep8 K nm) := by
  refine df__law_deep T (fun vs H Q E h => by obtain ⟨sc, ns, rfl, _⟩ := h; rfl) (fun f cdv A outer s H vs Q E hr h => ?_)
  obtain ⟨sc, ns, rfl, hS, hl, q⟩ := h
  have nd := sc__law_deep.nd
  have n1 := T.n_range
  have n2 := T.n_len
  have hsz : sizeLine = 16777216 := sizeLine_eq
  have D1 : Def P w K mg base true 1 "_law_draw" ["_law_script", "_law_k", "_law_many"] (spDraw K) := d__law_draw T
  refine sxs_cons ?_
  walk_at "s"
  walk_at "ex"
  refine ⟨by show 0 ≤ sizeLine; omega, fun w0 hw0 => ?_⟩
  have sw0 : Same H (upd H w0 (.lst [])) := Same.upd hw0
  have ew0 : (upd H w0 (.lst [])) w0 = some (.lst []) := upd_same
  generalize upd H w0 (.lst []) = H0 at sw0 ew0 ⊢
  refine sxs_cons ?_
  refine sx_forR (by walk_at "po") (by rfl) (by rfl) n1 (by rfl) ?_
  walk_at "go"
  refine ⟨by omega, by omega, fun i σ H' => (∃ m o2 o3, σ = [some (.ref sc), some (.ref m), o2, o3, none] ∧ ∃ ys : List Int, Cols H' m (tagS (chW ys)) ∧ (∀ y ∈ ys, y = 0 ∨ y = 1 ∨ y = 2) ∧ ys.length = i) ∧ Same H H', ⟨⟨w0, none, none, rfl, [], ⟨[], ew0, .nil⟩, by simp, rfl⟩, sw0⟩, fun i σ H' hi hP => ?_, fun σ H' hP => ?_⟩
  · obtain ⟨⟨m, o2, o3, rfl, ys, hC, hys, hyl⟩, sm⟩ := hP
    have hi20 : i < 20 := by simpa using hi
    have hcl := chW_len hys
    -- the words put behind
    have stp : ∀ (y : Int), (y = 0 ∨ y = 1 ∨ y = 2) → SXs (CxF true P w K mg base N__law_deep "_law_deep" (defScope s__law_deep) f cdv A outer s H E) ((inFor (stAt (defBody s__law_deep) 1)).drop 2) { nx := fun σ' G => (∃ m o2 o3, σ' = [some (.ref sc), some (.ref m), o2, o3, none] ∧ ∃ ys : List Int, Cols G m (tagS (chW ys)) ∧ (∀ y ∈ ys, y = 0 ∨ y = 1 ∨ y = 2) ∧ ys.length = i + 1) ∧ Same H G, rt := Q, bk := fun σ' G => (fun σ H' => SXs (CxF true P w K mg base N__law_deep "_law_deep" (defScope s__law_deep) f cdv A outer s H E) ((defBody s__law_deep).drop 2) { nx := fun _ H' => Q .non H', rt := Q } σ H') σ' G, ct := fun σ' G => (∃ m o2 o3, σ' = [some (.ref sc), some (.ref m), o2, o3, none] ∧ ∃ ys : List Int, Cols G m (tagS (chW ys)) ∧ (∀ y ∈ ys, y = 0 ∨ y = 1 ∨ y = 2) ∧ ys.length = i + 1) ∧ Same H G } [some (.ref sc), some (.ref m), some (.int i), some (.int y), none] H' := by
      intro y hy
      refine sxs_one ?_
      walk_at "s"
      walk_at "ex"
      refine ⟨by show 2 ≤ sizeLine; omega, fun a0 ha0 => ?_⟩
      have sa0 : Same H' (upd H' a0 (.tup [.str (Str.ofString "not"), .str (Str.ofString "sieve")])) := Same.upd ha0
      have ea0 : (upd H' a0 (.tup [.str (Str.ofString "not"), .str (Str.ofString "sieve")])) a0 = some (.tup [.str (Str.ofString "not"), .str (Str.ofString "sieve")]) := upd_same
      generalize upd H' a0 (.tup [.str (Str.ofString "not"), .str (Str.ofString "sieve")]) = G0 at sa0 ea0 ⊢
      walk_at "ex"
      refine ⟨by show 1 ≤ sizeLine; omega, fun l0 hl0 => ?_⟩
      have sl0 : Same G0 (upd G0 l0 (.lst [.ref a0])) := Same.upd hl0
      have el0 : (upd G0 l0 (.lst [.ref a0])) l0 = some (.lst [.ref a0]) := upd_same
      generalize upd G0 l0 (.lst [.ref a0]) = G1 at sl0 el0 ⊢
      walk_at "ex"
      refine ⟨by show 2 ≤ sizeLine; omega, fun a1 ha1 => ?_⟩
      have sa1 : Same G1 (upd G1 a1 (.tup [.str (Str.ofString "both"), .str (Str.ofString "sieve")])) := Same.upd ha1
      have ea1 : (upd G1 a1 (.tup [.str (Str.ofString "both"), .str (Str.ofString "sieve")])) a1 = some (.tup [.str (Str.ofString "both"), .str (Str.ofString "sieve")]) := upd_same
      generalize upd G1 a1 (.tup [.str (Str.ofString "both"), .str (Str.ofString "sieve")]) = G2 at sa1 ea1 ⊢
      walk_at "ex"
      refine ⟨by show 2 ≤ sizeLine; omega, fun a2 ha2 => ?_⟩
      have sa2 : Same G2 (upd G2 a2 (.tup [.str (Str.ofString "all"), .str (Str.ofString "sieve")])) := Same.upd ha2
      have ea2 : (upd G2 a2 (.tup [.str (Str.ofString "all"), .str (Str.ofString "sieve")])) a2 = some (.tup [.str (Str.ofString "all"), .str (Str.ofString "sieve")]) := upd_same
      generalize upd G2 a2 (.tup [.str (Str.ofString "all"), .str (Str.ofString "sieve")]) = G3 at sa2 ea2 ⊢
      walk_at "ex"
      refine ⟨by show 2 ≤ sizeLine; omega, fun l1 hl1 => ?_⟩
      have sl1 : Same G3 (upd G3 l1 (.lst [.ref a1, .ref a2])) := Same.upd hl1
      have el1 : (upd G3 l1 (.lst [.ref a1, .ref a2])) l1 = some (.lst [.ref a1, .ref a2]) := upd_same
      generalize upd G3 l1 (.lst [.ref a1, .ref a2]) = G4 at sl1 el1 ⊢
      walk_at "ex"
      refine ⟨by show 2 ≤ sizeLine; omega, fun a3 ha3 => ?_⟩
      have sa3 : Same G4 (upd G4 a3 (.tup [.str (Str.ofString "either"), .str (Str.ofString "sieve")])) := Same.upd ha3
      have ea3 : (upd G4 a3 (.tup [.str (Str.ofString "either"), .str (Str.ofString "sieve")])) a3 = some (.tup [.str (Str.ofString "either"), .str (Str.ofString "sieve")]) := upd_same
      generalize upd G4 a3 (.tup [.str (Str.ofString "either"), .str (Str.ofString "sieve")]) = G5 at sa3 ea3 ⊢
      walk_at "ex"
      refine ⟨by show 1 ≤ sizeLine; omega, fun l2 hl2 => ?_⟩
      have sl2 : Same G5 (upd G5 l2 (.lst [.ref a3])) := Same.upd hl2
      have el2 : (upd G5 l2 (.lst [.ref a3])) l2 = some (.lst [.ref a3]) := upd_same
      generalize upd G5 l2 (.lst [.ref a3]) = G6 at sl2 el2 ⊢
      walk_at "ex"
      refine ⟨by show 3 ≤ sizeLine; omega, fun lw hlw => ?_⟩
      have slw : Same G6 (upd G6 lw (.lst [.ref l0, .ref l1, .ref l2])) := Same.upd hlw
      have elw : (upd G6 lw (.lst [.ref l0, .ref l1, .ref l2])) lw = some (.lst [.ref l0, .ref l1, .ref l2]) := upd_same
      generalize upd G6 lw (.lst [.ref l0, .ref l1, .ref l2]) = G7 at slw elw ⊢
      walk_at "ex"
      have t67 := slw
      have t57 := sl2.trans slw
      have t47 := sa3.trans t57
      have t37 := sl1.trans t47
      have t27 := sa2.trans t37
      have t17 := sa1.trans t27
      have t07 := sl0.trans t17
      have tt := sa0.trans t07
      obtain ⟨lx, elx, hCx⟩ : ∃ lx, atI [V.ref l0, .ref l1, .ref l2] y = some (.ref lx) ∧ Cols G7 lx (tagS (chO y)) := by
        rcases hy with rfl | rfl | rfl
        · exact ⟨l0, rfl, _, t17 _ _ el0, .cons ⟨a0, rfl, t07 _ _ ea0⟩ .nil⟩
        · exact ⟨l1, rfl, _, t47 _ _ el1, .cons ⟨a1, rfl, t27 _ _ ea1⟩ (.cons ⟨a2, rfl, t37 _ _ ea2⟩ .nil)⟩
        · exact ⟨l2, rfl, _, t67 _ _ el2, .cons ⟨a3, rfl, t57 _ _ ea3⟩ .nil⟩
      refine i_list (SqL.of elw) elx ?_
      obtain ⟨vs, em, am⟩ := hC.same tt
      obtain ⟨us, ex, ax⟩ := hCx
      have hvl := am.len
      have hul := ax.len
      have hl1 : (tagS (chW ys)).length = (chW ys).length := List.length_map ..
      have hl2 : (tagS (chO y)).length ≤ 2 := by rcases hy with rfl | rfl | rfl <;> decide
      refine o_catL em ex (by omega) fun m1 hm1 => ?_
      have su : Same G7 (upd G7 m1 (.lst (vs ++ us))) := Same.upd hm1
      refine ⟨⟨m1, _, _, rfl, ys ++ [y], ?_, fun x hx => ?_, by rw [List.length_append, hyl]; rfl⟩, (sm.trans tt).trans su⟩
      · rw [chW_app, tagS_app]
        exact ⟨_, upd_same, (am.app ax).imp fun v c r => r.same su⟩
      · rcases List.mem_append.mp hx with hx | hx
        · exact hys x hx
        · rw [List.mem_singleton.mp hx]
          exact hy
    refine eg_name nd (by rfl) (.inl rfl) (.inl rfl) ?_
    refine sxs_cons ?_
    walk_at "s"
    walk_at "ex"
    refine ⟨sc, ns, _, 3, rfl, sm.seq hS, hl, by omega, by omega, by decide, ?_⟩
    have y0 := drawF_nn ns (70 + (i : Int)) (m := 3) (by decide)
    have y1 := drawF_lt ns (70 + (i : Int)) (m := 3) (by decide)
    generalize drawF ns (70 + (i : Int)) 3 = wy at y0 y1 ⊢
    refine sxs_cons (sx_if ?_)
    walk_at "ex"
    refine ⟨sc, ns, _, 2, rfl, sm.seq hS, hl, by omega, by omega, by decide, ?_⟩
    walk_at "ex"
    refine ifD (fun _ => ?_) (fun _ => ?_)
    · refine sxs_one ?_
      walk_at "s"
      walk_at "ex"
      refine ⟨sc, ns, _, 3, rfl, sm.seq hS, hl, by omega, by omega, by decide, ?_⟩
      have z0 := drawF_nn ns 69 (m := 3) (by decide)
      have z1 := drawF_lt ns 69 (m := 3) (by decide)
      generalize drawF ns 69 3 = wz at z0 z1 ⊢
      exact stp wz (by omega)
    · exact sxs_nil (stp wy (by omega))
  obtain ⟨⟨m, o2, o3, rfl, ys, hC, hys, hyl⟩, sm⟩ := hP
  have hyl : ys.length = 20 := hyl
  have hcl := chW_len hys
  refine sxs_cons ?_
  walk_at "s"
  walk_at "ex"
  refine ⟨by show 2 ≤ sizeLine; omega, fun a0 ha0 => ?_⟩
  have sa0 : Same H' (upd H' a0 (.tup [.str (Str.ofString "not"), .str (Str.ofString "sieve")])) := Same.upd ha0
  have ea0 : (upd H' a0 (.tup [.str (Str.ofString "not"), .str (Str.ofString "sieve")])) a0 = some (.tup [.str (Str.ofString "not"), .str (Str.ofString "sieve")]) := upd_same
  generalize upd H' a0 (.tup [.str (Str.ofString "not"), .str (Str.ofString "sieve")]) = G0 at sa0 ea0 ⊢
  walk_at "ex"
  refine ⟨by show 2 ≤ sizeLine; omega, fun a1 ha1 => ?_⟩
  have sa1 : Same G0 (upd G0 a1 (.tup [.str (Str.ofString "both"), .str (Str.ofString "sieve")])) := Same.upd ha1
  have ea1 : (upd G0 a1 (.tup [.str (Str.ofString "both"), .str (Str.ofString "sieve")])) a1 = some (.tup [.str (Str.ofString "both"), .str (Str.ofString "sieve")]) := upd_same
  generalize upd G0 a1 (.tup [.str (Str.ofString "both"), .str (Str.ofString "sieve")]) = G1 at sa1 ea1 ⊢
  walk_at "ex"
  refine ⟨by show 2 ≤ sizeLine; omega, fun a2 ha2 => ?_⟩
  have sa2 : Same G1 (upd G1 a2 (.tup [.str (Str.ofString "either"), .str (Str.ofString "sieve")])) := Same.upd ha2
  have ea2 : (upd G1 a2 (.tup [.str (Str.ofString "either"), .str (Str.ofString "sieve")])) a2 = some (.tup [.str (Str.ofString "either"), .str (Str.ofString "sieve")]) := upd_same
  generalize upd G1 a2 (.tup [.str (Str.ofString "either"), .str (Str.ofString "sieve")]) = G2 at sa2 ea2 ⊢
  walk_at "ex"
  refine ⟨by show 3 ≤ sizeLine; omega, fun lw hlw => ?_⟩
  have slw : Same G2 (upd G2 lw (.lst [.ref a0, .ref a1, .ref a2])) := Same.upd hlw
  have elw : (upd G2 lw (.lst [.ref a0, .ref a1, .ref a2])) lw = some (.lst [.ref a0, .ref a1, .ref a2]) := upd_same
  generalize upd G2 lw (.lst [.ref a0, .ref a1, .ref a2]) = G3 at slw elw ⊢
  walk_at "ex"
  have t13 := sa2.trans slw
  have t03 := sa1.trans t13
  have tt := sa0.trans t03
  refine ⟨sc, ns, 67, 3, rfl, (sm.trans tt).seq hS, hl, by decide, by decide, by decide, ?_⟩
  have y0 := drawF_nn ns 67 (m := 3) (by decide)
  have y1 := drawF_lt ns 67 (m := 3) (by decide)
  generalize drawF ns 67 3 = wy at y0 y1 ⊢
  obtain ⟨z, ax, eax, htx, hz3⟩ : ∃ (z : Str) (ax : Addr), atI [V.ref a0, .ref a1, .ref a2] wy = some (.ref ax) ∧ G3 ax = some (.tup [.str z, .str (Str.ofString "sieve")]) ∧ z ∈ W3 := by
    have hd : wy = 0 ∨ wy = 1 ∨ wy = 2 := by omega
    rcases hd with rfl | rfl | rfl
    · exact ⟨_, a0, rfl, t03 _ _ ea0, by decide +kernel⟩
    · exact ⟨_, a1, rfl, t13 _ _ ea1, by decide +kernel⟩
    · exact ⟨_, a2, rfl, slw _ _ ea2, by decide +kernel⟩
  refine i_list (SqL.of elw) eax ?_
  refine sxs_one (sx_ret ?_)
  walk_at "ex"
  refine ⟨by show 2 ≤ sizeLine; omega, fun b1 hb1 => ?_⟩
  have sb1 : Same G3 (upd G3 b1 (.tup [.str (Str.ofString "all"), .str (Str.ofString "sieve")])) := Same.upd hb1
  have eb1 : (upd G3 b1 (.tup [.str (Str.ofString "all"), .str (Str.ofString "sieve")])) b1 = some (.tup [.str (Str.ofString "all"), .str (Str.ofString "sieve")]) := upd_same
  generalize upd G3 b1 (.tup [.str (Str.ofString "all"), .str (Str.ofString "sieve")]) = G4 at sb1 eb1 ⊢
  walk_at "ex"
  refine ⟨by show 2 ≤ sizeLine; omega, fun b2 hb2 => ?_⟩
  have sb2 : Same G4 (upd G4 b2 (.tup [.str (Str.ofString "all"), .str (Str.ofString "sieve")])) := Same.upd hb2
  have eb2 : (upd G4 b2 (.tup [.str (Str.ofString "all"), .str (Str.ofString "sieve")])) b2 = some (.tup [.str (Str.ofString "all"), .str (Str.ofString "sieve")]) := upd_same
  generalize upd G4 b2 (.tup [.str (Str.ofString "all"), .str (Str.ofString "sieve")]) = G5 at sb2 eb2 ⊢
  walk_at "ex"
  refine ⟨by show 3 ≤ sizeLine; omega, fun lb hlb => ?_⟩
  have slb : Same G5 (upd G5 lb (.lst [.ref ax, .ref b1, .ref b2])) := Same.upd hlb
  have elb : (upd G5 lb (.lst [.ref ax, .ref b1, .ref b2])) lb = some (.lst [.ref ax, .ref b1, .ref b2]) := upd_same
  generalize upd G5 lb (.lst [.ref ax, .ref b1, .ref b2]) = G6 at slb elb ⊢
  have t36 := sb1.trans (sb2.trans slb)
  obtain ⟨vs, em, am⟩ := hC.same (tt.trans t36)
  have hvl := am.len
  have hl1 : (tagS (chW ys)).length = (chW ys).length := List.length_map ..
  refine o_catL em elb (by show vs.length + 3 ≤ _; omega) fun lc hlc => ?_
  have slc : Same G6 (upd G6 lc (.lst (vs ++ [.ref ax, .ref b1, .ref b2]))) := Same.upd hlc
  have elc : (upd G6 lc (.lst (vs ++ [.ref ax, .ref b1, .ref b2]))) lc = some (.lst (vs ++ [.ref ax, .ref b1, .ref b2])) := upd_same
  generalize upd G6 lc (.lst (vs ++ [.ref ax, .ref b1, .ref b2])) = G7 at slc elc ⊢
  have sqm : SqL K G7 m vs := SqL.of (slc _ _ em)
  walk_at "ex"
  rw [show (vs.length : Int) = (((chW ys).length : Nat) : Int) from by rw [hvl, hl1]]
  refine ⟨by show 2 ≤ sizeLine; omega, fun pr hpr => ?_⟩
  have s8 : Same G7 (upd G7 pr (.tup [.ref lc, .int ((chW ys).length : Nat)])) := Same.upd hpr
  have t78 := slc.trans s8
  refine q pr lc (chW ys).length _ _ (sm.trans (tt.trans (t36.trans t78))) upd_same ⟨_, s8 _ _ elc, (am.imp fun v c r => r.same t78).app (.cons ⟨ax, rfl, (t36.trans t78) _ _ htx⟩ (.cons ⟨b1, rfl, (sb2.trans (slb.trans t78)) _ _ eb1⟩ (.cons ⟨b2, rfl, (slb.trans t78) _ _ eb2⟩ .nil)))⟩ (sp_deep hys hyl hz3)
end
end K08

namespace K08
open PySem L2 PyProof.Rows My Vl Lw
section
variable {P : Program} {w : World} {K : PySem.W.Frag} {mg : Str → Option Value} {base : Heap}
def spSpo8 (K : PySem.W.Frag) (nm : Nat → Str) : Sp := fun vs H Q _ => ∃ (sc m n : Addr) (ns : List Int) (t : Tr), vs = [.ref sc, .ref m, .ref n] ∧ SqL K H sc (ns.map V.int) ∧ ns.length ≤ 63 ∧ SqL K H n [.str (nm 0), .str (nm 1), .str (nm 2)] ∧ Cols H m (wr nm t) ∧ goodT t ∧ t.dep ≤ 9 ∧ (wT nm t).length ≤ 40 ∧
  ∀ p l (k : Nat) wl H', Same H H' → H' p = some (.tup [.ref l, .int k]) → Cols H' l wl → SpOk nm wl k → Q (.ref p) H'
theorem bad_empty {nm : Nat → Str} (hN : Nm8 nm) : ∀ r : Rl, badW nm r (Str.ofString "")
  | .sieve => show _ ∉ W9 from by decide +kernel
  | .name => hN.odd _ (by decide +kernel)
  | .held => hN.odd _ (by decide +kernel) 1 (by omega)
  | .text => .inl (by decide +kernel)
  | .number => .inl (by decide +kernel)
theorem d__law_spoiled (T : Txt K mg) {nm : Nat → Str} (hN : Nm8 nm) : Def P w K mg base true 4 "_law_spoiled" ["_law_script", "_law_words", "_law_names"] (spSpo8 K nm) := by
  refine df__law_spoiled T (fun vs H Q E h => by obtain ⟨sc, m, n, ns, t, rfl, _⟩ := h; rfl) (fun f cdv A outer s H vs Q E hr h => ?_)
  obtain ⟨sc, m, n, ns, t, rfl, hS, hl, hn, hC, hg, hdp, hlt, q⟩ := h
  have nd := sc__law_spoiled.nd
  have n2 := T.n_len
  have n3 := T.n_max
  have hsz : sizeLine = 16777216 := sizeLine_eq
  have D1 : Def P w K mg base true 1 "_law_draw" ["_law_script", "_law_k", "_law_many"] (spDraw K) := d__law_draw T
  have D2 : Def P w K mg base true 2 "_law_strange" ["_law_script", "_law_role", "_law_names"] (spStr8 K nm) := d__law_strange T hN
  have D3 : Def P w K mg base true 3 "_law_over" ["_law_script", "_law_names"] (spSp8 K nm) := d__law_over T hN
  have D4 : Def P w K mg base true 3 "_law_deep" ["_law_script"] (spDeep8 K nm) := d__law_deep T nm
  have hwl := wr_len nm t
  have hpos : 0 < (wT nm t).length := List.length_pos_iff.mpr (wT_ne nm t)
  have hrl := rT_len nm t
  obtain ⟨vs, em, am⟩ := id hC
  have hvl := am.len
  have sqm : SqL K H m vs := SqL.of em
  have hvi : (vs.length : Int) = (((wT nm t).length : Nat) : Int) := by rw [hvl, hwl]
  refine sxs_cons ?_
  walk_at "s"
  walk_at "ex"
  refine ⟨sc, ns, 61, _, rfl, hS, hl, by decide, by decide, by omega, ?_⟩
  have y0 := drawF_nn ns 61 (m := (vs.length : Int)) (by omega)
  have y1 := drawF_lt ns 61 (m := (vs.length : Int)) (by omega)
  generalize drawF ns 61 (vs.length : Int) = av at y0 y1 ⊢
  obtain ⟨a, ha, rfl⟩ : ∃ a : Nat, a < (wT nm t).length ∧ av = a := ⟨av.toNat, by omega, by omega⟩
  refine sxs_cons ?_
  walk_at "s"
  walk_at "ex"
  refine ⟨sc, ns, 62, 7, rfl, hS, hl, by decide, by decide, by decide, ?_⟩
  generalize drawF ns 62 7 = way
  refine sxs_cons (sx_if ?_)
  walk_at "ex"
  refine ifD (fun _ => ?_) (fun _ => ?_)
  · refine sxs_one (sx_ret ?_)
    walk_at "ex"
    rw [show (vs.length : Int) - 1 = (((wT nm t).length - 1 : Nat) : Int) from by omega]
    refine s_list sqm fun l1 h1 => ?_
    rw [cutV_to]
    have s1 : Same H (upd H l1 (.lst (vs.take ((wT nm t).length - 1)))) := Same.upd h1
    have e1 : (upd H l1 (.lst (vs.take ((wT nm t).length - 1)))) l1 = some (.lst (vs.take ((wT nm t).length - 1))) := upd_same
    generalize upd H l1 (.lst (vs.take ((wT nm t).length - 1))) = G1 at s1 e1 ⊢
    have sqm1 : SqL K G1 m vs := SqL.of (s1 _ _ em)
    walk_at "ex"
    refine c_max2 (by rfl) ?_
    rw [show (if (vs.length : Int) - 1 > 0 then (vs.length : Int) - 1 else 0) = (((wT nm t).length - 1 : Nat) : Int) from by split <;> omega]
    walk_at "ex"
    refine ⟨by show 2 ≤ sizeLine; omega, fun pr hpr => ?_⟩
    have s2 : Same G1 (upd G1 pr (.tup [.ref l1, .int (((wT nm t).length - 1 : Nat) : Int)])) := Same.upd hpr
    exact q pr l1 ((wT nm t).length - 1) _ _ (s1.trans s2) upd_same ⟨_, s2 _ _ e1, (am.imp fun v c r => r.same (s1.trans s2)).take _⟩ (sp_drop hN hg (by omega) (by omega))
  refine sxs_nil (sxs_cons (sx_if ?_))
  walk_at "ex"
  refine ifD (fun _ => ?_) (fun _ => ?_)
  · refine sxs_cons ?_
    walk_at "s"
    walk_at "ex"
    refine ⟨by show 5 ≤ sizeLine; omega, fun lw hlw => ?_⟩
    have slw : Same H (upd H lw (.lst [.str (Str.ofString "all"), .str (Str.ofString "not"), .str (Str.ofString ""), .str (Str.ofString "'a"), .str (Str.ofString "none")])) := Same.upd hlw
    have elw : (upd H lw (.lst [.str (Str.ofString "all"), .str (Str.ofString "not"), .str (Str.ofString ""), .str (Str.ofString "'a"), .str (Str.ofString "none")])) lw = some (.lst [.str (Str.ofString "all"), .str (Str.ofString "not"), .str (Str.ofString ""), .str (Str.ofString "'a"), .str (Str.ofString "none")]) := upd_same
    generalize upd H lw (.lst [.str (Str.ofString "all"), .str (Str.ofString "not"), .str (Str.ofString ""), .str (Str.ofString "'a"), .str (Str.ofString "none")]) = G0 at slw elw ⊢
    walk_at "ex"
    refine ⟨sc, ns, 63, 5, rfl, slw.seq hS, hl, by decide, by decide, by decide, ?_⟩
    have z0 := drawF_nn ns 63 (m := 5) (by decide)
    have z1 := drawF_lt ns 63 (m := 5) (by decide)
    generalize drawF ns 63 5 = wz at z0 z1 ⊢
    obtain ⟨z, ez, hz⟩ : ∃ z : Str, atI [V.str (Str.ofString "all"), .str (Str.ofString "not"), .str (Str.ofString ""), .str (Str.ofString "'a"), .str (Str.ofString "none")] wz = some (.str z) ∧ okW z := by
      have hd : wz = 0 ∨ wz = 1 ∨ wz = 2 ∨ wz = 3 ∨ wz = 4 := by omega
      rcases hd with rfl | rfl | rfl | rfl | rfl
      all_goals exact ⟨_, rfl, by decide +kernel, by decide +kernel⟩
    refine i_list (SqL.of elw) ez ?_
    refine sxs_one (sx_ret ?_)
    walk_at "ex"
    refine ⟨by show 2 ≤ sizeLine; omega, fun tp htp => ?_⟩
    have stp : Same G0 (upd G0 tp (.tup [.str z, .str (Str.ofString "")])) := Same.upd htp
    have etp : (upd G0 tp (.tup [.str z, .str (Str.ofString "")])) tp = some (.tup [.str z, .str (Str.ofString "")]) := upd_same
    generalize upd G0 tp (.tup [.str z, .str (Str.ofString "")]) = G1 at stp etp ⊢
    walk_at "ex"
    refine ⟨by show 1 ≤ sizeLine; omega, fun l2 hl2 => ?_⟩
    have sl2 : Same G1 (upd G1 l2 (.lst [.ref tp])) := Same.upd hl2
    have el2 : (upd G1 l2 (.lst [.ref tp])) l2 = some (.lst [.ref tp]) := upd_same
    generalize upd G1 l2 (.lst [.ref tp]) = G2 at sl2 el2 ⊢
    have s02 := slw.trans (stp.trans sl2)
    refine o_catL (s02 _ _ em) el2 (by show vs.length + 1 ≤ _; omega) fun l3 h3 => ?_
    have s3 : Same G2 (upd G2 l3 (.lst (vs ++ [.ref tp]))) := Same.upd h3
    have e3 : (upd G2 l3 (.lst (vs ++ [.ref tp]))) l3 = some (.lst (vs ++ [.ref tp])) := upd_same
    generalize upd G2 l3 (.lst (vs ++ [.ref tp])) = G3 at s3 e3 ⊢
    have sqm3 : SqL K G3 m vs := SqL.of ((s02.trans s3) _ _ em)
    walk_at "ex"
    rw [hvi]
    refine ⟨by show 2 ≤ sizeLine; omega, fun pr hpr => ?_⟩
    have s4 : Same G3 (upd G3 pr (.tup [.ref l3, .int (((wT nm t).length : Nat) : Int)])) := Same.upd hpr
    have s34 := s3.trans s4
    exact q pr l3 (wT nm t).length _ _ (s02.trans s34) upd_same ⟨_, s4 _ _ e3, (am.imp fun v c r => r.same (s02.trans s34)).app (.cons ⟨tp, rfl, (sl2.trans s34) _ _ etp⟩ .nil)⟩ (sp_more hN hg (by omega) (by omega) hz)
  refine sxs_nil (sxs_cons (sx_if ?_))
  walk_at "ex"
  refine ifD (fun _ => ?_) (fun _ => ?_)
  · obtain ⟨r, hra⟩ : ∃ r, (rT t)[a]? = some r := ⟨_, List.getElem?_eq_getElem (by omega)⟩
    have hb := bad_empty hN r
    have hz : okW (Str.ofString "") := ⟨by decide +kernel, by decide +kernel⟩
    refine sxs_one (sx_ret ?_)
    walk_at "ex"
    refine s_list (SqL.of em) fun l1 h1 => ?_
    rw [cutV_to]
    have s1 : Same H (upd H l1 (.lst (vs.take a))) := Same.upd h1
    have e1 : (upd H l1 (.lst (vs.take a))) l1 = some (.lst (vs.take a)) := upd_same
    generalize upd H l1 (.lst (vs.take a)) = G1 at s1 e1 ⊢
    walk_at "ex"
    refine ⟨by show 2 ≤ sizeLine; omega, fun tp htp => ?_⟩
    have stp : Same G1 (upd G1 tp (.tup [.str (Str.ofString ""), .str (Str.ofString "")])) := Same.upd htp
    have etp : (upd G1 tp (.tup [.str (Str.ofString ""), .str (Str.ofString "")])) tp = some (.tup [.str (Str.ofString ""), .str (Str.ofString "")]) := upd_same
    generalize upd G1 tp (.tup [.str (Str.ofString ""), .str (Str.ofString "")]) = G3 at stp etp ⊢
    walk_at "ex"
    refine ⟨by show 1 ≤ sizeLine; omega, fun l2 h2 => ?_⟩
    have s2 : Same G3 (upd G3 l2 (.lst [.ref tp])) := Same.upd h2
    have e2 : (upd G3 l2 (.lst [.ref tp])) l2 = some (.lst [.ref tp]) := upd_same
    generalize upd G3 l2 (.lst [.ref tp]) = G4 at s2 e2 ⊢
    have s14 := stp.trans s2
    have htk : (vs.take a).length ≤ a := by rw [List.length_take]; omega
    refine o_catL (s14 _ _ e1) e2 (by show (vs.take a).length + 1 ≤ _; omega) fun l3 h3 => ?_
    have s3 : Same G4 (upd G4 l3 (.lst (vs.take a ++ [.ref tp]))) := Same.upd h3
    have e3 : (upd G4 l3 (.lst (vs.take a ++ [.ref tp]))) l3 = some (.lst (vs.take a ++ [.ref tp])) := upd_same
    generalize upd G4 l3 (.lst (vs.take a ++ [.ref tp])) = G5 at s3 e3 ⊢
    have s15 := s14.trans s3
    have em5 := s15 _ _ (s1 _ _ em)
    walk_at "ex"
    refine s_list (SqL.of em5) fun l4 h4 => ?_
    rw [cutV_from]
    have s4 : Same G5 (upd G5 l4 (.lst (vs.drop a))) := Same.upd h4
    have e4 : (upd G5 l4 (.lst (vs.drop a))) l4 = some (.lst (vs.drop a)) := upd_same
    generalize upd G5 l4 (.lst (vs.drop a)) = G6 at s4 e4 ⊢
    have hdr : (vs.drop a).length ≤ vs.length := by rw [List.length_drop]; omega
    refine o_catL (s4 _ _ e3) e4 (by show (vs.take a ++ [V.ref tp]).length + _ ≤ _; rw [List.length_append]; show (vs.take a).length + 1 + _ ≤ _; omega) fun l5 h5 => ?_
    have s5 : Same G6 (upd G6 l5 (.lst (vs.take a ++ [.ref tp] ++ vs.drop a))) := Same.upd h5
    have e5 : (upd G6 l5 (.lst (vs.take a ++ [.ref tp] ++ vs.drop a))) l5 = some (.lst (vs.take a ++ [.ref tp] ++ vs.drop a)) := upd_same
    generalize upd G6 l5 (.lst (vs.take a ++ [.ref tp] ++ vs.drop a)) = G7 at s5 e5 ⊢
    have s17 := s15.trans (s4.trans s5)
    have s37 := s2.trans (s3.trans (s4.trans s5))
    walk_at "ex"
    refine ⟨by show 2 ≤ sizeLine; omega, fun pr hpr => ?_⟩
    have s6 : Same G7 (upd G7 pr (.tup [.ref l5, .int a])) := Same.upd hpr
    have am7 : All2 (ColAt (upd G7 pr (.tup [.ref l5, .int a]))) vs (wr nm t) := am.imp fun v c r => r.same (s1.trans (s17.trans s6))
    refine q pr l5 a ((wr nm t).take a ++ [(Str.ofString "", Str.ofString "")] ++ (wr nm t).drop a) _ ((Same.refl H).trans (s1.trans (s17.trans s6))) upd_same ⟨_, s6 _ _ e5, ((am7.take a).app (.cons ⟨tp, rfl, (s37.trans s6) _ _ etp⟩ .nil)).app (am7.drop a)⟩ (sp_put hN hg (by omega) (by omega) hra hb hz (fun c hc => wr_ok hN.toNmOk hg _ (List.mem_map_of_mem (List.mem_of_mem_drop hc))) (by rw [List.length_drop]; omega))
  refine sxs_nil (sxs_cons (sx_if ?_))
  walk_at "ex"
  refine ifD (fun _ => ?_) (fun _ => ?_)
  · refine sxs_one (sx_ret ?_)
    walk_at "ex"
    exact ⟨sc, n, ns, rfl, hS, hl, hn, q⟩
  refine sxs_nil (sxs_cons (sx_if ?_))
  walk_at "ex"
  refine ifD (fun _ => ?_) (fun _ => ?_)
  · refine sxs_one (sx_ret ?_)
    walk_at "ex"
    exact ⟨sc, ns, rfl, hS, hl, q⟩
  obtain ⟨c, hca⟩ : ∃ c, (wr nm t)[a]? = some c := ⟨_, List.getElem?_eq_getElem (by omega)⟩
  obtain ⟨r, hra, hc2, _⟩ := zipR_get hrl hca
  obtain ⟨cv, gc, tc, rfl, htc⟩ := am.get' hca
  refine sxs_nil (sxs_one (sx_ret ?_))
  walk_at "ex"
  refine s_list (SqL.of em) fun l1 h1 => ?_
  rw [cutV_to]
  have s1 : Same H (upd H l1 (.lst (vs.take a))) := Same.upd h1
  have e1 : (upd H l1 (.lst (vs.take a))) l1 = some (.lst (vs.take a)) := upd_same
  generalize upd H l1 (.lst (vs.take a)) = G1 at s1 e1 ⊢
  walk_at "ex"
  refine i_list (SqL.of (s1 _ _ em)) (atI_nat gc) ?_
  walk_at "ex"
  refine i_tup (SqT.of (s1 _ _ htc)) (show atI [V.str c.1, V.str c.2] 1 = some (V.str c.2) from rfl) ?_
  walk_at "ex"
  refine ⟨sc, n, ns, r, by rw [hc2], s1.seq hS, hl, s1.seq hn, fun z G2 sq hb hz => ?_⟩
  walk_at "ex"
  refine ⟨by show 2 ≤ sizeLine; omega, fun tp htp => ?_⟩
  have stp : Same G2 (upd G2 tp (.tup [.str z, .str (Str.ofString "")])) := Same.upd htp
  have etp : (upd G2 tp (.tup [.str z, .str (Str.ofString "")])) tp = some (.tup [.str z, .str (Str.ofString "")]) := upd_same
  generalize upd G2 tp (.tup [.str z, .str (Str.ofString "")]) = G3 at stp etp ⊢
  walk_at "ex"
  refine ⟨by show 1 ≤ sizeLine; omega, fun l2 h2 => ?_⟩
  have s2 : Same G3 (upd G3 l2 (.lst [.ref tp])) := Same.upd h2
  have e2 : (upd G3 l2 (.lst [.ref tp])) l2 = some (.lst [.ref tp]) := upd_same
  generalize upd G3 l2 (.lst [.ref tp]) = G4 at s2 e2 ⊢
  have s14 := sq.trans (stp.trans s2)
  have htk : (vs.take a).length ≤ a := by rw [List.length_take]; omega
  refine o_catL (s14 _ _ e1) e2 (by show (vs.take a).length + 1 ≤ _; omega) fun l3 h3 => ?_
  have s3 : Same G4 (upd G4 l3 (.lst (vs.take a ++ [.ref tp]))) := Same.upd h3
  have e3 : (upd G4 l3 (.lst (vs.take a ++ [.ref tp]))) l3 = some (.lst (vs.take a ++ [.ref tp])) := upd_same
  generalize upd G4 l3 (.lst (vs.take a ++ [.ref tp])) = G5 at s3 e3 ⊢
  have s15 := s14.trans s3
  have em5 := s15 _ _ (s1 _ _ em)
  walk_at "ex"
  refine s_list (SqL.of em5) fun l4 h4 => ?_
  rw [show ((a : Int) + 1) = ((a + 1 : Nat) : Int) from rfl, cutV_from]
  have s4 : Same G5 (upd G5 l4 (.lst (vs.drop (a + 1)))) := Same.upd h4
  have e4 : (upd G5 l4 (.lst (vs.drop (a + 1)))) l4 = some (.lst (vs.drop (a + 1))) := upd_same
  generalize upd G5 l4 (.lst (vs.drop (a + 1))) = G6 at s4 e4 ⊢
  have hdr : (vs.drop (a + 1)).length ≤ vs.length := by rw [List.length_drop]; omega
  refine o_catL (s4 _ _ e3) e4 (by show (vs.take a ++ [V.ref tp]).length + _ ≤ _; rw [List.length_append]; show (vs.take a).length + 1 + _ ≤ _; omega) fun l5 h5 => ?_
  have s5 : Same G6 (upd G6 l5 (.lst (vs.take a ++ [.ref tp] ++ vs.drop (a + 1)))) := Same.upd h5
  have e5 : (upd G6 l5 (.lst (vs.take a ++ [.ref tp] ++ vs.drop (a + 1)))) l5 = some (.lst (vs.take a ++ [.ref tp] ++ vs.drop (a + 1))) := upd_same
  generalize upd G6 l5 (.lst (vs.take a ++ [.ref tp] ++ vs.drop (a + 1))) = G7 at s5 e5 ⊢
  have s17 := s15.trans (s4.trans s5)
  have s37 := s2.trans (s3.trans (s4.trans s5))
  walk_at "ex"
  refine ⟨by show 2 ≤ sizeLine; omega, fun pr hpr => ?_⟩
  have s6 : Same G7 (upd G7 pr (.tup [.ref l5, .int a])) := Same.upd hpr
  have am7 : All2 (ColAt (upd G7 pr (.tup [.ref l5, .int a]))) vs (wr nm t) := am.imp fun v c r => r.same (s1.trans (s17.trans s6))
  refine q pr l5 a ((wr nm t).take a ++ [(z, Str.ofString "")] ++ (wr nm t).drop (a + 1)) _ ((Same.refl H).trans (s1.trans (s17.trans s6))) upd_same ⟨_, s6 _ _ e5, ((am7.take a).app (.cons ⟨tp, rfl, (s37.trans s6) _ _ etp⟩ .nil)).app (am7.drop (a + 1))⟩ (sp_put hN hg (by omega) (by omega) hra hb hz (fun c hc => wr_ok hN.toNmOk hg _ (List.mem_map_of_mem (List.mem_of_mem_drop hc))) (by rw [List.length_drop]; omega))
end
end K08

namespace K08
open PySem L2 PyProof.Rows My Vl Lw
section
variable {P : Program} {w : World} {K : PySem.W.Frag} {mg : Str → Option Value} {base : Heap}
theorem suite_any {H0 H' Hu H2 : Hp} {e : Addr} {o : HO} (s : Same H0 H') (he : H' e = none) (eu : Hu = upd H' e o) (s2 : Same Hu H2) : Same H0 (dropH H2 e) := by
  intro b u r
  have hbe : b ≠ e := ne_of_none (s _ _ r) he
  rw [dropH_ne hbe]
  refine s2 _ _ ?_
  rw [eu, upd_ne hbe]
  exact s _ _ r
theorem join_le : ∀ ps : List Str, (Str.join " " ps).length ≤ (ps.map (·.length)).sum + ps.length
  | [] => by show (0 : Nat) ≤ _; omega
  | [p] => by
    show p.length ≤ _
    simp
  | p :: q :: r => by
    have ih := join_le (q :: r)
    have lb : (Str.ofString " ").length = 1 := by decide +kernel
    show (p ++ Str.ofString " " ++ Str.join " " (q :: r)).length ≤ _
    rw [len_app, len_app, lb]
    simp only [List.map_cons, List.sum_cons, List.length_cons] at ih ⊢
    omega
theorem sumL (ps : List Str) (n : Nat) (h : ∀ p ∈ ps, p.length ≤ n) : (ps.map (·.length)).sum ≤ ps.length * n := by
  induction ps with
  | nil => simp
  | cons p ps ih =>
    have h1 := ih fun x hx => h x (by simp [hx])
    have h2 := h p (by simp)
    simp only [List.map_cons, List.sum_cons, List.length_cons, Nat.succ_mul]
    omega
def spAsked8 (nm : Nat → Str) : Sp := fun vs H Q _ => ∃ (b a : Addr) (wl : List Col), vs = [.ref b, .ref a] ∧ Cols H b (cs3 nm) ∧ Cols H a wl ∧ (∀ z ∈ wl.map Prod.fst, okW z) ∧ wl.length ≤ 64 ∧
  ((∃ t : Tr, t.dep ≤ 20 ∧ Reads (cs3 nm) (cutW (wl.map Prod.fst)) t 0 (cutW (wl.map Prod.fst)).length ∧ ∀ H', Same H H' → Q (.int (-2)) H') ∨ ∃ n : Nat, NoN nm (cutW (wl.map Prod.fst)) n ∧ ∀ H', Same H H' → Q (.int n) H')
theorem d__law_asked (T : Txt K mg) (nm : Nat → Str) : Def P w K mg base true 52 "_law_asked" ["_law_columns", "_law_words"] (spAsked8 nm) := by
  refine df__law_asked T (fun vs H Q E h => by obtain ⟨b, a, wl, rfl, _⟩ := h; rfl) (fun f cdv A outer s H vs Q E hr h => ?_)
  obtain ⟨b, a, wl, rfl, hB, ⟨vs, ha, hvs⟩, hok, hl, hcase⟩ := h
  have nd := sc__law_asked.nd
  have n1 := T.n_isinstance
  have hsz : sizeLine = 16777216 := sizeLine_eq
  have lb : (Str.ofString " ").length = 1 := by decide +kernel
  have hlv := hvs.len
  have hcut := cut_words hok
  have hsum := sumL (wl.map Prod.fst) 40 fun z hz => (hok z hz).1
  have hjl := join_le (wl.map Prod.fst)
  rw [List.length_map] at hsum hjl
  have hzs : ∀ y ∈ cutT 32 (Str.join " " (wl.map Prod.fst)), y.length ≤ 1000 := fun y hy => by
    rw [hcut] at hy
    unfold cutW at hy
    split at hy
    · rw [List.mem_singleton.mp hy]; decide +kernel
    · have := (hok y hy).1; omega
  have nd2 : (["_law_one"] : List Str).Nodup := by decide +kernel
  have gE : Gc mg "NoSieve" (.ref (clsA mg "NoSieve")) := ⟨_, T.m_NoSieve, rfl⟩
  refine sxs_cons ?_
  walk_at "s"
  walk_at "ex"
  refine sxs_cons ?_
  refine sx_try (fun σ c d H' => σ = [some (.ref b), some (.ref a), some (.int (-1)), none] ∧ c = .ref (clsA mg "NoSieve") ∧ Same H H' ∧ ∃ (n : Nat) (E' : Addr), d.1 = some E' ∧ H' E' = some (.xd [("at", .int n)]) ∧ ∀ H', Same H H' → Q (.int n) H') rfl rfl (fun F pn xo po => ?_) (fun σ c d H' hK => ?_)
  · rcases hcase with ⟨t, hdp, hrd, q⟩ | ⟨n, hno, q⟩
    · have D1 : Def P w K mg base true (9 + 2 * t.dep) "read_sieve" ["columns", "text"] (spRSieveT mg t) := d_read_sieveT T t
      refine sxs_cons (sx_expr (by rfl) ?_)
      walk_at "ex"
      refine ev_compL ["_law_one"] (σ' := [none]) (by rfl) (by rfl) (compSc_of (defScope s__law_asked) (by rfl) (by rfl) (by decide +kernel)) (by intro _; rfl) ?_
      walk_at "e"
      refine ⟨a, vs, rfl, SqL.of ha, by omega, fun τ => ∃ o1, τ = [o1], fun E2 i u H' => ∃ c, wl[i]? = some c ∧ u = .str c.1, ⟨none, rfl⟩, fun E2 i u H2 H3 ys _ _ p => p, fun fp E2 C s3 H0 i τ x H4 H3 hE2 hi hτ sm4 hys hG => ?_, fun E2 H4 ys hE2 hl2 hx2 e4 sm4 => ?_⟩
      · obtain ⟨o1, rfl⟩ := hτ
        obtain ⟨hx3, rfl⟩ := hG
        obtain ⟨c, hc, t, rfl, ht⟩ := hvs.get hx3
        refine eg_name nd2 (by rfl) (.inl rfl) (.inr rfl) ?_
        walk_at "ex"
        refine i_tup (SqT.of (sm4 _ _ ht)) (i := 0) rfl ?_
        exact ⟨⟨_, rfl⟩, ⟨c, hc, rfl⟩, Same.refl _⟩
      · have ey := list_of_pi (ys := wl) (fun c => V.str c.1) (by rw [hl2, hlv]) hx2
        have ey2 : ys = (wl.map Prod.fst).map V.str := by rw [ey, List.map_map]; rfl
        subst ey2
        walk_at "ex"
        refine m_join (SqL.of e4) (by rw [lb, List.length_map]; omega) ?_
        walk_at "ex"
        refine ⟨b, cs3 nm, _, rfl, hB.same sm4, by omega, hzs, hdp, by rw [hcut]; exact hrd, fun v H5 sm5 _ => ?_⟩
        refine sxs_one ?_
        walk_at "s"
        walk_at "ex"
        refine sxs_nil ?_
        refine sxs_one (sx_ret ?_)
        walk_at "ex"
        exact q H5 (sm4.trans sm5)
    · have D1 : Def P w K mg base true 51 "read_sieve" ["columns", "text"] (spRSieveX mg) := d_read_sieveX T
      refine sxs_cons (sx_expr (by rfl) ?_)
      walk_at "ex"
      refine ev_compL ["_law_one"] (σ' := [none]) (by rfl) (by rfl) (compSc_of (defScope s__law_asked) (by rfl) (by rfl) (by decide +kernel)) (by intro _; rfl) ?_
      walk_at "e"
      refine ⟨a, vs, rfl, SqL.of ha, by omega, fun τ => ∃ o1, τ = [o1], fun E2 i u H' => ∃ c, wl[i]? = some c ∧ u = .str c.1, ⟨none, rfl⟩, fun E2 i u H2 H3 ys _ _ p => p, fun fp E2 C s3 H0 i τ x H4 H3 hE2 hi hτ sm4 hys hG => ?_, fun E2 H4 ys hE2 hl2 hx2 e4 sm4 => ?_⟩
      · obtain ⟨o1, rfl⟩ := hτ
        obtain ⟨hx3, rfl⟩ := hG
        obtain ⟨c, hc, t, rfl, ht⟩ := hvs.get hx3
        refine eg_name nd2 (by rfl) (.inl rfl) (.inr rfl) ?_
        walk_at "ex"
        refine i_tup (SqT.of (sm4 _ _ ht)) (i := 0) rfl ?_
        exact ⟨⟨_, rfl⟩, ⟨c, hc, rfl⟩, Same.refl _⟩
      · have ey := list_of_pi (ys := wl) (fun c => V.str c.1) (by rw [hl2, hlv]) hx2
        have ey2 : ys = (wl.map Prod.fst).map V.str := by rw [ey, List.map_map]; rfl
        subst ey2
        walk_at "ex"
        refine m_join (SqL.of e4) (by rw [lb, List.length_map]; omega) ?_
        walk_at "ex"
        refine ⟨b, cs3 nm, _, n, rfl, hB.same sm4, by omega, hzs, by rw [hcut]; exact hno, fun e bb H5 sm5 he => ?_⟩
        exact ⟨rfl, rfl, sm4.trans sm5, n, e, rfl, he, q⟩
  · obtain ⟨rfl, rfl, sm, n, E', hd, hE', q⟩ := hK
    refine eh_as nd (by rfl) (by rfl) (by rfl) T.b_LeafError.at_ (by decide) (exm_top T.c_NoSieve T.b_LeafError) (fun e pn he => ?_)
    rw [hd]
    have hue : (upd H' e (xw e (clsA mg "NoSieve") (some E'))) e = some (xw e (clsA mg "NoSieve") (some E')) := upd_same
    have hE : (upd H' e (xw e (clsA mg "NoSieve") (some E'))) E' = some (.xd [("at", .int n)]) := by rw [upd_ne (ne_of_none hE' he)]; exact hE'
    generalize eu : upd H' e (xw e (clsA mg "NoSieve") (some E')) = Hu at hue hE ⊢
    have hE2 : ∀ E2, some E' = some E2 → ∃ fs, Hu E2 = some (.xd fs) := fun E2 z => by cases z; exact ⟨_, hE⟩
    refine sxs_one (sx_if ?_)
    walk_at "ex"
    refine c_isX T.c_NoSieve.attr hue hE2 (fun u z => z) (kit_self T.c_NoSieve) ?_
    walk_at "ex"
    refine sxs_one ?_
    walk_at "s"
    walk_at "ex"
    refine ev_xfld (e := e) (C := clsA mg "NoSieve") (E' := E') (v := .int n) (fs := [("at", .int n)]) (by rfl) T.c_NoSieve.attr T.f_NoSieve (fun u z => by obtain ⟨t, rfl⟩ := z; rfl) ?_
    walk_at "e"
    refine ⟨rfl, hue, hE, rfl, ?_⟩
    refine ⟨hue, ?_⟩
    refine sxs_one (sx_ret ?_)
    walk_at "ex"
    exact q _ (suite_any sm he eu.symm (Same.refl _))
end
end K08

namespace K08
open PySem L2 PyProof.Rows My Vl Lw
section
variable {P : Program} {w : World} {K : PySem.W.Frag} {mg : Str → Option Value} {base : Heap}
def nmOf (a b c : Str) : Nat → Str
  | 0 => a
  | 1 => b
  | _ => c
theorem nmOk3 {a b c : Str} (h1 : a ≠ b) (h2 : a ≠ c) (h3 : b ≠ c) (la : a.length ≤ 20 ∧ 32 ∉ a.cps.toList) (lb : b.length ≤ 20 ∧ 32 ∉ b.cps.toList) (lc : c.length ≤ 20 ∧ 32 ∉ c.cps.toList) : NmOk (nmOf a b c) := by
  refine ⟨h1, h2, h3, fun p hp => ?_, fun p hp => ?_⟩
  · match p, hp with
    | 0, _ => exact la.1
    | 1, _ => exact lb.1
    | 2, _ => exact lc.1
  · match p, hp with
    | 0, _ => exact la.2
    | 1, _ => exact lb.2
    | 2, _ => exact lc.2
def odd8 : List Str := [Str.ofString "", Str.ofString "?", Str.ofString "ups", Str.ofString "Up", Str.ofString "nobody", Str.ofString "alls", Str.ofString "'a", Str.ofString "1"]
theorem nm8 {a b c : Str} (h : NmOk (nmOf a b c)) (h0 : a ∉ odd8) (h1 : b ∉ odd8) (h2 : c ∉ odd8) : Nm8 (nmOf a b c) := by
  refine ⟨h, fun z hz p hp e => ?_⟩
  match p, hp with
  | 0, _ => exact h0 (by have e : z = a := e; rw [← e]; exact hz)
  | 1, _ => exact h1 (by have e : z = b := e; rw [← e]; exact hz)
  | 2, _ => exact h2 (by have e : z = c := e; rw [← e]; exact hz)
theorem law_fn (T : Txt K mg) {f : Addr} {fd : FuncData} (F : Fun K "law" "law" s_law f fd) : FnOk P w K mg base (CX1 P w) true 70 f fd ["_law_script"] (spLaw K) := by
  refine fn_sx F sc_law (fun vs H Q E h => by obtain ⟨a, ns, rfl, _⟩ := h; rfl) (fun cdv A outer s H vs Q E hr h => ?_)
  obtain ⟨a, ns, rfl, hS, hl, q⟩ := h
  have nd := sc_law.nd
  have n4 := T.n_isinstance
  have n5 := T.n_bool
  have n6 := T.n_int
  have hsz : sizeLine = 16777216 := sizeLine_eq
  have D0 : Def P w K mg base true 1 "_law_draw" ["_law_script", "_law_k", "_law_many"] (spDraw K) := d__law_draw T
  have wordsL : ∀ (nm : Nat → Str) (n : Addr) (H1 : Hp), Nm8 nm → Same H H1 → H1 n = some (.lst [.str (nm 0), .str (nm 1), .str (nm 2)]) →
      SXs (CxF true P w K mg base N_law "law" (defScope s_law) f cdv A outer s H E) ((defBody s_law).drop 2) { nx := fun _ H' => Q .non H', rt := Q } [some (.ref a), some (.ref n), none, none, none, none] H1 := by
    intro nm n H1 hN sm1 en
    have D1 : Def P w K mg base true 3 "_law_tree" ["_law_script", "_law_names"] (spTree8 K nm) := d__law_tree T hN.toNmOk
    have D2 : Def P w K mg base true 52 "_law_asked" ["_law_columns", "_law_words"] (spAsked8 nm) := d__law_asked T nm
    have D3 : Def P w K mg base true 4 "_law_spoiled" ["_law_script", "_law_words", "_law_names"] (spSpo8 K nm) := d__law_spoiled T hN
    have sqn : SqL K H1 n [.str (nm 0), .str (nm 1), .str (nm 2)] := SqL.of en
    refine sxs_cons ?_
    walk_at "s"
    walk_at "ex"
    refine i_list sqn (i := 0) rfl ?_
    walk_at "ex"
    refine ⟨by show 2 ≤ sizeLine; omega, fun t0 ht0 => ?_⟩
    have s0 : Same H1 (upd H1 t0 (.tup [.str (nm 0), .str (Str.ofString "number")])) := Same.upd ht0
    have e0 : (upd H1 t0 (.tup [.str (nm 0), .str (Str.ofString "number")])) t0 = some (.tup [.str (nm 0), .str (Str.ofString "number")]) := upd_same
    generalize upd H1 t0 (.tup [.str (nm 0), .str (Str.ofString "number")]) = H2 at s0 e0 ⊢
    walk_at "ex"
    refine i_list (s0.seq sqn) (i := 1) rfl ?_
    walk_at "ex"
    refine ⟨by show 2 ≤ sizeLine; omega, fun t1 ht1 => ?_⟩
    have s1 : Same H2 (upd H2 t1 (.tup [.str (nm 1), .str (Str.ofString "text")])) := Same.upd ht1
    have e1 : (upd H2 t1 (.tup [.str (nm 1), .str (Str.ofString "text")])) t1 = some (.tup [.str (nm 1), .str (Str.ofString "text")]) := upd_same
    generalize upd H2 t1 (.tup [.str (nm 1), .str (Str.ofString "text")]) = H3 at s1 e1 ⊢
    walk_at "ex"
    refine i_list ((s0.trans s1).seq sqn) (i := 2) rfl ?_
    walk_at "ex"
    refine ⟨by show 2 ≤ sizeLine; omega, fun t2 ht2 => ?_⟩
    have s2 : Same H3 (upd H3 t2 (.tup [.str (nm 2), .str (Str.ofString "number")])) := Same.upd ht2
    have e2 : (upd H3 t2 (.tup [.str (nm 2), .str (Str.ofString "number")])) t2 = some (.tup [.str (nm 2), .str (Str.ofString "number")]) := upd_same
    generalize upd H3 t2 (.tup [.str (nm 2), .str (Str.ofString "number")]) = H4 at s2 e2 ⊢
    walk_at "ex"
    refine ⟨by show 3 ≤ sizeLine; omega, fun c hc => ?_⟩
    have s3 : Same H4 (upd H4 c (.lst [.ref t0, .ref t1, .ref t2])) := Same.upd hc
    have e3 : (upd H4 c (.lst [.ref t0, .ref t1, .ref t2])) c = some (.lst [.ref t0, .ref t1, .ref t2]) := upd_same
    generalize upd H4 c (.lst [.ref t0, .ref t1, .ref t2]) = H5 at s3 e3 ⊢
    have s15 := (s0.trans (s1.trans s2)).trans s3
    have hC : Cols H5 c (cs3 nm) := ⟨_, e3, .cons ⟨t0, rfl, s3 _ _ (s2 _ _ (s1 _ _ e0))⟩ (.cons ⟨t1, rfl, s3 _ _ (s2 _ _ e1)⟩ (.cons ⟨t2, rfl, s3 _ _ e2⟩ .nil))⟩
    have sm5 := sm1.trans s15
    have hcn : H c = none := (sm1.trans (s0.trans (s1.trans s2))).free hc
    have en5 := s15 _ _ en
    refine sxs_cons ?_
    walk_at "s"
    walk_at "ex"
    refine ⟨a, n, ns, rfl, sm5.seq hS, hl, SqL.of en5, fun wp t H6 sm6 hwp hg hdp hwl => ?_⟩
    have sm56 := sm5.trans sm6
    have hC6 := hC.same sm6
    have hne := wT_ne nm t
    refine sxs_cons (sx_if ?_)
    walk_at "ex"
    refine ⟨c, wp, wr nm t, rfl, hC6, hwp, wr_ok hN.toNmOk hg, by rw [wr_len]; omega, .inl ⟨t, by omega, ?_, fun H7 sm7 => ?_⟩⟩
    · rw [wr_fst, cutW_ne hne]
      have := reads_of hN.toNmOk (ws := wT nm t) (t := t) (s := 0) ⟨[], by simp⟩ (by omega) hg
      rw [Nat.zero_add] at this
      exact this
    walk_at "ex"
    refine ifN (fun h => absurd rfl h) (fun _ => ?_)
    have sm67 := sm6.trans sm7
    refine sxs_nil (sxs_cons ?_)
    walk_at "s"
    walk_at "ex"
    refine ⟨a, wp, n, ns, t, rfl, (sm56.trans sm7).seq hS, hl, SqL.of (sm67 _ _ en5), hwp.same sm7, hg, hdp, hwl, fun p l k wl H8 sm8 ep hl8 hsp => ?_⟩
    refine sxs_cons ?_
    walk_at "s"
    walk_at "ex"
    refine i_tup (SqT.of ep) (i := 0) rfl ?_
    walk_at "ex"
    refine ⟨c, l, wl, rfl, (hC6.same sm7).same sm8, hl8, hsp.ok, hsp.len, .inr ⟨k, hsp.no, fun H9 sm9 => ?_⟩⟩
    refine sxs_one (sx_ret ?_)
    walk_at "ex"
    refine i_tup (SqT.of (sm9 _ _ ep)) (i := 1) rfl ?_
    walk_at "ex"
    rw [decide_eq_true rfl]
    exact q _
  have okA : Nm8 (nmOf "up" "word" "down") := nm8 (nmOk3 (by decide +kernel) (by decide +kernel) (by decide +kernel) ⟨by decide +kernel, by decide +kernel⟩ ⟨by decide +kernel, by decide +kernel⟩ ⟨by decide +kernel, by decide +kernel⟩) (by decide +kernel) (by decide +kernel) (by decide +kernel)
  have okB : Nm8 (nmOf "over" "not" "all") := nm8 (nmOk3 (by decide +kernel) (by decide +kernel) (by decide +kernel) ⟨by decide +kernel, by decide +kernel⟩ ⟨by decide +kernel, by decide +kernel⟩ ⟨by decide +kernel, by decide +kernel⟩) (by decide +kernel) (by decide +kernel) (by decide +kernel)
  have okC : Nm8 (nmOf "none" "is" "either") := nm8 (nmOk3 (by decide +kernel) (by decide +kernel) (by decide +kernel) ⟨by decide +kernel, by decide +kernel⟩ ⟨by decide +kernel, by decide +kernel⟩ ⟨by decide +kernel, by decide +kernel⟩) (by decide +kernel) (by decide +kernel) (by decide +kernel)
  refine sxs_cons ?_
  refine L2.sx_set (i := 1) (x := "_law_names") ?_ ?_ ?_ ?_ ?_ ?_
  · exact nd
  · rfl
  · exact Or.inl rfl
  · rfl
  · first | exact Or.inl rfl | exact Or.inr rfl
  walk_at "ex"
  refine ⟨by show 3 ≤ sizeLine; omega, fun pa hpa => ?_⟩
  have sa : Same H (upd H pa (.lst [.str (Str.ofString "up"), .str (Str.ofString "word"), .str (Str.ofString "down")])) := Same.upd hpa
  have ea : (upd H pa (.lst [.str (Str.ofString "up"), .str (Str.ofString "word"), .str (Str.ofString "down")])) pa = some (.lst [.str (Str.ofString "up"), .str (Str.ofString "word"), .str (Str.ofString "down")]) := upd_same
  generalize upd H pa (.lst [.str (Str.ofString "up"), .str (Str.ofString "word"), .str (Str.ofString "down")]) = Ha at sa ea ⊢
  walk_at "ex"
  refine ⟨by show 3 ≤ sizeLine; omega, fun pb hpb => ?_⟩
  have sb : Same Ha (upd Ha pb (.lst [.str (Str.ofString "over"), .str (Str.ofString "not"), .str (Str.ofString "all")])) := Same.upd hpb
  have eb : (upd Ha pb (.lst [.str (Str.ofString "over"), .str (Str.ofString "not"), .str (Str.ofString "all")])) pb = some (.lst [.str (Str.ofString "over"), .str (Str.ofString "not"), .str (Str.ofString "all")]) := upd_same
  generalize upd Ha pb (.lst [.str (Str.ofString "over"), .str (Str.ofString "not"), .str (Str.ofString "all")]) = Hb at sb eb ⊢
  walk_at "ex"
  refine ⟨by show 3 ≤ sizeLine; omega, fun pc hpc => ?_⟩
  have sc' : Same Hb (upd Hb pc (.lst [.str (Str.ofString "none"), .str (Str.ofString "is"), .str (Str.ofString "either")])) := Same.upd hpc
  have ec : (upd Hb pc (.lst [.str (Str.ofString "none"), .str (Str.ofString "is"), .str (Str.ofString "either")])) pc = some (.lst [.str (Str.ofString "none"), .str (Str.ofString "is"), .str (Str.ofString "either")]) := upd_same
  generalize upd Hb pc (.lst [.str (Str.ofString "none"), .str (Str.ofString "is"), .str (Str.ofString "either")]) = Hc at sc' ec ⊢
  walk_at "ex"
  refine ⟨by show 3 ≤ sizeLine; omega, fun pn hpn => ?_⟩
  have sn : Same Hc (upd Hc pn (.lst [.ref pa, .ref pb, .ref pc])) := Same.upd hpn
  have en : (upd Hc pn (.lst [.ref pa, .ref pb, .ref pc])) pn = some (.lst [.ref pa, .ref pb, .ref pc]) := upd_same
  generalize upd Hc pn (.lst [.ref pa, .ref pb, .ref pc]) = Hn at sn en ⊢
  have sA := (sa.trans (sb.trans sc')).trans sn
  refine sxs_cons ?_
  walk_at "s"
  walk_at "ex"
  refine ⟨a, ns, 3, 4, rfl, sA.seq hS, hl, by decide, by decide, by decide, ?_⟩
  walk_at "ex"
  have w0 := Int.emod_nonneg (drawF ns 3 4) (b := 3) (by decide)
  have w1 := Int.emod_lt_of_pos (drawF ns 3 4) (b := 3) (by decide)
  generalize drawF ns 3 4 % 3 = way at w0 w1 ⊢
  have hd : way = 0 ∨ way = 1 ∨ way = 2 := by omega
  rcases hd with rfl | rfl | rfl
  · exact i_list (SqL.of en) (i := 0) rfl (wordsL (nmOf "up" "word" "down") pa Hn okA sA (((sb.trans sc').trans sn) _ _ ea))
  · exact i_list (SqL.of en) (i := 1) rfl (wordsL (nmOf "over" "not" "all") pb Hn okB sA ((sc'.trans sn) _ _ eb))
  · exact i_list (SqL.of en) (i := 2) rfl (wordsL (nmOf "none" "is" "either") pc Hn okC sA (sn _ _ ec))
end
end K08

namespace PySem.W.Fast
def tw3858950631163388469 : Unit := ()
def tw421632802385273107 : Unit := ()
def tw14847252585310880564 : Unit := ()
def tw7429556285795511550 : Unit := ()
def tw11137360400189837619 : Unit := ()
def tw13272117902670272289 : Unit := ()
def tw8217449465726628799 : Unit := ()
def tw14286008385793252553 : Unit := ()
def tw10688853881538155170 : Unit := ()
def tw11833908843185379124 : Unit := ()
def tw17074476625615690331 : Unit := ()
def tw10462068937446191585 : Unit := ()
def tw11094437034772869416 : Unit := ()
def tw15544621549608253162 : Unit := ()
def tw12316387189290140494 : Unit := ()
def tw15486381225194509078 : Unit := ()
def tw11051229807544047506 : Unit := ()
def tw8534213338077388327 : Unit := ()
def tw17093354187412679279 : Unit := ()
def tw12718629019307777145 : Unit := ()
def tw14430759971060740163 : Unit := ()
def tw2635372401193904620 : Unit := ()
def tw11200237505306247488 : Unit := ()
def tw9016525886063269989 : Unit := ()
def tw9157917574867394414 : Unit := ()
def tw12779399794124233930 : Unit := ()
end PySem.W.Fast
namespace K08
open PySem L2 PyProof.Rows
theorem txt_mk {K : PySem.W.Frag} {h : Heap} {mg : Str → Option Value} (X : K.In h) (G : h.Ns mainGlobals mg) {f0 : Addr} {od0 an0 : Option Addr} {sl0 : Array (Option Value)} {oc0 kV0 dc0 pm0 cd0 ct0 : Value} {f1 : Addr} {od1 an1 : Option Addr} {sl1 : Array (Option Value)} {oc1 kV1 dc1 pm1 cd1 ct1 : Value} {f2 : Addr} {od2 an2 : Option Addr} {sl2 : Array (Option Value)} {oc2 kV2 dc2 pm2 cd2 ct2 : Value} {f3 : Addr} {od3 an3 : Option Addr} {sl3 : Array (Option Value)} {oc3 kV3 dc3 pm3 cd3 ct3 : Value} {f4 : Addr} {od4 an4 : Option Addr} {sl4 : Array (Option Value)} {oc4 kV4 dc4 pm4 cd4 ct4 : Value} {f5 : Addr} {od5 an5 : Option Addr} {sl5 : Array (Option Value)} {oc5 kV5 dc5 pm5 cd5 ct5 : Value} {f6 : Addr} {od6 an6 : Option Addr} {sl6 : Array (Option Value)} {oc6 kV6 dc6 pm6 cd6 ct6 : Value} {f7 : Addr} {od7 an7 : Option Addr} {sl7 : Array (Option Value)} {oc7 kV7 dc7 pm7 cd7 ct7 : Value} {f8 : Addr} {od8 an8 : Option Addr} {sl8 : Array (Option Value)} {oc8 kV8 dc8 pm8 cd8 ct8 : Value} {f9 : Addr} {od9 an9 : Option Addr} {sl9 : Array (Option Value)} {oc9 kV9 dc9 pm9 cd9 ct9 : Value} {f10 : Addr} {od10 an10 : Option Addr} {sl10 : Array (Option Value)} {oc10 kV10 dc10 pm10 cd10 ct10 : Value} {f11 : Addr} {od11 an11 : Option Addr} {sl11 : Array (Option Value)} {oc11 kV11 dc11 pm11 cd11 ct11 : Value} {f12 : Addr} {od12 an12 : Option Addr} {sl12 : Array (Option Value)} {oc12 kV12 dc12 pm12 cd12 ct12 : Value} {f13 : Addr} {od13 an13 : Option Addr} {sl13 : Array (Option Value)} {oc13 kV13 dc13 pm13 cd13 ct13 : Value} {f14 : Addr} {od14 an14 : Option Addr} {sl14 : Array (Option Value)} {oc14 kV14 dc14 pm14 cd14 ct14 : Value} {f15 : Addr} {od15 an15 : Option Addr} {sl15 : Array (Option Value)} {oc15 kV15 dc15 pm15 cd15 ct15 : Value} {f16 : Addr} {od16 an16 : Option Addr} {sl16 : Array (Option Value)} {oc16 kV16 dc16 pm16 cd16 ct16 : Value} {f17 : Addr} {od17 an17 : Option Addr} {sl17 : Array (Option Value)} {oc17 kV17 dc17 pm17 cd17 ct17 : Value} {f18 : Addr} {od18 an18 : Option Addr} {sl18 : Array (Option Value)} {oc18 kV18 dc18 pm18 cd18 ct18 : Value} {f19 : Addr} {od19 an19 : Option Addr} {sl19 : Array (Option Value)} {oc19 kV19 dc19 pm19 cd19 ct19 : Value} {f20 : Addr} {od20 an20 : Option Addr} {sl20 : Array (Option Value)} {oc20 kV20 dc20 pm20 cd20 ct20 : Value} {f21 : Addr} {od21 an21 : Option Addr} {sl21 : Array (Option Value)} {oc21 kV21 dc21 pm21 cd21 ct21 : Value} {f22 : Addr} {od22 an22 : Option Addr} {sl22 : Array (Option Value)} {oc22 kV22 dc22 pm22 cd22 ct22 : Value} {f23 : Addr} {od23 an23 : Option Addr} {sl23 : Array (Option Value)} {oc23 kV23 dc23 pm23 cd23 ct23 : Value} {f24 : Addr} {od24 an24 : Option Addr} {sl24 : Array (Option Value)} {oc24 kV24 dc24 pm24 cd24 ct24 : Value} {f25 : Addr} {od25 an25 : Option Addr} {sl25 : Array (Option Value)} {oc25 kV25 dc25 pm25 cd25 ct25 : Value} {f26 : Addr} {od26 an26 : Option Addr} {sl26 : Array (Option Value)} {oc26 kV26 dc26 pm26 cd26 ct26 : Value} {t0 : Tok} {t1 : Tok} {t2 : Tok} {t3 : Tok} {t4 : Tok} {t5 : Tok} {t6 : Tok} {t7 : Tok} {t8 : Tok} {t9 : Tok} {t10 : Tok} {t11 : Tok} {t12 : Tok} {t13 : Tok} {t14 : Tok} {t15 : Tok} {t16 : Tok} {t17 : Tok} {t18 : Tok} {t19 : Tok} {C0 : Addr} {C1 : Addr} {C2 : Addr} {C3 : Addr} {C4 : Addr} {C5 : Addr} {C6 : Addr} {C7 : Addr} {C8 : Addr} {C9 : Addr} {C10 : Addr} {C11 : Addr} {C12 : Addr} {C13 : Addr} {C14 : Addr} {fi0 : Addr} {iod0 ian0 : Option Addr} {isl0 : Array (Option Value)} {ioc0 ikV0 idc0 ipm0 icd0 ict0 : Value} {fo0 : Addr} {ood0 oan0 : Option Addr} {osl0 : Array (Option Value)} {ooc0 okV0 odc0 opm0 ocd0 oct0 : Value} {fo1 : Addr} {ood1 oan1 : Option Addr} {osl1 : Array (Option Value)} {ooc1 okV1 odc1 opm1 ocd1 oct1 : Value} {fo2 : Addr} {ood2 oan2 : Option Addr} {osl2 : Array (Option Value)} {ooc2 okV2 odc2 opm2 ocd2 oct2 : Value} {fo3 : Addr} {ood3 oan3 : Option Addr} {osl3 : Array (Option Value)} {ooc3 okV3 odc3 opm3 ocd3 oct3 : Value} {fo4 : Addr} {ood4 oan4 : Option Addr} {osl4 : Array (Option Value)} {ooc4 okV4 odc4 opm4 ocd4 oct4 : Value} {fo5 : Addr} {ood5 oan5 : Option Addr} {osl5 : Array (Option Value)} {ooc5 okV5 odc5 opm5 ocd5 oct5 : Value} {fo6 : Addr} {ood6 oan6 : Option Addr} {osl6 : Array (Option Value)} {ooc6 okV6 odc6 opm6 ocd6 oct6 : Value} {fo7 : Addr} {ood7 oan7 : Option Addr} {osl7 : Array (Option Value)} {ooc7 okV7 odc7 opm7 ocd7 oct7 : Value} {fo8 : Addr} {ood8 oan8 : Option Addr} {osl8 : Array (Option Value)} {ooc8 okV8 odc8 opm8 ocd8 oct8 : Value} {fo9 : Addr} {ood9 oan9 : Option Addr} {osl9 : Array (Option Value)} {ooc9 okV9 odc9 opm9 ocd9 oct9 : Value} {fo10 : Addr} {ood10 oan10 : Option Addr} {osl10 : Array (Option Value)} {ooc10 okV10 odc10 opm10 ocd10 oct10 : Value} {fo11 : Addr} {ood11 oan11 : Option Addr} {osl11 : Array (Option Value)} {ooc11 okV11 odc11 opm11 ocd11 oct11 : Value} {fo12 : Addr} {ood12 oan12 : Option Addr} {osl12 : Array (Option Value)} {ooc12 okV12 odc12 opm12 ocd12 oct12 : Value} {fo13 : Addr} {ood13 oan13 : Option Addr} {osl13 : Array (Option Value)} {ooc13 okV13 odc13 opm13 ocd13 oct13 : Value} {fo14 : Addr} {ood14 oan14 : Option Addr} {osl14 : Array (Option Value)} {ooc14 okV14 odc14 opm14 ocd14 oct14 : Value} {fo15 : Addr} {ood15 oan15 : Option Addr} {osl15 : Array (Option Value)} {ooc15 okV15 odc15 opm15 ocd15 oct15 : Value}
    (aq0 : PySem.W.nsIn K mainGlobals "_wall" = some (some (.ref f0)))
    (lq0 : K.lookup f0 = some ⟨oc0, od0, .func (PySem.W.fnOf "_wall" "_wall" (defArgs s__wall) (defBody s__wall) (defScope s__wall) .none kV0 dc0 pm0 an0 cd0 ct0), sl0⟩)
    (cq0 : PySem.W.codeIn K cd0 "_wall" = true)
    (kq0 : PySem.W.keepIn K (.ref f0) = true)
    (aq1 : PySem.W.nsIn K mainGlobals "made_of" = some (some (.ref f1)))
    (lq1 : K.lookup f1 = some ⟨oc1, od1, .func (PySem.W.fnOf "made_of" "made_of" (defArgs s_made_of) (defBody s_made_of) (defScope s_made_of) .none kV1 dc1 pm1 an1 cd1 ct1), sl1⟩)
    (cq1 : PySem.W.codeIn K cd1 "made_of" = true)
    (kq1 : PySem.W.keepIn K (.ref f1) = true)
    (aq2 : PySem.W.nsIn K mainGlobals "is_text_value" = some (some (.ref f2)))
    (lq2 : K.lookup f2 = some ⟨oc2, od2, .func (PySem.W.fnOf "is_text_value" "is_text_value" (defArgs s_is_text_value) (defBody s_is_text_value) (defScope s_is_text_value) .none kV2 dc2 pm2 an2 cd2 ct2), sl2⟩)
    (cq2 : PySem.W.codeIn K cd2 "is_text_value" = true)
    (kq2 : PySem.W.keepIn K (.ref f2) = true)
    (aq3 : PySem.W.nsIn K mainGlobals "are_figures" = some (some (.ref f3)))
    (lq3 : K.lookup f3 = some ⟨oc3, od3, .func (PySem.W.fnOf "are_figures" "are_figures" (defArgs s_are_figures) (defBody s_are_figures) (defScope s_are_figures) .none kV3 dc3 pm3 an3 cd3 ct3), sl3⟩)
    (cq3 : PySem.W.codeIn K cd3 "are_figures" = true)
    (kq3 : PySem.W.keepIn K (.ref f3) = true)
    (aq4 : PySem.W.nsIn K mainGlobals "read_figures" = some (some (.ref f4)))
    (lq4 : K.lookup f4 = some ⟨oc4, od4, .func (PySem.W.fnOf "read_figures" "read_figures" (defArgs s_read_figures) (defBody s_read_figures) (defScope s_read_figures) .none kV4 dc4 pm4 an4 cd4 ct4), sl4⟩)
    (cq4 : PySem.W.codeIn K cd4 "read_figures" = true)
    (kq4 : PySem.W.keepIn K (.ref f4) = true)
    (aq5 : PySem.W.nsIn K mainGlobals "read_number_word" = some (some (.ref f5)))
    (lq5 : K.lookup f5 = some ⟨oc5, od5, .func (PySem.W.fnOf "read_number_word" "read_number_word" (defArgs s_read_number_word) (defBody s_read_number_word) (defScope s_read_number_word) .none kV5 dc5 pm5 an5 cd5 ct5), sl5⟩)
    (cq5 : PySem.W.codeIn K cd5 "read_number_word" = true)
    (kq5 : PySem.W.keepIn K (.ref f5) = true)
    (aq6 : PySem.W.nsIn K mainGlobals "read_text_word" = some (some (.ref f6)))
    (lq6 : K.lookup f6 = some ⟨oc6, od6, .func (PySem.W.fnOf "read_text_word" "read_text_word" (defArgs s_read_text_word) (defBody s_read_text_word) (defScope s_read_text_word) .none kV6 dc6 pm6 an6 cd6 ct6), sl6⟩)
    (cq6 : PySem.W.codeIn K cd6 "read_text_word" = true)
    (kq6 : PySem.W.keepIn K (.ref f6) = true)
    (aq7 : PySem.W.nsIn K mainGlobals "read_value" = some (some (.ref f7)))
    (lq7 : K.lookup f7 = some ⟨oc7, od7, .func (PySem.W.fnOf "read_value" "read_value" (defArgs s_read_value) (defBody s_read_value) (defScope s_read_value) .none kV7 dc7 pm7 an7 cd7 ct7), sl7⟩)
    (cq7 : PySem.W.codeIn K cd7 "read_value" = true)
    (kq7 : PySem.W.keepIn K (.ref f7) = true)
    (aq8 : PySem.W.nsIn K mainGlobals "place_of" = some (some (.ref f8)))
    (lq8 : K.lookup f8 = some ⟨oc8, od8, .func (PySem.W.fnOf "place_of" "place_of" (defArgs s_place_of) (defBody s_place_of) (defScope s_place_of) .none kV8 dc8 pm8 an8 cd8 ct8), sl8⟩)
    (cq8 : PySem.W.codeIn K cd8 "place_of" = true)
    (kq8 : PySem.W.keepIn K (.ref f8) = true)
    (aq9 : PySem.W.nsIn K mainGlobals "word_at" = some (some (.ref f9)))
    (lq9 : K.lookup f9 = some ⟨oc9, od9, .func (PySem.W.fnOf "word_at" "word_at" (defArgs s_word_at) (defBody s_word_at) (defScope s_word_at) .none kV9 dc9 pm9 an9 cd9 ct9), sl9⟩)
    (cq9 : PySem.W.codeIn K cd9 "word_at" = true)
    (kq9 : PySem.W.keepIn K (.ref f9) = true)
    (aq10 : PySem.W.nsIn K mainGlobals "text_between" = some (some (.ref f10)))
    (lq10 : K.lookup f10 = some ⟨oc10, od10, .func (PySem.W.fnOf "text_between" "text_between" (defArgs s_text_between) (defBody s_text_between) (defScope s_text_between) .none kV10 dc10 pm10 an10 cd10 ct10), sl10⟩)
    (cq10 : PySem.W.codeIn K cd10 "text_between" = true)
    (kq10 : PySem.W.keepIn K (.ref f10) = true)
    (aq11 : PySem.W.nsIn K mainGlobals "read_column" = some (some (.ref f11)))
    (lq11 : K.lookup f11 = some ⟨oc11, od11, .func (PySem.W.fnOf "read_column" "read_column" (defArgs s_read_column) (defBody s_read_column) (defScope s_read_column) .none kV11 dc11 pm11 an11 cd11 ct11), sl11⟩)
    (cq11 : PySem.W.codeIn K cd11 "read_column" = true)
    (kq11 : PySem.W.keepIn K (.ref f11) = true)
    (aq12 : PySem.W.nsIn K mainGlobals "read_word" = some (some (.ref f12)))
    (lq12 : K.lookup f12 = some ⟨oc12, od12, .func (PySem.W.fnOf "read_word" "read_word" (defArgs s_read_word) (defBody s_read_word) (defScope s_read_word) .none kV12 dc12 pm12 an12 cd12 ct12), sl12⟩)
    (cq12 : PySem.W.codeIn K cd12 "read_word" = true)
    (kq12 : PySem.W.keepIn K (.ref f12) = true)
    (aq13 : PySem.W.nsIn K mainGlobals "read_none" = some (some (.ref f13)))
    (lq13 : K.lookup f13 = some ⟨oc13, od13, .func (PySem.W.fnOf "read_none" "read_none" (defArgs s_read_none) (defBody s_read_none) (defScope s_read_none) .none kV13 dc13 pm13 an13 cd13 ct13), sl13⟩)
    (cq13 : PySem.W.codeIn K cd13 "read_none" = true)
    (kq13 : PySem.W.keepIn K (.ref f13) = true)
    (aq14 : PySem.W.nsIn K mainGlobals "read_of_value" = some (some (.ref f14)))
    (lq14 : K.lookup f14 = some ⟨oc14, od14, .func (PySem.W.fnOf "read_of_value" "read_of_value" (defArgs s_read_of_value) (defBody s_read_of_value) (defScope s_read_of_value) .none kV14 dc14 pm14 an14 cd14 ct14), sl14⟩)
    (cq14 : PySem.W.codeIn K cd14 "read_of_value" = true)
    (kq14 : PySem.W.keepIn K (.ref f14) = true)
    (aq15 : PySem.W.nsIn K mainGlobals "read_of_sieves" = some (some (.ref f15)))
    (lq15 : K.lookup f15 = some ⟨oc15, od15, .func (PySem.W.fnOf "read_of_sieves" "read_of_sieves" (defArgs s_read_of_sieves) (defBody s_read_of_sieves) (defScope s_read_of_sieves) .none kV15 dc15 pm15 an15 cd15 ct15), sl15⟩)
    (cq15 : PySem.W.codeIn K cd15 "read_of_sieves" = true)
    (kq15 : PySem.W.keepIn K (.ref f15) = true)
    (aq16 : PySem.W.nsIn K mainGlobals "read_part" = some (some (.ref f16)))
    (lq16 : K.lookup f16 = some ⟨oc16, od16, .func (PySem.W.fnOf "read_part" "read_part" (defArgs s_read_part) (defBody s_read_part) (defScope s_read_part) .none kV16 dc16 pm16 an16 cd16 ct16), sl16⟩)
    (cq16 : PySem.W.codeIn K cd16 "read_part" = true)
    (kq16 : PySem.W.keepIn K (.ref f16) = true)
    (aq17 : PySem.W.nsIn K mainGlobals "read_sieve" = some (some (.ref f17)))
    (lq17 : K.lookup f17 = some ⟨oc17, od17, .func (PySem.W.fnOf "read_sieve" "read_sieve" (defArgs s_read_sieve) (defBody s_read_sieve) (defScope s_read_sieve) .none kV17 dc17 pm17 an17 cd17 ct17), sl17⟩)
    (cq17 : PySem.W.codeIn K cd17 "read_sieve" = true)
    (kq17 : PySem.W.keepIn K (.ref f17) = true)
    (aq18 : PySem.W.nsIn K mainGlobals "_law_draw" = some (some (.ref f18)))
    (lq18 : K.lookup f18 = some ⟨oc18, od18, .func (PySem.W.fnOf "_law_draw" "_law_draw" (defArgs s__law_draw) (defBody s__law_draw) (defScope s__law_draw) .none kV18 dc18 pm18 an18 cd18 ct18), sl18⟩)
    (cq18 : PySem.W.codeIn K cd18 "_law_draw" = true)
    (kq18 : PySem.W.keepIn K (.ref f18) = true)
    (aq19 : PySem.W.nsIn K mainGlobals "_law_look" = some (some (.ref f19)))
    (lq19 : K.lookup f19 = some ⟨oc19, od19, .func (PySem.W.fnOf "_law_look" "_law_look" (defArgs s__law_look) (defBody s__law_look) (defScope s__law_look) .none kV19 dc19 pm19 an19 cd19 ct19), sl19⟩)
    (cq19 : PySem.W.codeIn K cd19 "_law_look" = true)
    (kq19 : PySem.W.keepIn K (.ref f19) = true)
    (aq20 : PySem.W.nsIn K mainGlobals "_law_tree" = some (some (.ref f20)))
    (lq20 : K.lookup f20 = some ⟨oc20, od20, .func (PySem.W.fnOf "_law_tree" "_law_tree" (defArgs s__law_tree) (defBody s__law_tree) (defScope s__law_tree) .none kV20 dc20 pm20 an20 cd20 ct20), sl20⟩)
    (cq20 : PySem.W.codeIn K cd20 "_law_tree" = true)
    (kq20 : PySem.W.keepIn K (.ref f20) = true)
    (aq21 : PySem.W.nsIn K mainGlobals "_law_strange" = some (some (.ref f21)))
    (lq21 : K.lookup f21 = some ⟨oc21, od21, .func (PySem.W.fnOf "_law_strange" "_law_strange" (defArgs s__law_strange) (defBody s__law_strange) (defScope s__law_strange) .none kV21 dc21 pm21 an21 cd21 ct21), sl21⟩)
    (cq21 : PySem.W.codeIn K cd21 "_law_strange" = true)
    (kq21 : PySem.W.keepIn K (.ref f21) = true)
    (aq22 : PySem.W.nsIn K mainGlobals "_law_over" = some (some (.ref f22)))
    (lq22 : K.lookup f22 = some ⟨oc22, od22, .func (PySem.W.fnOf "_law_over" "_law_over" (defArgs s__law_over) (defBody s__law_over) (defScope s__law_over) .none kV22 dc22 pm22 an22 cd22 ct22), sl22⟩)
    (cq22 : PySem.W.codeIn K cd22 "_law_over" = true)
    (kq22 : PySem.W.keepIn K (.ref f22) = true)
    (aq23 : PySem.W.nsIn K mainGlobals "_law_deep" = some (some (.ref f23)))
    (lq23 : K.lookup f23 = some ⟨oc23, od23, .func (PySem.W.fnOf "_law_deep" "_law_deep" (defArgs s__law_deep) (defBody s__law_deep) (defScope s__law_deep) .none kV23 dc23 pm23 an23 cd23 ct23), sl23⟩)
    (cq23 : PySem.W.codeIn K cd23 "_law_deep" = true)
    (kq23 : PySem.W.keepIn K (.ref f23) = true)
    (aq24 : PySem.W.nsIn K mainGlobals "_law_spoiled" = some (some (.ref f24)))
    (lq24 : K.lookup f24 = some ⟨oc24, od24, .func (PySem.W.fnOf "_law_spoiled" "_law_spoiled" (defArgs s__law_spoiled) (defBody s__law_spoiled) (defScope s__law_spoiled) .none kV24 dc24 pm24 an24 cd24 ct24), sl24⟩)
    (cq24 : PySem.W.codeIn K cd24 "_law_spoiled" = true)
    (kq24 : PySem.W.keepIn K (.ref f24) = true)
    (aq25 : PySem.W.nsIn K mainGlobals "_law_asked" = some (some (.ref f25)))
    (lq25 : K.lookup f25 = some ⟨oc25, od25, .func (PySem.W.fnOf "_law_asked" "_law_asked" (defArgs s__law_asked) (defBody s__law_asked) (defScope s__law_asked) .none kV25 dc25 pm25 an25 cd25 ct25), sl25⟩)
    (cq25 : PySem.W.codeIn K cd25 "_law_asked" = true)
    (kq25 : PySem.W.keepIn K (.ref f25) = true)
    (aq26 : PySem.W.nsIn K mainGlobals "law" = some (some (.ref f26)))
    (lq26 : K.lookup f26 = some ⟨oc26, od26, .func (PySem.W.fnOf "law" "law" (defArgs s_law) (defBody s_law) (defScope s_law) .none kV26 dc26 pm26 an26 cd26 ct26), sl26⟩)
    (cq26 : PySem.W.codeIn K cd26 "law" = true)
    (kq26 : PySem.W.keepIn K (.ref f26) = true)
    (gq0 : PySem.W.nsIn K mainGlobals "NUMBER" = some (some (.str "number" t0)))
    (gq1 : PySem.W.nsIn K mainGlobals "TEXT" = some (some (.str "text" t1)))
    (gq2 : PySem.W.nsIn K mainGlobals "FIGURES" = some (some (.str "0123456789" t2)))
    (gq3 : PySem.W.nsIn K mainGlobals "TEXT_SIGNS" = some (some (.str "abcdefghijklmnopqrstuvwxyz0123456789-" t3)))
    (gq4 : PySem.W.nsIn K mainGlobals "LARGEST" = some (some (.int 1000000000000000000 t4)))
    (gq5 : PySem.W.nsIn K mainGlobals "LONGEST" = some (some (.int 20 t5)))
    (gq6 : PySem.W.nsIn K mainGlobals "NONE_WORD" = some (some (.str "?" t6)))
    (gq7 : PySem.W.nsIn K mainGlobals "TEXT_AHEAD" = some (some (.str "'" t7)))
    (gq8 : PySem.W.nsIn K mainGlobals "BELOW_AHEAD" = some (some (.str "-" t8)))
    (gq9 : PySem.W.nsIn K mainGlobals "MOST_WORDS" = some (some (.int 60 t9)))
    (gq10 : PySem.W.nsIn K mainGlobals "MOST_WITHIN" = some (some (.int 20 t10)))
    (gq11 : PySem.W.nsIn K mainGlobals "ALL" = some (some (.str "all" t11)))
    (gq12 : PySem.W.nsIn K mainGlobals "NONE" = some (some (.str "none" t12)))
    (gq13 : PySem.W.nsIn K mainGlobals "IS" = some (some (.str "is" t13)))
    (gq14 : PySem.W.nsIn K mainGlobals "UNDER" = some (some (.str "under" t14)))
    (gq15 : PySem.W.nsIn K mainGlobals "OVER" = some (some (.str "over" t15)))
    (gq16 : PySem.W.nsIn K mainGlobals "HOLDS" = some (some (.str "holds" t16)))
    (gq17 : PySem.W.nsIn K mainGlobals "NOT" = some (some (.str "not" t17)))
    (gq18 : PySem.W.nsIn K mainGlobals "BOTH" = some (some (.str "both" t18)))
    (gq19 : PySem.W.nsIn K mainGlobals "EITHER" = some (some (.str "either" t19)))
    (zq0 : PySem.W.nsIn K mainGlobals "ValueError" = some none)
    (zq1 : PySem.W.nsIn K mainGlobals "all" = some none)
    (zq2 : PySem.W.nsIn K mainGlobals "bool" = some none)
    (zq3 : PySem.W.nsIn K mainGlobals "enumerate" = some none)
    (zq4 : PySem.W.nsIn K mainGlobals "int" = some none)
    (zq5 : PySem.W.nsIn K mainGlobals "isinstance" = some none)
    (zq6 : PySem.W.nsIn K mainGlobals "len" = some none)
    (zq7 : PySem.W.nsIn K mainGlobals "max" = some none)
    (zq8 : PySem.W.nsIn K mainGlobals "range" = some none)
    (zq9 : PySem.W.nsIn K mainGlobals "str" = some none)
    (xq0 : PySem.W.nsIn K mainGlobals "LeafError" = some (some (.ref C0)))
    (xq1 : PySem.W.nsIn K mainGlobals "NoValue" = some (some (.ref C1)))
    (xq2 : PySem.W.nsIn K mainGlobals "NoSieve" = some (some (.ref C2)))
    (xq3 : PySem.W.nsIn K mainGlobals "Sieve" = some (some (.ref C3)))
    (xq4 : PySem.W.nsIn K mainGlobals "AllSieve" = some (some (.ref C4)))
    (xq5 : PySem.W.nsIn K mainGlobals "NoneSieve" = some (some (.ref C5)))
    (xq6 : PySem.W.nsIn K mainGlobals "ValueSieve" = some (some (.ref C6)))
    (xq7 : PySem.W.nsIn K mainGlobals "IsSieve" = some (some (.ref C7)))
    (xq8 : PySem.W.nsIn K mainGlobals "UnderSieve" = some (some (.ref C8)))
    (xq9 : PySem.W.nsIn K mainGlobals "OverSieve" = some (some (.ref C9)))
    (xq10 : PySem.W.nsIn K mainGlobals "HoldsSieve" = some (some (.ref C10)))
    (xq11 : PySem.W.nsIn K mainGlobals "NotSieve" = some (some (.ref C11)))
    (xq12 : PySem.W.nsIn K mainGlobals "PairSieve" = some (some (.ref C12)))
    (xq13 : PySem.W.nsIn K mainGlobals "BothSieve" = some (some (.ref C13)))
    (xq14 : PySem.W.nsIn K mainGlobals "EitherSieve" = some (some (.ref C14)))
    (yq0 : PySem.W.excIn K C1 bmV "ValueError.__new__" = true)
    (bt0 : PySem.W.readsIn K C0 (.type "type") = true)
    (bt1 : PySem.W.findCls K (.ref C0) (.type "type") "__init__" = some (.val (.builtin "ValueError.__init__")))
    (bt2 : PySem.W.specialIn K (.ref C0) "__getattribute__" = some (some (.builtin "type.__getattribute__")))
    (bt3 : PySem.W.typeIn K (.ref C0) = some (.type "type"))
    (bt4 : PySem.W.mroIn K C0 (.type "BaseException") = some true)
    (wr0 : xcIn K C1 C0 = true)
    (cq0_0 : PySem.W.typeIn K (.ref C1) = some (.type "type"))
    (cq0_1 : PySem.W.hasDictIn K C1 = true)
    (cq0_2 : PySem.W.findIn K (.ref C1) "__getattribute__" = some (some (.builtin "BaseException.__getattribute__")))
    (cq0_3 : PySem.W.findIn K (.ref C1) "__getattr__" = some none)
    (cq0_4 : PySem.W.findIn K (.ref C1) "__class__" = some (some (.builtin "object.__class__")))
    (cq0_5 : PySem.W.specialIn K (.builtin "object.__class__") "__get__" = some (some (.builtin "getset_descriptor.__get__")))
    (cq0_6 : PySem.W.takesIn K (.builtin "object.__class__") = some true)
    (cq0_7 : PySem.W.mroIn K C1 (.type "object") = some true)
    (cq0_8 : PySem.W.mroIn K C1 (.type "BaseException") = some true)
    (wr1 : xcIn K C2 C0 = true)
    (cq1_0 : PySem.W.typeIn K (.ref C2) = some (.type "type"))
    (cq1_1 : PySem.W.hasDictIn K C2 = true)
    (cq1_2 : PySem.W.findIn K (.ref C2) "__getattribute__" = some (some (.builtin "BaseException.__getattribute__")))
    (cq1_3 : PySem.W.findIn K (.ref C2) "__getattr__" = some none)
    (cq1_4 : PySem.W.findIn K (.ref C2) "__class__" = some (some (.builtin "object.__class__")))
    (cq1_5 : PySem.W.specialIn K (.builtin "object.__class__") "__get__" = some (some (.builtin "getset_descriptor.__get__")))
    (cq1_6 : PySem.W.takesIn K (.builtin "object.__class__") = some true)
    (cq1_7 : PySem.W.mroIn K C2 (.type "object") = some true)
    (cq1_8 : PySem.W.mroIn K C2 (.type "BaseException") = some true)
    (ia0 : PySem.W.findIn K (.ref C2) "__init__" = some (some (.ref fi0)))
    (il0 : K.lookup fi0 = some ⟨ioc0, iod0, .func (PySem.W.fnOf "__init__" "NoSieve.__init__" (defArgs s_NoSieve) (defBody s_NoSieve) (defScope s_NoSieve) .none ikV0 idc0 ipm0 ian0 icd0 ict0), isl0⟩)
    (ic0 : PySem.W.codeIn K icd0 "NoSieve.__init__" = true)
    (ik0 : PySem.W.keepIn K (.ref fi0) = true)
    (wi0 : iniIn K C2 fi0 = true)
    (if0 : PySem.W.isFn K (.ref fi0) = true)
    (is0 : PySem.W.findIn K (.ref C2) "__setattr__" = some (some (.builtin "object.__setattr__")))
    (it0 : PySem.W.takerIn K C2 "at" = some none)
    (id0 : PySem.W.findIn K (.ref C2) "at" = some none)
    (dd0 : [C0, C1, C2].Nodup)
    (oa0 : PySem.W.findIn K (.ref C3) "__init__" = some (some (.ref fo0)))
    (ol0 : K.lookup fo0 = some ⟨ooc0, ood0, .func (PySem.W.fnOf "__init__" "Sieve.__init__" (defArgs s_Sieve___init__) (defBody s_Sieve___init__) (defScope s_Sieve___init__) .none okV0 odc0 opm0 oan0 ocd0 oct0), osl0⟩)
    (oc0 : PySem.W.codeIn K ocd0 "Sieve.__init__" = true)
    (ok0 : PySem.W.keepIn K (.ref fo0) = true)
    (of0 : PySem.W.isFn K (.ref fo0) = true)
    (oa1 : PySem.W.findIn K (.ref C3) "lets" = some (some (.ref fo1)))
    (ol1 : K.lookup fo1 = some ⟨ooc1, ood1, .func (PySem.W.fnOf "lets" "Sieve.lets" (defArgs s_Sieve_lets) (defBody s_Sieve_lets) (defScope s_Sieve_lets) .none okV1 odc1 opm1 oan1 ocd1 oct1), osl1⟩)
    (oc1 : PySem.W.codeIn K ocd1 "Sieve.lets" = true)
    (ok1 : PySem.W.keepIn K (.ref fo1) = true)
    (of1 : PySem.W.isFn K (.ref fo1) = true)
    (oa2 : PySem.W.findIn K (.ref C3) "shown" = some (some (.ref fo2)))
    (ol2 : K.lookup fo2 = some ⟨ooc2, ood2, .func (PySem.W.fnOf "shown" "Sieve.shown" (defArgs s_Sieve_shown) (defBody s_Sieve_shown) (defScope s_Sieve_shown) .none okV2 odc2 opm2 oan2 ocd2 oct2), osl2⟩)
    (oc2 : PySem.W.codeIn K ocd2 "Sieve.shown" = true)
    (ok2 : PySem.W.keepIn K (.ref fo2) = true)
    (of2 : PySem.W.isFn K (.ref fo2) = true)
    (oa3 : PySem.W.findIn K (.ref C5) "__init__" = some (some (.ref fo3)))
    (ol3 : K.lookup fo3 = some ⟨ooc3, ood3, .func (PySem.W.fnOf "__init__" "NoneSieve.__init__" (defArgs s_NoneSieve___init__) (defBody s_NoneSieve___init__) (defScope s_NoneSieve___init__) .none okV3 odc3 opm3 oan3 ocd3 oct3), osl3⟩)
    (oc3 : PySem.W.codeIn K ocd3 "NoneSieve.__init__" = true)
    (ok3 : PySem.W.keepIn K (.ref fo3) = true)
    (of3 : PySem.W.isFn K (.ref fo3) = true)
    (oa4 : PySem.W.findIn K (.ref C5) "lets" = some (some (.ref fo4)))
    (ol4 : K.lookup fo4 = some ⟨ooc4, ood4, .func (PySem.W.fnOf "lets" "NoneSieve.lets" (defArgs s_NoneSieve_lets) (defBody s_NoneSieve_lets) (defScope s_NoneSieve_lets) .none okV4 odc4 opm4 oan4 ocd4 oct4), osl4⟩)
    (oc4 : PySem.W.codeIn K ocd4 "NoneSieve.lets" = true)
    (ok4 : PySem.W.keepIn K (.ref fo4) = true)
    (of4 : PySem.W.isFn K (.ref fo4) = true)
    (oa5 : PySem.W.findIn K (.ref C6) "__init__" = some (some (.ref fo5)))
    (ol5 : K.lookup fo5 = some ⟨ooc5, ood5, .func (PySem.W.fnOf "__init__" "ValueSieve.__init__" (defArgs s_ValueSieve___init__) (defBody s_ValueSieve___init__) (defScope s_ValueSieve___init__) .none okV5 odc5 opm5 oan5 ocd5 oct5), osl5⟩)
    (oc5 : PySem.W.codeIn K ocd5 "ValueSieve.__init__" = true)
    (ok5 : PySem.W.keepIn K (.ref fo5) = true)
    (of5 : PySem.W.isFn K (.ref fo5) = true)
    (oa6 : PySem.W.findIn K (.ref C6) "lets" = some (some (.ref fo6)))
    (ol6 : K.lookup fo6 = some ⟨ooc6, ood6, .func (PySem.W.fnOf "lets" "ValueSieve.lets" (defArgs s_ValueSieve_lets) (defBody s_ValueSieve_lets) (defScope s_ValueSieve_lets) .none okV6 odc6 opm6 oan6 ocd6 oct6), osl6⟩)
    (oc6 : PySem.W.codeIn K ocd6 "ValueSieve.lets" = true)
    (ok6 : PySem.W.keepIn K (.ref fo6) = true)
    (of6 : PySem.W.isFn K (.ref fo6) = true)
    (oa7 : PySem.W.findIn K (.ref C6) "fits" = some (some (.ref fo7)))
    (ol7 : K.lookup fo7 = some ⟨ooc7, ood7, .func (PySem.W.fnOf "fits" "ValueSieve.fits" (defArgs s_ValueSieve_fits) (defBody s_ValueSieve_fits) (defScope s_ValueSieve_fits) .none okV7 odc7 opm7 oan7 ocd7 oct7), osl7⟩)
    (oc7 : PySem.W.codeIn K ocd7 "ValueSieve.fits" = true)
    (ok7 : PySem.W.keepIn K (.ref fo7) = true)
    (of7 : PySem.W.isFn K (.ref fo7) = true)
    (oa8 : PySem.W.findIn K (.ref C8) "fits" = some (some (.ref fo8)))
    (ol8 : K.lookup fo8 = some ⟨ooc8, ood8, .func (PySem.W.fnOf "fits" "UnderSieve.fits" (defArgs s_UnderSieve_fits) (defBody s_UnderSieve_fits) (defScope s_UnderSieve_fits) .none okV8 odc8 opm8 oan8 ocd8 oct8), osl8⟩)
    (oc8 : PySem.W.codeIn K ocd8 "UnderSieve.fits" = true)
    (ok8 : PySem.W.keepIn K (.ref fo8) = true)
    (of8 : PySem.W.isFn K (.ref fo8) = true)
    (oa9 : PySem.W.findIn K (.ref C9) "fits" = some (some (.ref fo9)))
    (ol9 : K.lookup fo9 = some ⟨ooc9, ood9, .func (PySem.W.fnOf "fits" "OverSieve.fits" (defArgs s_OverSieve_fits) (defBody s_OverSieve_fits) (defScope s_OverSieve_fits) .none okV9 odc9 opm9 oan9 ocd9 oct9), osl9⟩)
    (oc9 : PySem.W.codeIn K ocd9 "OverSieve.fits" = true)
    (ok9 : PySem.W.keepIn K (.ref fo9) = true)
    (of9 : PySem.W.isFn K (.ref fo9) = true)
    (oa10 : PySem.W.findIn K (.ref C10) "fits" = some (some (.ref fo10)))
    (ol10 : K.lookup fo10 = some ⟨ooc10, ood10, .func (PySem.W.fnOf "fits" "HoldsSieve.fits" (defArgs s_HoldsSieve_fits) (defBody s_HoldsSieve_fits) (defScope s_HoldsSieve_fits) .none okV10 odc10 opm10 oan10 ocd10 oct10), osl10⟩)
    (oc10 : PySem.W.codeIn K ocd10 "HoldsSieve.fits" = true)
    (ok10 : PySem.W.keepIn K (.ref fo10) = true)
    (of10 : PySem.W.isFn K (.ref fo10) = true)
    (oa11 : PySem.W.findIn K (.ref C11) "__init__" = some (some (.ref fo11)))
    (ol11 : K.lookup fo11 = some ⟨ooc11, ood11, .func (PySem.W.fnOf "__init__" "NotSieve.__init__" (defArgs s_NotSieve___init__) (defBody s_NotSieve___init__) (defScope s_NotSieve___init__) .none okV11 odc11 opm11 oan11 ocd11 oct11), osl11⟩)
    (oc11 : PySem.W.codeIn K ocd11 "NotSieve.__init__" = true)
    (ok11 : PySem.W.keepIn K (.ref fo11) = true)
    (of11 : PySem.W.isFn K (.ref fo11) = true)
    (oa12 : PySem.W.findIn K (.ref C11) "lets" = some (some (.ref fo12)))
    (ol12 : K.lookup fo12 = some ⟨ooc12, ood12, .func (PySem.W.fnOf "lets" "NotSieve.lets" (defArgs s_NotSieve_lets) (defBody s_NotSieve_lets) (defScope s_NotSieve_lets) .none okV12 odc12 opm12 oan12 ocd12 oct12), osl12⟩)
    (oc12 : PySem.W.codeIn K ocd12 "NotSieve.lets" = true)
    (ok12 : PySem.W.keepIn K (.ref fo12) = true)
    (of12 : PySem.W.isFn K (.ref fo12) = true)
    (oa13 : PySem.W.findIn K (.ref C12) "__init__" = some (some (.ref fo13)))
    (ol13 : K.lookup fo13 = some ⟨ooc13, ood13, .func (PySem.W.fnOf "__init__" "PairSieve.__init__" (defArgs s_PairSieve___init__) (defBody s_PairSieve___init__) (defScope s_PairSieve___init__) .none okV13 odc13 opm13 oan13 ocd13 oct13), osl13⟩)
    (oc13 : PySem.W.codeIn K ocd13 "PairSieve.__init__" = true)
    (ok13 : PySem.W.keepIn K (.ref fo13) = true)
    (of13 : PySem.W.isFn K (.ref fo13) = true)
    (oa14 : PySem.W.findIn K (.ref C13) "lets" = some (some (.ref fo14)))
    (ol14 : K.lookup fo14 = some ⟨ooc14, ood14, .func (PySem.W.fnOf "lets" "BothSieve.lets" (defArgs s_BothSieve_lets) (defBody s_BothSieve_lets) (defScope s_BothSieve_lets) .none okV14 odc14 opm14 oan14 ocd14 oct14), osl14⟩)
    (oc14 : PySem.W.codeIn K ocd14 "BothSieve.lets" = true)
    (ok14 : PySem.W.keepIn K (.ref fo14) = true)
    (of14 : PySem.W.isFn K (.ref fo14) = true)
    (oa15 : PySem.W.findIn K (.ref C14) "lets" = some (some (.ref fo15)))
    (ol15 : K.lookup fo15 = some ⟨ooc15, ood15, .func (PySem.W.fnOf "lets" "EitherSieve.lets" (defArgs s_EitherSieve_lets) (defBody s_EitherSieve_lets) (defScope s_EitherSieve_lets) .none okV15 odc15 opm15 oan15 ocd15 oct15), osl15⟩)
    (oc15 : PySem.W.codeIn K ocd15 "EitherSieve.lets" = true)
    (ok15 : PySem.W.keepIn K (.ref fo15) = true)
    (of15 : PySem.W.isFn K (.ref fo15) = true)
    (pc3_0 : PySem.W.plainGet K C3 Str.empty = true)
    (pc3_1 : PySem.W.hasDictIn K C3 = true)
    (pc3_2 : PySem.W.plainOver K C3 = true)
    (pc3_3 : PySem.W.findIn K (.ref C3) "__setattr__" = some (some (.builtin "object.__setattr__")))
    (pi3 : PySem.W.makesIn K C3 = true)
    (pk3 : PySem.W.keepIn K (.ref C3) = true)
    (pf3_text : PySem.W.findIn K (.ref C3) "text" = some none)
    (pc4_0 : PySem.W.plainGet K C4 Str.empty = true)
    (pc4_1 : PySem.W.hasDictIn K C4 = true)
    (pc4_2 : PySem.W.plainOver K C4 = true)
    (pc4_3 : PySem.W.findIn K (.ref C4) "__setattr__" = some (some (.builtin "object.__setattr__")))
    (pm4_init : PySem.W.findIn K (.ref C4) "__init__" = some (some (.ref fo0)))
    (pi4 : PySem.W.makesIn K C4 = true)
    (pk4 : PySem.W.keepIn K (.ref C4) = true)
    (pm4_lets : PySem.W.findIn K (.ref C4) "lets" = some (some (.ref fo1)))
    (pm4_shown : PySem.W.findIn K (.ref C4) "shown" = some (some (.ref fo2)))
    (pf4_text : PySem.W.findIn K (.ref C4) "text" = some none)
    (pc5_0 : PySem.W.plainGet K C5 Str.empty = true)
    (pc5_1 : PySem.W.hasDictIn K C5 = true)
    (pc5_2 : PySem.W.plainOver K C5 = true)
    (pc5_3 : PySem.W.findIn K (.ref C5) "__setattr__" = some (some (.builtin "object.__setattr__")))
    (pi5 : PySem.W.makesIn K C5 = true)
    (pk5 : PySem.W.keepIn K (.ref C5) = true)
    (pm5_shown : PySem.W.findIn K (.ref C5) "shown" = some (some (.ref fo2)))
    (pf5_text : PySem.W.findIn K (.ref C5) "text" = some none)
    (pf5_place : PySem.W.findIn K (.ref C5) "place" = some none)
    (pc6_0 : PySem.W.plainGet K C6 Str.empty = true)
    (pc6_1 : PySem.W.hasDictIn K C6 = true)
    (pc6_2 : PySem.W.plainOver K C6 = true)
    (pc6_3 : PySem.W.findIn K (.ref C6) "__setattr__" = some (some (.builtin "object.__setattr__")))
    (pi6 : PySem.W.makesIn K C6 = true)
    (pk6 : PySem.W.keepIn K (.ref C6) = true)
    (pm6_shown : PySem.W.findIn K (.ref C6) "shown" = some (some (.ref fo2)))
    (pf6_text : PySem.W.findIn K (.ref C6) "text" = some none)
    (pf6_place : PySem.W.findIn K (.ref C6) "place" = some none)
    (pf6_value : PySem.W.findIn K (.ref C6) "value" = some none)
    (pc7_0 : PySem.W.plainGet K C7 Str.empty = true)
    (pc7_1 : PySem.W.hasDictIn K C7 = true)
    (pc7_2 : PySem.W.plainOver K C7 = true)
    (pc7_3 : PySem.W.findIn K (.ref C7) "__setattr__" = some (some (.builtin "object.__setattr__")))
    (pm7_init : PySem.W.findIn K (.ref C7) "__init__" = some (some (.ref fo5)))
    (pi7 : PySem.W.makesIn K C7 = true)
    (pk7 : PySem.W.keepIn K (.ref C7) = true)
    (pm7_fits : PySem.W.findIn K (.ref C7) "fits" = some (some (.ref fo7)))
    (pm7_lets : PySem.W.findIn K (.ref C7) "lets" = some (some (.ref fo6)))
    (pm7_shown : PySem.W.findIn K (.ref C7) "shown" = some (some (.ref fo2)))
    (pf7_text : PySem.W.findIn K (.ref C7) "text" = some none)
    (pf7_place : PySem.W.findIn K (.ref C7) "place" = some none)
    (pf7_value : PySem.W.findIn K (.ref C7) "value" = some none)
    (pc8_0 : PySem.W.plainGet K C8 Str.empty = true)
    (pc8_1 : PySem.W.hasDictIn K C8 = true)
    (pc8_2 : PySem.W.plainOver K C8 = true)
    (pc8_3 : PySem.W.findIn K (.ref C8) "__setattr__" = some (some (.builtin "object.__setattr__")))
    (pm8_init : PySem.W.findIn K (.ref C8) "__init__" = some (some (.ref fo5)))
    (pi8 : PySem.W.makesIn K C8 = true)
    (pk8 : PySem.W.keepIn K (.ref C8) = true)
    (pm8_lets : PySem.W.findIn K (.ref C8) "lets" = some (some (.ref fo6)))
    (pm8_shown : PySem.W.findIn K (.ref C8) "shown" = some (some (.ref fo2)))
    (pf8_text : PySem.W.findIn K (.ref C8) "text" = some none)
    (pf8_place : PySem.W.findIn K (.ref C8) "place" = some none)
    (pf8_value : PySem.W.findIn K (.ref C8) "value" = some none)
    (pc9_0 : PySem.W.plainGet K C9 Str.empty = true)
    (pc9_1 : PySem.W.hasDictIn K C9 = true)
    (pc9_2 : PySem.W.plainOver K C9 = true)
    (pc9_3 : PySem.W.findIn K (.ref C9) "__setattr__" = some (some (.builtin "object.__setattr__")))
    (pm9_init : PySem.W.findIn K (.ref C9) "__init__" = some (some (.ref fo5)))
    (pi9 : PySem.W.makesIn K C9 = true)
    (pk9 : PySem.W.keepIn K (.ref C9) = true)
    (pm9_lets : PySem.W.findIn K (.ref C9) "lets" = some (some (.ref fo6)))
    (pm9_shown : PySem.W.findIn K (.ref C9) "shown" = some (some (.ref fo2)))
    (pf9_text : PySem.W.findIn K (.ref C9) "text" = some none)
    (pf9_place : PySem.W.findIn K (.ref C9) "place" = some none)
    (pf9_value : PySem.W.findIn K (.ref C9) "value" = some none)
    (pc10_0 : PySem.W.plainGet K C10 Str.empty = true)
    (pc10_1 : PySem.W.hasDictIn K C10 = true)
    (pc10_2 : PySem.W.plainOver K C10 = true)
    (pc10_3 : PySem.W.findIn K (.ref C10) "__setattr__" = some (some (.builtin "object.__setattr__")))
    (pm10_init : PySem.W.findIn K (.ref C10) "__init__" = some (some (.ref fo5)))
    (pi10 : PySem.W.makesIn K C10 = true)
    (pk10 : PySem.W.keepIn K (.ref C10) = true)
    (pm10_lets : PySem.W.findIn K (.ref C10) "lets" = some (some (.ref fo6)))
    (pm10_shown : PySem.W.findIn K (.ref C10) "shown" = some (some (.ref fo2)))
    (pf10_text : PySem.W.findIn K (.ref C10) "text" = some none)
    (pf10_place : PySem.W.findIn K (.ref C10) "place" = some none)
    (pf10_value : PySem.W.findIn K (.ref C10) "value" = some none)
    (pc11_0 : PySem.W.plainGet K C11 Str.empty = true)
    (pc11_1 : PySem.W.hasDictIn K C11 = true)
    (pc11_2 : PySem.W.plainOver K C11 = true)
    (pc11_3 : PySem.W.findIn K (.ref C11) "__setattr__" = some (some (.builtin "object.__setattr__")))
    (pi11 : PySem.W.makesIn K C11 = true)
    (pk11 : PySem.W.keepIn K (.ref C11) = true)
    (pm11_shown : PySem.W.findIn K (.ref C11) "shown" = some (some (.ref fo2)))
    (pf11_text : PySem.W.findIn K (.ref C11) "text" = some none)
    (pf11_one : PySem.W.findIn K (.ref C11) "one" = some none)
    (pc12_0 : PySem.W.plainGet K C12 Str.empty = true)
    (pc12_1 : PySem.W.hasDictIn K C12 = true)
    (pc12_2 : PySem.W.plainOver K C12 = true)
    (pc12_3 : PySem.W.findIn K (.ref C12) "__setattr__" = some (some (.builtin "object.__setattr__")))
    (pi12 : PySem.W.makesIn K C12 = true)
    (pk12 : PySem.W.keepIn K (.ref C12) = true)
    (pm12_lets : PySem.W.findIn K (.ref C12) "lets" = some (some (.ref fo1)))
    (pm12_shown : PySem.W.findIn K (.ref C12) "shown" = some (some (.ref fo2)))
    (pf12_text : PySem.W.findIn K (.ref C12) "text" = some none)
    (pf12_one : PySem.W.findIn K (.ref C12) "one" = some none)
    (pf12_other : PySem.W.findIn K (.ref C12) "other" = some none)
    (pc13_0 : PySem.W.plainGet K C13 Str.empty = true)
    (pc13_1 : PySem.W.hasDictIn K C13 = true)
    (pc13_2 : PySem.W.plainOver K C13 = true)
    (pc13_3 : PySem.W.findIn K (.ref C13) "__setattr__" = some (some (.builtin "object.__setattr__")))
    (pm13_init : PySem.W.findIn K (.ref C13) "__init__" = some (some (.ref fo13)))
    (pi13 : PySem.W.makesIn K C13 = true)
    (pk13 : PySem.W.keepIn K (.ref C13) = true)
    (pm13_shown : PySem.W.findIn K (.ref C13) "shown" = some (some (.ref fo2)))
    (pf13_text : PySem.W.findIn K (.ref C13) "text" = some none)
    (pf13_one : PySem.W.findIn K (.ref C13) "one" = some none)
    (pf13_other : PySem.W.findIn K (.ref C13) "other" = some none)
    (pc14_0 : PySem.W.plainGet K C14 Str.empty = true)
    (pc14_1 : PySem.W.hasDictIn K C14 = true)
    (pc14_2 : PySem.W.plainOver K C14 = true)
    (pc14_3 : PySem.W.findIn K (.ref C14) "__setattr__" = some (some (.builtin "object.__setattr__")))
    (pm14_init : PySem.W.findIn K (.ref C14) "__init__" = some (some (.ref fo13)))
    (pi14 : PySem.W.makesIn K C14 = true)
    (pk14 : PySem.W.keepIn K (.ref C14) = true)
    (pm14_shown : PySem.W.findIn K (.ref C14) "shown" = some (some (.ref fo2)))
    (pf14_text : PySem.W.findIn K (.ref C14) "text" = some none)
    (pf14_one : PySem.W.findIn K (.ref C14) "one" = some none)
    (pf14_other : PySem.W.findIn K (.ref C14) "other" = some none)
    (pb3_init_0 : PySem.W.findCls K (.ref C3) (.type "type") "__init__" = some (.val (.ref fo0)))
    (pb3_init_1 : PySem.W.readsIn K C3 (.type "type") = true)
    (pb3_init_2 : PySem.W.specialIn K (.ref C3) "__getattribute__" = some (some (.builtin "type.__getattribute__")))
    : Txt K mg :=
  ⟨⟨_, _, fun_mk (st := s__wall) lq0 cq0 kq0, PySem.W.mg_of X G aq0⟩,
   ⟨_, _, fun_mk (st := s_made_of) lq1 cq1 kq1, PySem.W.mg_of X G aq1⟩,
   ⟨_, _, fun_mk (st := s_is_text_value) lq2 cq2 kq2, PySem.W.mg_of X G aq2⟩,
   ⟨_, _, fun_mk (st := s_are_figures) lq3 cq3 kq3, PySem.W.mg_of X G aq3⟩,
   ⟨_, _, fun_mk (st := s_read_figures) lq4 cq4 kq4, PySem.W.mg_of X G aq4⟩,
   ⟨_, _, fun_mk (st := s_read_number_word) lq5 cq5 kq5, PySem.W.mg_of X G aq5⟩,
   ⟨_, _, fun_mk (st := s_read_text_word) lq6 cq6 kq6, PySem.W.mg_of X G aq6⟩,
   ⟨_, _, fun_mk (st := s_read_value) lq7 cq7 kq7, PySem.W.mg_of X G aq7⟩,
   ⟨_, _, fun_mk (st := s_place_of) lq8 cq8 kq8, PySem.W.mg_of X G aq8⟩,
   ⟨_, _, fun_mk (st := s_word_at) lq9 cq9 kq9, PySem.W.mg_of X G aq9⟩,
   ⟨_, _, fun_mk (st := s_text_between) lq10 cq10 kq10, PySem.W.mg_of X G aq10⟩,
   ⟨_, _, fun_mk (st := s_read_column) lq11 cq11 kq11, PySem.W.mg_of X G aq11⟩,
   ⟨_, _, fun_mk (st := s_read_word) lq12 cq12 kq12, PySem.W.mg_of X G aq12⟩,
   ⟨_, _, fun_mk (st := s_read_none) lq13 cq13 kq13, PySem.W.mg_of X G aq13⟩,
   ⟨_, _, fun_mk (st := s_read_of_value) lq14 cq14 kq14, PySem.W.mg_of X G aq14⟩,
   ⟨_, _, fun_mk (st := s_read_of_sieves) lq15 cq15 kq15, PySem.W.mg_of X G aq15⟩,
   ⟨_, _, fun_mk (st := s_read_part) lq16 cq16 kq16, PySem.W.mg_of X G aq16⟩,
   ⟨_, _, fun_mk (st := s_read_sieve) lq17 cq17 kq17, PySem.W.mg_of X G aq17⟩,
   ⟨_, _, fun_mk (st := s__law_draw) lq18 cq18 kq18, PySem.W.mg_of X G aq18⟩,
   ⟨_, _, fun_mk (st := s__law_look) lq19 cq19 kq19, PySem.W.mg_of X G aq19⟩,
   ⟨_, _, fun_mk (st := s__law_tree) lq20 cq20 kq20, PySem.W.mg_of X G aq20⟩,
   ⟨_, _, fun_mk (st := s__law_strange) lq21 cq21 kq21, PySem.W.mg_of X G aq21⟩,
   ⟨_, _, fun_mk (st := s__law_over) lq22 cq22 kq22, PySem.W.mg_of X G aq22⟩,
   ⟨_, _, fun_mk (st := s__law_deep) lq23 cq23 kq23, PySem.W.mg_of X G aq23⟩,
   ⟨_, _, fun_mk (st := s__law_spoiled) lq24 cq24 kq24, PySem.W.mg_of X G aq24⟩,
   ⟨_, _, fun_mk (st := s__law_asked) lq25 cq25 kq25, PySem.W.mg_of X G aq25⟩,
   ⟨_, _, fun_mk (st := s_law) lq26 cq26 kq26, PySem.W.mg_of X G aq26⟩,
   ⟨_, PySem.W.mg_of X G gq0, _, rfl⟩,
   ⟨_, PySem.W.mg_of X G gq1, _, rfl⟩,
   ⟨_, PySem.W.mg_of X G gq2, _, rfl⟩,
   ⟨_, PySem.W.mg_of X G gq3, _, rfl⟩,
   ⟨_, PySem.W.mg_of X G gq4, _, rfl⟩,
   ⟨_, PySem.W.mg_of X G gq5, _, rfl⟩,
   ⟨_, PySem.W.mg_of X G gq6, _, rfl⟩,
   ⟨_, PySem.W.mg_of X G gq7, _, rfl⟩,
   ⟨_, PySem.W.mg_of X G gq8, _, rfl⟩,
   ⟨_, PySem.W.mg_of X G gq9, _, rfl⟩,
   ⟨_, PySem.W.mg_of X G gq10, _, rfl⟩,
   ⟨_, PySem.W.mg_of X G gq11, _, rfl⟩,
   ⟨_, PySem.W.mg_of X G gq12, _, rfl⟩,
   ⟨_, PySem.W.mg_of X G gq13, _, rfl⟩,
   ⟨_, PySem.W.mg_of X G gq14, _, rfl⟩,
   ⟨_, PySem.W.mg_of X G gq15, _, rfl⟩,
   ⟨_, PySem.W.mg_of X G gq16, _, rfl⟩,
   ⟨_, PySem.W.mg_of X G gq17, _, rfl⟩,
   ⟨_, PySem.W.mg_of X G gq18, _, rfl⟩,
   ⟨_, PySem.W.mg_of X G gq19, _, rfl⟩,
   PySem.W.mg_none_of X G zq0,
   PySem.W.mg_none_of X G zq1,
   PySem.W.mg_none_of X G zq2,
   PySem.W.mg_none_of X G zq3,
   PySem.W.mg_none_of X G zq4,
   PySem.W.mg_none_of X G zq5,
   PySem.W.mg_none_of X G zq6,
   PySem.W.mg_none_of X G zq7,
   PySem.W.mg_none_of X G zq8,
   PySem.W.mg_none_of X G zq9,
   (by have e := PySem.W.mg_of X G xq0; rw [clsA_eq e]; exact e),
   (by have e := PySem.W.mg_of X G xq1; rw [clsA_eq e]; exact e),
   (by have e := PySem.W.mg_of X G xq2; rw [clsA_eq e]; exact e),
   (by have e := PySem.W.mg_of X G xq3; rw [clsA_eq e]; exact e),
   (by have e := PySem.W.mg_of X G xq4; rw [clsA_eq e]; exact e),
   (by have e := PySem.W.mg_of X G xq5; rw [clsA_eq e]; exact e),
   (by have e := PySem.W.mg_of X G xq6; rw [clsA_eq e]; exact e),
   (by have e := PySem.W.mg_of X G xq7; rw [clsA_eq e]; exact e),
   (by have e := PySem.W.mg_of X G xq8; rw [clsA_eq e]; exact e),
   (by have e := PySem.W.mg_of X G xq9; rw [clsA_eq e]; exact e),
   (by have e := PySem.W.mg_of X G xq10; rw [clsA_eq e]; exact e),
   (by have e := PySem.W.mg_of X G xq11; rw [clsA_eq e]; exact e),
   (by have e := PySem.W.mg_of X G xq12; rw [clsA_eq e]; exact e),
   (by have e := PySem.W.mg_of X G xq13; rw [clsA_eq e]; exact e),
   (by have e := PySem.W.mg_of X G xq14; rw [clsA_eq e]; exact e),
   xcls_mk (PySem.W.mg_of X G xq1) yq0,
   xtop_mk (PySem.W.mg_of X G xq0) bt0 bt1 bt2 bt3 bt4,
   xc_mk (PySem.W.mg_of X G xq1) (PySem.W.mg_of X G xq0) wr0 cq0_0 cq0_1 cq0_2 cq0_3 cq0_4 cq0_5 cq0_6 cq0_7 cq0_8,
   xc_mk (PySem.W.mg_of X G xq2) (PySem.W.mg_of X G xq0) wr1 cq1_0 cq1_1 cq1_2 cq1_3 cq1_4 cq1_5 cq1_6 cq1_7 cq1_8,
   xini_mk (PySem.W.mg_of X G xq2) (PySem.W.mg_of X G xq0) (fun_mk (st := s_NoSieve) il0 ic0 ik0) wi0 if0 is0 it0 wr1,
   (by rw [clsA_eq (PySem.W.mg_of X G xq2)]; exact id0),
   (by rw [clsA_eq (PySem.W.mg_of X G xq0), clsA_eq (PySem.W.mg_of X G xq1), clsA_eq (PySem.W.mg_of X G xq2)]; exact dd0),
   cls_mk (PySem.W.mg_of X G xq3) pc3_0 pc3_1 pc3_2 pc3_3,
   oi_mk (PySem.W.mg_of X G xq3) (fun_mk (st := s_Sieve___init__) ol0 oc0 ok0) oa0 of0 pi3 pk3,
   om_mk (PySem.W.mg_of X G xq3) (fun_mk (st := s_Sieve_lets) ol1 oc1 ok1) oa1 of1,
   om_mk (PySem.W.mg_of X G xq3) (fun_mk (st := s_Sieve_shown) ol2 oc2 ok2) oa2 of2,
   (by rw [clsA_eq (PySem.W.mg_of X G xq3)]; exact pf3_text),
   cls_mk (PySem.W.mg_of X G xq4) pc4_0 pc4_1 pc4_2 pc4_3,
   oi_mk (PySem.W.mg_of X G xq4) (fun_mk (st := s_Sieve___init__) ol0 oc0 ok0) pm4_init of0 pi4 pk4,
   om_mk (PySem.W.mg_of X G xq4) (fun_mk (st := s_Sieve_lets) ol1 oc1 ok1) pm4_lets of1,
   om_mk (PySem.W.mg_of X G xq4) (fun_mk (st := s_Sieve_shown) ol2 oc2 ok2) pm4_shown of2,
   (by rw [clsA_eq (PySem.W.mg_of X G xq4)]; exact pf4_text),
   cls_mk (PySem.W.mg_of X G xq5) pc5_0 pc5_1 pc5_2 pc5_3,
   oi_mk (PySem.W.mg_of X G xq5) (fun_mk (st := s_NoneSieve___init__) ol3 oc3 ok3) oa3 of3 pi5 pk5,
   om_mk (PySem.W.mg_of X G xq5) (fun_mk (st := s_NoneSieve_lets) ol4 oc4 ok4) oa4 of4,
   om_mk (PySem.W.mg_of X G xq5) (fun_mk (st := s_Sieve_shown) ol2 oc2 ok2) pm5_shown of2,
   (by rw [clsA_eq (PySem.W.mg_of X G xq5)]; exact pf5_text),
   (by rw [clsA_eq (PySem.W.mg_of X G xq5)]; exact pf5_place),
   cls_mk (PySem.W.mg_of X G xq6) pc6_0 pc6_1 pc6_2 pc6_3,
   oi_mk (PySem.W.mg_of X G xq6) (fun_mk (st := s_ValueSieve___init__) ol5 oc5 ok5) oa5 of5 pi6 pk6,
   om_mk (PySem.W.mg_of X G xq6) (fun_mk (st := s_ValueSieve_fits) ol7 oc7 ok7) oa7 of7,
   om_mk (PySem.W.mg_of X G xq6) (fun_mk (st := s_ValueSieve_lets) ol6 oc6 ok6) oa6 of6,
   om_mk (PySem.W.mg_of X G xq6) (fun_mk (st := s_Sieve_shown) ol2 oc2 ok2) pm6_shown of2,
   (by rw [clsA_eq (PySem.W.mg_of X G xq6)]; exact pf6_text),
   (by rw [clsA_eq (PySem.W.mg_of X G xq6)]; exact pf6_place),
   (by rw [clsA_eq (PySem.W.mg_of X G xq6)]; exact pf6_value),
   cls_mk (PySem.W.mg_of X G xq7) pc7_0 pc7_1 pc7_2 pc7_3,
   oi_mk (PySem.W.mg_of X G xq7) (fun_mk (st := s_ValueSieve___init__) ol5 oc5 ok5) pm7_init of5 pi7 pk7,
   om_mk (PySem.W.mg_of X G xq7) (fun_mk (st := s_ValueSieve_fits) ol7 oc7 ok7) pm7_fits of7,
   om_mk (PySem.W.mg_of X G xq7) (fun_mk (st := s_ValueSieve_lets) ol6 oc6 ok6) pm7_lets of6,
   om_mk (PySem.W.mg_of X G xq7) (fun_mk (st := s_Sieve_shown) ol2 oc2 ok2) pm7_shown of2,
   (by rw [clsA_eq (PySem.W.mg_of X G xq7)]; exact pf7_text),
   (by rw [clsA_eq (PySem.W.mg_of X G xq7)]; exact pf7_place),
   (by rw [clsA_eq (PySem.W.mg_of X G xq7)]; exact pf7_value),
   cls_mk (PySem.W.mg_of X G xq8) pc8_0 pc8_1 pc8_2 pc8_3,
   oi_mk (PySem.W.mg_of X G xq8) (fun_mk (st := s_ValueSieve___init__) ol5 oc5 ok5) pm8_init of5 pi8 pk8,
   om_mk (PySem.W.mg_of X G xq8) (fun_mk (st := s_UnderSieve_fits) ol8 oc8 ok8) oa8 of8,
   om_mk (PySem.W.mg_of X G xq8) (fun_mk (st := s_ValueSieve_lets) ol6 oc6 ok6) pm8_lets of6,
   om_mk (PySem.W.mg_of X G xq8) (fun_mk (st := s_Sieve_shown) ol2 oc2 ok2) pm8_shown of2,
   (by rw [clsA_eq (PySem.W.mg_of X G xq8)]; exact pf8_text),
   (by rw [clsA_eq (PySem.W.mg_of X G xq8)]; exact pf8_place),
   (by rw [clsA_eq (PySem.W.mg_of X G xq8)]; exact pf8_value),
   cls_mk (PySem.W.mg_of X G xq9) pc9_0 pc9_1 pc9_2 pc9_3,
   oi_mk (PySem.W.mg_of X G xq9) (fun_mk (st := s_ValueSieve___init__) ol5 oc5 ok5) pm9_init of5 pi9 pk9,
   om_mk (PySem.W.mg_of X G xq9) (fun_mk (st := s_OverSieve_fits) ol9 oc9 ok9) oa9 of9,
   om_mk (PySem.W.mg_of X G xq9) (fun_mk (st := s_ValueSieve_lets) ol6 oc6 ok6) pm9_lets of6,
   om_mk (PySem.W.mg_of X G xq9) (fun_mk (st := s_Sieve_shown) ol2 oc2 ok2) pm9_shown of2,
   (by rw [clsA_eq (PySem.W.mg_of X G xq9)]; exact pf9_text),
   (by rw [clsA_eq (PySem.W.mg_of X G xq9)]; exact pf9_place),
   (by rw [clsA_eq (PySem.W.mg_of X G xq9)]; exact pf9_value),
   cls_mk (PySem.W.mg_of X G xq10) pc10_0 pc10_1 pc10_2 pc10_3,
   oi_mk (PySem.W.mg_of X G xq10) (fun_mk (st := s_ValueSieve___init__) ol5 oc5 ok5) pm10_init of5 pi10 pk10,
   om_mk (PySem.W.mg_of X G xq10) (fun_mk (st := s_HoldsSieve_fits) ol10 oc10 ok10) oa10 of10,
   om_mk (PySem.W.mg_of X G xq10) (fun_mk (st := s_ValueSieve_lets) ol6 oc6 ok6) pm10_lets of6,
   om_mk (PySem.W.mg_of X G xq10) (fun_mk (st := s_Sieve_shown) ol2 oc2 ok2) pm10_shown of2,
   (by rw [clsA_eq (PySem.W.mg_of X G xq10)]; exact pf10_text),
   (by rw [clsA_eq (PySem.W.mg_of X G xq10)]; exact pf10_place),
   (by rw [clsA_eq (PySem.W.mg_of X G xq10)]; exact pf10_value),
   cls_mk (PySem.W.mg_of X G xq11) pc11_0 pc11_1 pc11_2 pc11_3,
   oi_mk (PySem.W.mg_of X G xq11) (fun_mk (st := s_NotSieve___init__) ol11 oc11 ok11) oa11 of11 pi11 pk11,
   om_mk (PySem.W.mg_of X G xq11) (fun_mk (st := s_NotSieve_lets) ol12 oc12 ok12) oa12 of12,
   om_mk (PySem.W.mg_of X G xq11) (fun_mk (st := s_Sieve_shown) ol2 oc2 ok2) pm11_shown of2,
   (by rw [clsA_eq (PySem.W.mg_of X G xq11)]; exact pf11_text),
   (by rw [clsA_eq (PySem.W.mg_of X G xq11)]; exact pf11_one),
   cls_mk (PySem.W.mg_of X G xq12) pc12_0 pc12_1 pc12_2 pc12_3,
   oi_mk (PySem.W.mg_of X G xq12) (fun_mk (st := s_PairSieve___init__) ol13 oc13 ok13) oa13 of13 pi12 pk12,
   om_mk (PySem.W.mg_of X G xq12) (fun_mk (st := s_Sieve_lets) ol1 oc1 ok1) pm12_lets of1,
   om_mk (PySem.W.mg_of X G xq12) (fun_mk (st := s_Sieve_shown) ol2 oc2 ok2) pm12_shown of2,
   (by rw [clsA_eq (PySem.W.mg_of X G xq12)]; exact pf12_text),
   (by rw [clsA_eq (PySem.W.mg_of X G xq12)]; exact pf12_one),
   (by rw [clsA_eq (PySem.W.mg_of X G xq12)]; exact pf12_other),
   cls_mk (PySem.W.mg_of X G xq13) pc13_0 pc13_1 pc13_2 pc13_3,
   oi_mk (PySem.W.mg_of X G xq13) (fun_mk (st := s_PairSieve___init__) ol13 oc13 ok13) pm13_init of13 pi13 pk13,
   om_mk (PySem.W.mg_of X G xq13) (fun_mk (st := s_BothSieve_lets) ol14 oc14 ok14) oa14 of14,
   om_mk (PySem.W.mg_of X G xq13) (fun_mk (st := s_Sieve_shown) ol2 oc2 ok2) pm13_shown of2,
   (by rw [clsA_eq (PySem.W.mg_of X G xq13)]; exact pf13_text),
   (by rw [clsA_eq (PySem.W.mg_of X G xq13)]; exact pf13_one),
   (by rw [clsA_eq (PySem.W.mg_of X G xq13)]; exact pf13_other),
   cls_mk (PySem.W.mg_of X G xq14) pc14_0 pc14_1 pc14_2 pc14_3,
   oi_mk (PySem.W.mg_of X G xq14) (fun_mk (st := s_PairSieve___init__) ol13 oc13 ok13) pm14_init of13 pi14 pk14,
   om_mk (PySem.W.mg_of X G xq14) (fun_mk (st := s_EitherSieve_lets) ol15 oc15 ok15) oa15 of15,
   om_mk (PySem.W.mg_of X G xq14) (fun_mk (st := s_Sieve_shown) ol2 oc2 ok2) pm14_shown of2,
   (by rw [clsA_eq (PySem.W.mg_of X G xq14)]; exact pf14_text),
   (by rw [clsA_eq (PySem.W.mg_of X G xq14)]; exact pf14_one),
   (by rw [clsA_eq (PySem.W.mg_of X G xq14)]; exact pf14_other),
   ob_mk (PySem.W.mg_of X G xq3) (fun_mk (st := s_Sieve___init__) ol0 oc0 ok0) pb3_init_0 pb3_init_1 pb3_init_2⟩
end K08
open PySem PySem.W PyProof.Rows
set_option maxRecDepth 100000 in
set_option maxHeartbeats 0 in
theorem PySem.Challenge.cw_turnleaf_k08_sieves_refused_holds : PySem.Challenge.rw_turnleaf_k08_sieves_refused.Holds := by
  w_on; o_law; k_head; (case hw => w_witness2)
  k_fill
  refine L2.walk_of (l := PySem.Challenge.rw_turnleaf_k08_sieves_refused) (n := 63) (k := 70) (x := "_law_script") (CX := fun w => L2.CX1 PySem.Challenge.rw_turnleaf_k08_sieves_refused.prog w) (cc := true) (sp := fun w => L2.spLaw _) rfl (by decide) rfl ⟨fun _ => rfl, by decide, by decide⟩ (fun w h Y => PySem.W.kIn_of Y) ?F (fun _ _ a ns hl _ hS => ⟨a, ns, rfl, hS, hl, fun _ => rfl⟩) (fun _ _ _ _ _ z => L2.CX1.never z)
  case F =>
    intro w mg fa h KX G hmg
    have T : K08.Txt (L2.KOf KX) mg := by
      dsimp only [L2.KOf]
      refine' K08.txt_mk KX G ?aq0 ?lq0 ?cq0 ?kq0 ?aq1 ?lq1 ?cq1 ?kq1 ?aq2 ?lq2 ?cq2 ?kq2 ?aq3 ?lq3 ?cq3 ?kq3 ?aq4 ?lq4 ?cq4 ?kq4 ?aq5 ?lq5 ?cq5 ?kq5 ?aq6 ?lq6 ?cq6 ?kq6 ?aq7 ?lq7 ?cq7 ?kq7 ?aq8 ?lq8 ?cq8 ?kq8 ?aq9 ?lq9 ?cq9 ?kq9 ?aq10 ?lq10 ?cq10 ?kq10 ?aq11 ?lq11 ?cq11 ?kq11 ?aq12 ?lq12 ?cq12 ?kq12 ?aq13 ?lq13 ?cq13 ?kq13 ?aq14 ?lq14 ?cq14 ?kq14 ?aq15 ?lq15 ?cq15 ?kq15 ?aq16 ?lq16 ?cq16 ?kq16 ?aq17 ?lq17 ?cq17 ?kq17 ?aq18 ?lq18 ?cq18 ?kq18 ?aq19 ?lq19 ?cq19 ?kq19 ?aq20 ?lq20 ?cq20 ?kq20 ?aq21 ?lq21 ?cq21 ?kq21 ?aq22 ?lq22 ?cq22 ?kq22 ?aq23 ?lq23 ?cq23 ?kq23 ?aq24 ?lq24 ?cq24 ?kq24 ?aq25 ?lq25 ?cq25 ?kq25 ?aq26 ?lq26 ?cq26 ?kq26 ?gq0 ?gq1 ?gq2 ?gq3 ?gq4 ?gq5 ?gq6 ?gq7 ?gq8 ?gq9 ?gq10 ?gq11 ?gq12 ?gq13 ?gq14 ?gq15 ?gq16 ?gq17 ?gq18 ?gq19 ?zq0 ?zq1 ?zq2 ?zq3 ?zq4 ?zq5 ?zq6 ?zq7 ?zq8 ?zq9 ?xq0 ?xq1 ?xq2 ?xq3 ?xq4 ?xq5 ?xq6 ?xq7 ?xq8 ?xq9 ?xq10 ?xq11 ?xq12 ?xq13 ?xq14 ?yq0 ?bt0 ?bt1 ?bt2 ?bt3 ?bt4 ?wr0 ?cq0_0 ?cq0_1 ?cq0_2 ?cq0_3 ?cq0_4 ?cq0_5 ?cq0_6 ?cq0_7 ?cq0_8 ?wr1 ?cq1_0 ?cq1_1 ?cq1_2 ?cq1_3 ?cq1_4 ?cq1_5 ?cq1_6 ?cq1_7 ?cq1_8 ?ia0 ?il0 ?ic0 ?ik0 ?wi0 ?if0 ?is0 ?it0 ?id0 ?dd0 ?oa0 ?ol0 ?oc0 ?ok0 ?of0 ?oa1 ?ol1 ?oc1 ?ok1 ?of1 ?oa2 ?ol2 ?oc2 ?ok2 ?of2 ?oa3 ?ol3 ?oc3 ?ok3 ?of3 ?oa4 ?ol4 ?oc4 ?ok4 ?of4 ?oa5 ?ol5 ?oc5 ?ok5 ?of5 ?oa6 ?ol6 ?oc6 ?ok6 ?of6 ?oa7 ?ol7 ?oc7 ?ok7 ?of7 ?oa8 ?ol8 ?oc8 ?ok8 ?of8 ?oa9 ?ol9 ?oc9 ?ok9 ?of9 ?oa10 ?ol10 ?oc10 ?ok10 ?of10 ?oa11 ?ol11 ?oc11 ?ok11 ?of11 ?oa12 ?ol12 ?oc12 ?ok12 ?of12 ?oa13 ?ol13 ?oc13 ?ok13 ?of13 ?oa14 ?ol14 ?oc14 ?ok14 ?of14 ?oa15 ?ol15 ?oc15 ?ok15 ?of15 ?pc3_0 ?pc3_1 ?pc3_2 ?pc3_3 ?pi3 ?pk3 ?pf3_text ?pc4_0 ?pc4_1 ?pc4_2 ?pc4_3 ?pm4_init ?pi4 ?pk4 ?pm4_lets ?pm4_shown ?pf4_text ?pc5_0 ?pc5_1 ?pc5_2 ?pc5_3 ?pi5 ?pk5 ?pm5_shown ?pf5_text ?pf5_place ?pc6_0 ?pc6_1 ?pc6_2 ?pc6_3 ?pi6 ?pk6 ?pm6_shown ?pf6_text ?pf6_place ?pf6_value ?pc7_0 ?pc7_1 ?pc7_2 ?pc7_3 ?pm7_init ?pi7 ?pk7 ?pm7_fits ?pm7_lets ?pm7_shown ?pf7_text ?pf7_place ?pf7_value ?pc8_0 ?pc8_1 ?pc8_2 ?pc8_3 ?pm8_init ?pi8 ?pk8 ?pm8_lets ?pm8_shown ?pf8_text ?pf8_place ?pf8_value ?pc9_0 ?pc9_1 ?pc9_2 ?pc9_3 ?pm9_init ?pi9 ?pk9 ?pm9_lets ?pm9_shown ?pf9_text ?pf9_place ?pf9_value ?pc10_0 ?pc10_1 ?pc10_2 ?pc10_3 ?pm10_init ?pi10 ?pk10 ?pm10_lets ?pm10_shown ?pf10_text ?pf10_place ?pf10_value ?pc11_0 ?pc11_1 ?pc11_2 ?pc11_3 ?pi11 ?pk11 ?pm11_shown ?pf11_text ?pf11_one ?pc12_0 ?pc12_1 ?pc12_2 ?pc12_3 ?pi12 ?pk12 ?pm12_lets ?pm12_shown ?pf12_text ?pf12_one ?pf12_other ?pc13_0 ?pc13_1 ?pc13_2 ?pc13_3 ?pm13_init ?pi13 ?pk13 ?pm13_shown ?pf13_text ?pf13_one ?pf13_other ?pc14_0 ?pc14_1 ?pc14_2 ?pc14_3 ?pm14_init ?pi14 ?pk14 ?pm14_shown ?pf14_text ?pf14_one ?pf14_other ?pb3_init_0 ?pb3_init_1 ?pb3_init_2
      (case aq0 => k_is)
      (case lq0 => k_is)
      (case cq0 => k_is)
      (case kq0 => k_is)
      (case aq1 => k_is)
      (case lq1 => k_is)
      (case cq1 => k_is)
      (case kq1 => k_is)
      (case aq2 => k_is)
      (case lq2 => k_is)
      (case cq2 => k_is)
      (case kq2 => k_is)
      (case aq3 => k_is)
      (case lq3 => k_is)
      (case cq3 => k_is)
      (case kq3 => k_is)
      (case aq4 => k_is)
      (case lq4 => k_is)
      (case cq4 => k_is)
      (case kq4 => k_is)
      (case aq5 => k_is)
      (case lq5 => k_is)
      (case cq5 => k_is)
      (case kq5 => k_is)
      (case aq6 => k_is)
      (case lq6 => k_is)
      (case cq6 => k_is)
      (case kq6 => k_is)
      (case aq7 => k_is)
      (case lq7 => k_is)
      (case cq7 => k_is)
      (case kq7 => k_is)
      (case aq8 => k_is)
      (case lq8 => k_is)
      (case cq8 => k_is)
      (case kq8 => k_is)
      (case aq9 => k_is)
      (case lq9 => k_is)
      (case cq9 => k_is)
      (case kq9 => k_is)
      (case aq10 => k_is)
      (case lq10 => k_is)
      (case cq10 => k_is)
      (case kq10 => k_is)
      (case aq11 => k_is)
      (case lq11 => k_is)
      (case cq11 => k_is)
      (case kq11 => k_is)
      (case aq12 => k_is)
      (case lq12 => k_is)
      (case cq12 => k_is)
      (case kq12 => k_is)
      (case aq13 => k_is)
      (case lq13 => k_is)
      (case cq13 => k_is)
      (case kq13 => k_is)
      (case aq14 => k_is)
      (case lq14 => k_is)
      (case cq14 => k_is)
      (case kq14 => k_is)
      (case aq15 => k_is)
      (case lq15 => k_is)
      (case cq15 => k_is)
      (case kq15 => k_is)
      (case aq16 => k_is)
      (case lq16 => k_is)
      (case cq16 => k_is)
      (case kq16 => k_is)
      (case aq17 => k_is)
      (case lq17 => k_is)
      (case cq17 => k_is)
      (case kq17 => k_is)
      (case aq18 => k_is)
      (case lq18 => k_is)
      (case cq18 => k_is)
      (case kq18 => k_is)
      (case aq19 => k_is)
      (case lq19 => k_is)
      (case cq19 => k_is)
      (case kq19 => k_is)
      (case aq20 => k_is)
      (case lq20 => k_is)
      (case cq20 => k_is)
      (case kq20 => k_is)
      (case aq21 => k_is)
      (case lq21 => k_is)
      (case cq21 => k_is)
      (case kq21 => k_is)
      (case aq22 => k_is)
      (case lq22 => k_is)
      (case cq22 => k_is)
      (case kq22 => k_is)
      (case aq23 => k_is)
      (case lq23 => k_is)
      (case cq23 => k_is)
      (case kq23 => k_is)
      (case aq24 => k_is)
      (case lq24 => k_is)
      (case cq24 => k_is)
      (case kq24 => k_is)
      (case aq25 => k_is)
      (case lq25 => k_is)
      (case cq25 => k_is)
      (case kq25 => k_is)
      (case aq26 => k_is)
      (case lq26 => k_is)
      (case cq26 => k_is)
      (case kq26 => k_is)
      (case gq0 => k_is)
      (case gq1 => k_is)
      (case gq2 => k_is)
      (case gq3 => k_is)
      (case gq4 => k_is)
      (case gq5 => k_is)
      (case gq6 => k_is)
      (case gq7 => k_is)
      (case gq8 => k_is)
      (case gq9 => k_is)
      (case gq10 => k_is)
      (case gq11 => k_is)
      (case gq12 => k_is)
      (case gq13 => k_is)
      (case gq14 => k_is)
      (case gq15 => k_is)
      (case gq16 => k_is)
      (case gq17 => k_is)
      (case gq18 => k_is)
      (case gq19 => k_is)
      (case zq0 => k_is)
      (case zq1 => k_is)
      (case zq2 => k_is)
      (case zq3 => k_is)
      (case zq4 => k_is)
      (case zq5 => k_is)
      (case zq6 => k_is)
      (case zq7 => k_is)
      (case zq8 => k_is)
      (case zq9 => k_is)
      (case xq0 => k_is)
      (case xq1 => k_is)
      (case xq2 => k_is)
      (case xq3 => k_is)
      (case xq4 => k_is)
      (case xq5 => k_is)
      (case xq6 => k_is)
      (case xq7 => k_is)
      (case xq8 => k_is)
      (case xq9 => k_is)
      (case xq10 => k_is)
      (case xq11 => k_is)
      (case xq12 => k_is)
      (case xq13 => k_is)
      (case xq14 => k_is)
      (case yq0 => k_exc)
      (case bt0 => k_is)
      (case bt1 => k_is)
      (case bt2 => k_is)
      (case bt3 => k_is)
      (case bt4 => k_is)
      (case wr0 => kernel_rfl)
      (case cq0_0 => k_is)
      (case cq0_1 => k_is)
      (case cq0_2 => k_is)
      (case cq0_3 => k_is)
      (case cq0_4 => k_is)
      (case cq0_5 => k_is)
      (case cq0_6 => k_is)
      (case cq0_7 => k_is)
      (case cq0_8 => k_is)
      (case wr1 => kernel_rfl)
      (case cq1_0 => k_is)
      (case cq1_1 => k_is)
      (case cq1_2 => k_is)
      (case cq1_3 => k_is)
      (case cq1_4 => k_is)
      (case cq1_5 => k_is)
      (case cq1_6 => k_is)
      (case cq1_7 => k_is)
      (case cq1_8 => k_is)
      (case ia0 => k_is)
      (case il0 => k_is)
      (case ic0 => k_is)
      (case ik0 => k_is)
      (case wi0 => kernel_rfl)
      (case if0 => k_is)
      (case is0 => k_is)
      (case it0 => k_is)
      (case id0 => k_is)
      (case dd0 => decide)
      (case oa0 => k_is)
      (case ol0 => k_is)
      (case oc0 => k_is)
      (case ok0 => k_is)
      (case of0 => k_is)
      (case oa1 => k_is)
      (case ol1 => k_is)
      (case oc1 => k_is)
      (case ok1 => k_is)
      (case of1 => k_is)
      (case oa2 => k_is)
      (case ol2 => k_is)
      (case oc2 => k_is)
      (case ok2 => k_is)
      (case of2 => k_is)
      (case oa3 => k_is)
      (case ol3 => k_is)
      (case oc3 => k_is)
      (case ok3 => k_is)
      (case of3 => k_is)
      (case oa4 => k_is)
      (case ol4 => k_is)
      (case oc4 => k_is)
      (case ok4 => k_is)
      (case of4 => k_is)
      (case oa5 => k_is)
      (case ol5 => k_is)
      (case oc5 => k_is)
      (case ok5 => k_is)
      (case of5 => k_is)
      (case oa6 => k_is)
      (case ol6 => k_is)
      (case oc6 => k_is)
      (case ok6 => k_is)
      (case of6 => k_is)
      (case oa7 => k_is)
      (case ol7 => k_is)
      (case oc7 => k_is)
      (case ok7 => k_is)
      (case of7 => k_is)
      (case oa8 => k_is)
      (case ol8 => k_is)
      (case oc8 => k_is)
      (case ok8 => k_is)
      (case of8 => k_is)
      (case oa9 => k_is)
      (case ol9 => k_is)
      (case oc9 => k_is)
      (case ok9 => k_is)
      (case of9 => k_is)
      (case oa10 => k_is)
      (case ol10 => k_is)
      (case oc10 => k_is)
      (case ok10 => k_is)
      (case of10 => k_is)
      (case oa11 => k_is)
      (case ol11 => k_is)
      (case oc11 => k_is)
      (case ok11 => k_is)
      (case of11 => k_is)
      (case oa12 => k_is)
      (case ol12 => k_is)
      (case oc12 => k_is)
      (case ok12 => k_is)
      (case of12 => k_is)
      (case oa13 => k_is)
      (case ol13 => k_is)
      (case oc13 => k_is)
      (case ok13 => k_is)
      (case of13 => k_is)
      (case oa14 => k_is)
      (case ol14 => k_is)
      (case oc14 => k_is)
      (case ok14 => k_is)
      (case of14 => k_is)
      (case oa15 => k_is)
      (case ol15 => k_is)
      (case oc15 => k_is)
      (case ok15 => k_is)
      (case of15 => k_is)
      (case pc3_0 => k_is)
      (case pc3_1 => k_is)
      (case pc3_2 => k_is)
      (case pc3_3 => k_is)
      (case pi3 => k_is)
      (case pk3 => k_is)
      (case pf3_text => k_is)
      (case pc4_0 => k_is)
      (case pc4_1 => k_is)
      (case pc4_2 => k_is)
      (case pc4_3 => k_is)
      (case pm4_init => k_is)
      (case pi4 => k_is)
      (case pk4 => k_is)
      (case pm4_lets => k_is)
      (case pm4_shown => k_is)
      (case pf4_text => k_is)
      (case pc5_0 => k_is)
      (case pc5_1 => k_is)
      (case pc5_2 => k_is)
      (case pc5_3 => k_is)
      (case pi5 => k_is)
      (case pk5 => k_is)
      (case pm5_shown => k_is)
      (case pf5_text => k_is)
      (case pf5_place => k_is)
      (case pc6_0 => k_is)
      (case pc6_1 => k_is)
      (case pc6_2 => k_is)
      (case pc6_3 => k_is)
      (case pi6 => k_is)
      (case pk6 => k_is)
      (case pm6_shown => k_is)
      (case pf6_text => k_is)
      (case pf6_place => k_is)
      (case pf6_value => k_is)
      (case pc7_0 => k_is)
      (case pc7_1 => k_is)
      (case pc7_2 => k_is)
      (case pc7_3 => k_is)
      (case pm7_init => k_is)
      (case pi7 => k_is)
      (case pk7 => k_is)
      (case pm7_fits => k_is)
      (case pm7_lets => k_is)
      (case pm7_shown => k_is)
      (case pf7_text => k_is)
      (case pf7_place => k_is)
      (case pf7_value => k_is)
      (case pc8_0 => k_is)
      (case pc8_1 => k_is)
      (case pc8_2 => k_is)
      (case pc8_3 => k_is)
      (case pm8_init => k_is)
      (case pi8 => k_is)
      (case pk8 => k_is)
      (case pm8_lets => k_is)
      (case pm8_shown => k_is)
      (case pf8_text => k_is)
      (case pf8_place => k_is)
      (case pf8_value => k_is)
      (case pc9_0 => k_is)
      (case pc9_1 => k_is)
      (case pc9_2 => k_is)
      (case pc9_3 => k_is)
      (case pm9_init => k_is)
      (case pi9 => k_is)
      (case pk9 => k_is)
      (case pm9_lets => k_is)
      (case pm9_shown => k_is)
      (case pf9_text => k_is)
      (case pf9_place => k_is)
      (case pf9_value => k_is)
      (case pc10_0 => k_is)
      (case pc10_1 => k_is)
      (case pc10_2 => k_is)
      (case pc10_3 => k_is)
      (case pm10_init => k_is)
      (case pi10 => k_is)
      (case pk10 => k_is)
      (case pm10_lets => k_is)
      (case pm10_shown => k_is)
      (case pf10_text => k_is)
      (case pf10_place => k_is)
      (case pf10_value => k_is)
      (case pc11_0 => k_is)
      (case pc11_1 => k_is)
      (case pc11_2 => k_is)
      (case pc11_3 => k_is)
      (case pi11 => k_is)
      (case pk11 => k_is)
      (case pm11_shown => k_is)
      (case pf11_text => k_is)
      (case pf11_one => k_is)
      (case pc12_0 => k_is)
      (case pc12_1 => k_is)
      (case pc12_2 => k_is)
      (case pc12_3 => k_is)
      (case pi12 => k_is)
      (case pk12 => k_is)
      (case pm12_lets => k_is)
      (case pm12_shown => k_is)
      (case pf12_text => k_is)
      (case pf12_one => k_is)
      (case pf12_other => k_is)
      (case pc13_0 => k_is)
      (case pc13_1 => k_is)
      (case pc13_2 => k_is)
      (case pc13_3 => k_is)
      (case pm13_init => k_is)
      (case pi13 => k_is)
      (case pk13 => k_is)
      (case pm13_shown => k_is)
      (case pf13_text => k_is)
      (case pf13_one => k_is)
      (case pf13_other => k_is)
      (case pc14_0 => k_is)
      (case pc14_1 => k_is)
      (case pc14_2 => k_is)
      (case pc14_3 => k_is)
      (case pm14_init => k_is)
      (case pi14 => k_is)
      (case pk14 => k_is)
      (case pm14_shown => k_is)
      (case pf14_text => k_is)
      (case pf14_one => k_is)
      (case pf14_other => k_is)
      (case pb3_init_0 => k_is)
      (case pb3_init_1 => k_is)
      (case pb3_init_2 => k_is)
    obtain ⟨f, fd, F, hm⟩ := T.d_law
    have e0 := hmg.symm.trans hm
    cases e0
    obtain ⟨oc, od, kV, doc, pm, an, cdv, ct, osl, rfl, lk, hcd⟩ := id F.ex
    exact ⟨_, fun s u => .of_eq rfl, fun base kb nb => K08.law_fn T F⟩
#print axioms PySem.Challenge.cw_turnleaf_k08_sieves_refused_holds
